/- The reference of box: Handle, Num at four bytes, Looks. -/
import Derived.Test.YtlnjpmpddomjiaaGreatDoorGmBxHa
import Derived.StillTailTactics
set_option maxRecDepth 100000
namespace Go.Proofs.YtlnjpmpddomjiaaGreatDoor
open Go.RowKit

set_option maxHeartbeats 1000000 in
theorem refHandle_any (n : Nat) (hn : n < 4294967296) (w : World) :
    Calls Tryz.prog 55 #[.int .i64 (n : Int)] w fun e w' => ∃ v', e = .returned v' ∧ OwnB w' w.heap.size v' (fro ++ len4 n) ∧ Below w.heap.size w w' := by
  have HN := Lib.hid hn; clear hn
  have h1 : (n : Int) < 4294967296 := by have := HN.out; omega
  have hl4 : (len4 n).length = 4 := rfl
  have hf28 := fro_length
  go_enter Tryz.func55, Tryz.ntmps55
  go_wp2_with fail
  refine (front_any w).mono ?_
  rintro e w1 ⟨v1, rfl, ho, hb⟩
  have HO := Lib.hid ho; clear ho
  have HB := Lib.hid hb; clear hb
  go_wp2_with fail
  refine (bytesRef4 n HN.out w1).mono ?_
  rintro e w2 ⟨v2, rfl, ho, hb⟩
  have HS2 := Lib.hid ho.sl; clear ho
  have HO2 := Lib.hid (HO.out.below hb)
  have HB2 := Lib.hid (HB.out.trans (hb.mono HB.out.size)); clear hb
  go_wp2_with (at_builtin; ((with_reducible refine wpList_app_sl ?g1 (.tmp 3) (.tmp 7) ?g2 w.heap.size v1 fro (len4 n) ?g3 ?g4 w2.heap.size v2 ?g5 ?g6 ?g7 ?g8 ?_); (case g1 => rfl); (case g2 => rfl); (case g3 => rfl); (case g4 => exact HO2.out); (case g5 => rfl); (case g6 => exact HS2.out); (case g7 => rw [hl4, hf28]; omega); (case g8 => exact HB2.out.size); intro v' w3 hv hg; have Hv := Lib.hid hv; have Hg := Lib.hid (HB2.out.trans (HO2.out.belowBase hg HB2.out.size)); clear hv hg))
  go_ret
  exact ⟨v', rfl, Hv.out, Hg.out⟩
/-- What Num has read behind k bytes. -/
def num4k (a b c d : UInt8) : Nat → Nat
  | 0 => 0
  | 1 => a.toNat
  | 2 => a.toNat * 256 + b.toNat
  | 3 => (a.toNat * 256 + b.toNat) * 256 + c.toNat
  | _ => ((a.toNat * 256 + b.toNat) * 256 + c.toNat) * 256 + d.toNat
unseal num4 in
theorem num4k_all (a b c d : UInt8) : num4k a b c d 4 = num4 a b c d := by unfold num4; show ((a.toNat * 256 + b.toNat) * 256 + c.toNat) * 256 + d.toNat = _; omega
set_option maxHeartbeats 400000 in
theorem numRef4 (B : Nat) (v : Value) (a b c d : UInt8) (w : World) (hv : Sl w B v [a, b, c, d]) :
    Calls Tryz.prog 77 #[v] w fun e w' => e = .returned (.int .u64 (num4 a b c d : Int)) ∧ w = w' := by
  obtain ⟨A, cp, rfl, _, k1, k2, h3⟩ := hv
  obtain ⟨g, o, rfl, _, hbs⟩ := h3 (by simp)
  have c0 : w.cell? ⟨g, o, none⟩ = some (vb a) := hbs 0 (by simp)
  have c1 : w.cell? ⟨g, o + 1, none⟩ = some (vb b) := hbs 1 (by simp)
  have c2 : w.cell? ⟨g, o + 2, none⟩ = some (vb c) := hbs 2 (by simp)
  have c3 : w.cell? ⟨g, o + 3, none⟩ = some (vb d) := hbs 3 (by simp)
  clear hbs h3
  have hra := bn_range a
  have hrb := bn_range b
  have hrc := bn_range c
  have hrd := bn_range d
  have hm := Lib.hid (num4k_all a b c d)
  show Calls Tryz.prog 77 #[.slice (some ⟨g, o, none⟩) 4 cp] w _
  go_enter Tryz.func77, Tryz.ntmps77
  go_wp2_with fail
  go_loop [3, 8] (fun n i => (i = .int .i64 0 ∧ n = .int .u64 0) ∨ (i = .int .i64 1 ∧ n = .int .u64 (bn a)) ∨ (i = .int .i64 2 ∧ n = .int .u64 (bn a * 256 + bn b)) ∨ (i = .int .i64 3 ∧ n = .int .u64 ((bn a * 256 + bn b) * 256 + bn c)) ∨ (i = .int .i64 4 ∧ n = .int .u64 (((bn a * 256 + bn b) * 256 + bn c) * 256 + bn d))) (fun _ i => 4 - (intOf i).toNat)
  case atStart => exact .inl ⟨rfl, rfl⟩
  case round =>
    rcases hrel with ⟨rfl, rfl⟩ | ⟨rfl, rfl⟩ | ⟨rfl, rfl⟩ | ⟨rfl, rfl⟩ | ⟨rfl, rfl⟩
    · go_wp2_with fail
      go_round
      case rel => exact .inr (.inl ⟨rfl, by simp⟩)
      case measure => simp [intOf]
    · go_wp2_with fail
      go_round
      case rel => exact .inr (.inr (.inl ⟨rfl, rfl⟩))
      case measure => simp [intOf]
    · go_wp2_with fail
      go_round
      case rel => exact .inr (.inr (.inr (.inl ⟨rfl, rfl⟩)))
      case measure => simp [intOf]
    · go_wp2_with fail
      go_round
      case rel => exact .inr (.inr (.inr (.inr ⟨rfl, rfl⟩)))
      case measure => simp [intOf]
    · go_wp2_with fail
      go_ret
      refine ⟨?_, rfl⟩
      rw [← hm.out]
      show Ending.returned (Value.int .u64 (((bn a * 256 + bn b) * 256 + bn c) * 256 + bn d)) = .returned (.int .u64 ((((a.toNat * 256 + b.toNat) * 256 + c.toNat) * 256 + d.toNat : Nat) : Int))
      refine ret_int ?_
      unfold bn
      omega
end Go.Proofs.YtlnjpmpddomjiaaGreatDoor
