/- Words and counts as bytes: appendWord, appendWords, appendCount. -/
import Derived.Test.YteadncmhcbdicaaDoorApp
import Derived.Test.YteadncmhcbdicaaDoorShaO
namespace Go.Proofs.YteadncmhcbdicaaDoor
open Go.RowKit
attribute [local go_sem] bv_shr8 bv_shr16 bv_shr24 wrap_u8_wn un_mod32

theorem appendWord_any (base : Nat) (v : Value) (l : List UInt8) (x : BitVec 32) (w : World) (hown : OwnB w base v l) (hl : l.length ≤ 1000000) (hb : base ≤ w.heap.size) :
    Calls Tryd.prog 50 #[v, vw x] w fun e w' => ∃ v', e = .returned v' ∧ OwnB w' base v' (l ++ wb x) ∧ w.grownBy w' v.ownBlock := by
  have Hown := Lib.hid hown; clear hown
  go_enter Tryd.func50, Tryd.ntmps50
  have hs : Hid (Bs (w.alloc (.cells #[vb (UInt8.ofNat (x >>> 24).toNat), vb (UInt8.ofNat (x >>> 16).toNat), vb (UInt8.ofNat (x >>> 8).toNat), vb (UInt8.ofNat x.toNat)] 5)) w.heap.size 0 (wb x)) := Lib.hid (Bs.of_blk (Blk.newA _ _ _) 0 (fun j hj => by
    match j, hj with
    | 0, _ => rfl
    | 1, _ => rfl
    | 2, _ => rfl
    | 3, _ => rfl))
  go_wp2_with ((with_reducible refine wpList_app ?g1 (.tmp 5) (.tmp 17) ?g2 base v l (wb x) ?g3 ?g4 w.heap.size 0 4 4 ?g5 ?g6 ?g7 ?g8 ?g9 ?_); (case g1 => rfl); (case g2 => rfl); (case g3 => rfl); (case g4 => exact Hown.out.below ((Below.refl _ _).alloc (Nat.le_refl _) _)); (case g5 => rfl); (case g6 => exact wb_length x); (case g7 => exact hs.out); (case g8 => omega); (case g9 => simp; omega); intro v' w1 hv hg; have Hv := Lib.hid hv; clear hv; have Hg := Lib.hid hg; clear hg)
  go_ret
  exact ⟨_, rfl, Hv.out, (World.grownBy_alloc w _ _).trans Hg.out⟩
theorem stlist_length (s : St) : s.list.length = 8 := rfl
set_option maxRecDepth 100000 in
set_option maxHeartbeats 400000 in
theorem appendWords_any (base : Nat) (v : Value) (l : List UInt8) (s : St) (w : World) (hown : OwnB w base v l) (hl : l.length ≤ 100000) (hb : base ≤ w.heap.size) :
    Calls Tryd.prog 37 #[v, .agg s.cells.toArray] w fun e w' => ∃ v', e = .returned v' ∧ OwnB w' base v' (l ++ wbs s.list) ∧ Below base w w' := by
  have Hown := Lib.hid hown; clear hown
  go_enter Tryd.func37, Tryd.ntmps37
  go_wp2
  go_loopw [0, 8] (fun u i wr => ∃ k : Nat, k ≤ 8 ∧ i = .int .i64 k ∧ OwnB wr base u (l ++ wbs (s.list.take k)) ∧ Below base w wr) (fun _ i _ => 8 - (intOf i).toNat)
  case atStart => exact ⟨0, by omega, rfl, by simpa [wbs] using Hown.out.below ((Below.refl _ _).alloc (Nat.le_refl _) _), (Below.refl _ _).alloc hb _⟩
  case round =>
    obtain ⟨k, hk, rfl, hO, hB⟩ := hrel
    have HO := Lib.hid hO; clear hO
    have HB := Lib.hid hB; clear hB
    by_cases hlt : k < 8
    · have hx := index8 s k hlt
      have hlen : (l ++ wbs (s.list.take k)).length ≤ 1000000 := by rw [List.length_append, wbs_length, List.length_take, stlist_length]; omega
      have HL := Lib.hid hlen; clear hlen
      obtain ⟨k0, k1⟩ : (0 : Int) ≤ (k : Int) ∧ (k : Int) < 8 := ⟨by omega, by omega⟩
      go_wp2_with fail
      refine (appendWord_any base _ _ (s.list.getD k 0) wr HO.out HL.out (by have := HB.out.size; omega)).mono ?_
      rintro e w1 ⟨v1, rfl, hO1, hg1⟩
      have HO1 := Lib.hid hO1; clear hO1
      have HG1 := Lib.hid hg1; clear hg1
      go_wp2_with fail
      go_roundw
      case rel =>
        refine ⟨k + 1, by omega, by go_num, ?_, HB.out.trans (HO.out.belowBase HG1.out (by have := HB.out.size; omega))⟩
        rw [wbs_take _ _ (by rw [stlist_length]; exact hlt), ← List.append_assoc]
        exact HO1.out
      case measure => simp [intOf]; omega
    · obtain rfl : k = 8 := by omega
      go_wp2
      go_ret
      exact ⟨_, rfl, HO.out, HB.out⟩
theorem appendCount_any (base : Nat) (v : Value) (l : List UInt8) (n : Nat) (w : World) (hown : OwnB w base v l) (hl : l.length ≤ 100000) (hb : base ≤ w.heap.size) :
    Calls Tryd.prog 49 #[v, .int .u64 (un n)] w fun e w' => ∃ v', e = .returned v' ∧ OwnB w' base v' (l ++ be n 8) ∧ Below base w w' := by
  have Hown := Lib.hid hown; clear hown
  have h1 := un_shr32 n
  have hlen : (l ++ wb (BitVec.ofNat 32 (n % 18446744073709551616 / 4294967296))).length ≤ 1000000 := by rw [List.length_append, wb_length]; omega
  have HL := Lib.hid hlen; clear hlen
  go_enter Tryd.func49, Tryd.ntmps49
  go_wp2_with fail
  refine (appendWord_any base _ _ _ w Hown.out (by omega) hb).mono ?_
  rintro e w1 ⟨v1, rfl, hO1, hg1⟩
  have HO1 := Lib.hid hO1; clear hO1
  have HB1 := Lib.hid (Hown.out.belowBase hg1 hb); clear hg1
  go_wp2_with fail
  refine (appendWord_any base _ _ _ w1 HO1.out HL.out (by have := HB1.out.size; omega)).mono ?_
  rintro e w2 ⟨v2, rfl, hO2, hg2⟩
  have HO2 := Lib.hid hO2; clear hO2
  have HB2 := Lib.hid (HO1.out.belowBase hg2 (by have := HB1.out.size; omega)); clear hg2
  go_wp2_with fail
  go_ret
  refine ⟨_, rfl, ?_, HB1.out.trans HB2.out⟩
  have := HO2.out
  rw [List.append_assoc, count_be] at this
  exact this
end Go.Proofs.YteadncmhcbdicaaDoor
