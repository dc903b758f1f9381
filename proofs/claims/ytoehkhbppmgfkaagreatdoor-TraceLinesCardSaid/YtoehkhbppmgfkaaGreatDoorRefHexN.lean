/- The reference's Hex alone (RefHex over HexN). -/
import Derived.Test.YtoehkhbppmgfkaaGreatDoorHexN
import Derived.Deep.QuietTactic
import Derived.BigQuiet
import Derived.WalkSpells
namespace Go.Proofs.YtoehkhbppmgfkaaGreatDoor
open Go.RowKit

theorem dig4_hi (b : UInt8) : dig 4 [b] 0 = b.toNat / 16 := by
  have := b.toNat_lt
  unfold dig numL
  simp
  omega
theorem dig4_lo (b : UInt8) : dig 4 [b] 1 = b.toNat % 16 := by
  have := b.toNat_lt
  unfold dig numL
  simp
theorem encH_one (b : UInt8) : encH [b] = [alH.getD (b.toNat / 16) 0, alH.getD (b.toNat % 16) 0] := by
  have e : encH [b] = [alH.getD (dig 4 [b] 0) 0, alH.getD (dig 4 [b] 1) 0] := by unfold encH letters; rw [show many 4 [b].length = 2 from by simp [many], show List.range 2 = [0, 1] from by decide]; rfl
  rw [e, dig4_hi, dig4_lo]
theorem encH_cat (a b : List UInt8) : encH (a ++ b) = encH a ++ encH b :=
  letters_append 4 (by decide) alH a b (2 * a.length) (by omega)
theorem encH_len (l : List UInt8) : (encH l).length = 2 * l.length := by unfold encH; rw [letters_length]; unfold many; omega
theorem encH_nil : encH [] = [] := rfl
/-- One digit out of the sixteen. -/
def hexs : ByteArray := ⟨#[48, 49, 50, 51, 52, 53, 54, 55, 56, 57, 97, 98, 99, 100, 101, 102]⟩
theorem hexs_cut (n : Nat) (h : n < 16) : hexs.extract n (n + 1) = ⟨#[alH.getD n 0]⟩ := by
  have : ∀ n : Fin 16, hexs.extract n.val (n.val + 1) = ⟨#[alH.getD n.val 0]⟩ := by decide +kernel
  exact this ⟨n, h⟩
theorem hexs_two (t : List UInt8) (x : UInt8) : (ByteArray.mk t.toArray ++ (hexs.extract (bn x / 16).toNat (bn x / 16 + 1).toNat ++ hexs.extract (bn x % 16).toNat (bn x % 16 + 1).toNat)) = ByteArray.mk (t ++ encH [x]).toArray := by
  have hx := x.toNat_lt
  have e1 : (bn x / 16).toNat = x.toNat / 16 := by unfold bn; omega
  have e2 : (bn x / 16 + 1).toNat = x.toNat / 16 + 1 := by unfold bn; omega
  have e3 : (bn x % 16).toNat = x.toNat % 16 := by unfold bn; omega
  have e4 : (bn x % 16 + 1).toNat = x.toNat % 16 + 1 := by unfold bn; omega
  rw [e1, e2, e3, e4, hexs_cut _ (by omega), hexs_cut _ (by omega), encH_one]
  show ByteArray.mk t.toArray ++ (ByteArray.mk [alH.getD (x.toNat / 16) 0].toArray ++ ByteArray.mk [alH.getD (x.toNat % 16) 0].toArray) = _
  rw [ByteArray.mk_append_mk, ByteArray.mk_append_mk]; rfl
set_option maxRecDepth 100000 in
set_option maxHeartbeats 1000000 in
theorem refHex_any (B : Nat) (v : Value) (l : List UInt8) (w : World) (hv : Sl w B v l) (hB : B ≤ w.heap.size) (hl : l.length ≤ 100000) :
    Calls Tryz.prog 21 #[v] w fun e w' => e = .returned (str (encH l)) ∧ Below w.heap.size w w' := by
  obtain ⟨A, c, rfl, _, h1, h2, h3⟩ := hv
  have H3 := Lib.hid h3; clear h3
  go_enter Tryz.func21, Tryz.ntmps21
  go_wp2_with fail
  go_loopw [3, 5, 8] (fun o _ i wr => ∃ k : Nat, k ≤ l.length ∧ i = .int .i64 k ∧ o = str (encH (l.take k)) ∧ Below w.heap.size w wr) (fun _ _ i _ => l.length - (intOf i).toNat)
  case atStart => exact ⟨0, by omega, rfl, by rw [List.take_zero, encH_nil], Below.refl _ _⟩
  case round =>
    obtain ⟨k, hk, rfl, rfl, hBl⟩ := hrel
    have HBl := Lib.hid hBl; clear hBl
    obtain ⟨t, ht⟩ : ∃ t, t = encH (l.take k) := ⟨_, rfl⟩
    have htl : t.length ≤ 1000000 := by rw [ht, encH_len, List.length_take]; omega
    rw [← ht]
    have Ht := Lib.hid ht; clear ht
    by_cases hlt : k < l.length
    · obtain ⟨b, o, rfl, hb, hbs⟩ := H3.out (by omega)
      obtain ⟨x, hx⟩ : ∃ x, x = l.getD k 0 := ⟨_, rfl⟩
      have hc : wr.cell? ⟨b, o + k, none⟩ = some (vb x) := by rw [hx]; exact (hbs.below HBl.out (by omega)).getD hlt
      have Hx := Lib.hid hx; clear hx hbs
      have hb0 := bn_range x
      go_wp2_with fail
      have Hn : Hid (encH (l.take (k + 1)) = t ++ encH [x]) := Lib.hid (by
        rw [List.take_succ_eq_append_getElem hlt, encH_cat, Ht.out, Hx.out, List.getD_eq_getElem?_getD, List.getElem?_eq_getElem hlt]; rfl)
      go_quiet (fail)
      go_wp2_with fail
      go_roundw
      case rel => exact ⟨k + 1, by omega, by go_num, by rw [Hn.out]; exact congrArg Value.string (hexs_two t x), below_drewN HBl.out nq⟩
      case measure => simp [intOf]; omega
    · obtain rfl : k = l.length := by omega
      rw [List.take_length] at Ht
      go_wp2_with fail
      go_ret
      exact ⟨by rw [← Ht.out]; rfl, HBl.out⟩
end Go.Proofs.YtoehkhbppmgfkaaGreatDoor
