/- Hex: the reference's and the program's. -/
import Derived.Test.YtkbelfoeofhppaaDoorCut
import Derived.Test.YtkbelfoeofhppaaDoorShaO
import Derived.Deep.QuietTactic
import Derived.BigQuiet
import Derived.WalkSpells
namespace Go.Proofs.YtkbelfoeofhppaaDoor
open Go.RowKit

theorem hexL_cat (a b : List UInt8) : hexL (a ++ b) = hexL a ++ hexL b := by unfold hexL; rw [List.flatMap_append]
theorem hexL_nil : hexL [] = [] := by unfold hexL; rfl
theorem hexL_one (b : UInt8) : hexL [b] = [digit (b.toNat / 16), digit (b.toNat % 16)] := by unfold hexL; rfl
/-- One digit out of the sixteen. -/
def hexs : ByteArray := ⟨#[48, 49, 50, 51, 52, 53, 54, 55, 56, 57, 97, 98, 99, 100, 101, 102]⟩
theorem hexs_cut (n : Nat) (h : n < 16) : hexs.extract n (n + 1) = ⟨#[digit n]⟩ := by
  have : ∀ n : Fin 16, hexs.extract n.val (n.val + 1) = ⟨#[digit n.val]⟩ := by decide +kernel
  exact this ⟨n, h⟩
theorem hexs_two (t : List UInt8) (x : UInt8) : (ByteArray.mk t.toArray ++ (hexs.extract (bn x / 16).toNat (bn x / 16 + 1).toNat ++ hexs.extract (bn x % 16).toNat (bn x % 16 + 1).toNat)) = ByteArray.mk (t ++ hexL [x]).toArray := by
  have hx := x.toNat_lt
  have e1 : (bn x / 16).toNat = x.toNat / 16 := by unfold bn; omega
  have e2 : (bn x / 16 + 1).toNat = x.toNat / 16 + 1 := by unfold bn; omega
  have e3 : (bn x % 16).toNat = x.toNat % 16 := by unfold bn; omega
  have e4 : (bn x % 16 + 1).toNat = x.toNat % 16 + 1 := by unfold bn; omega
  rw [e1, e2, e3, e4, hexs_cut _ (by omega), hexs_cut _ (by omega), hexL_one]
  show ByteArray.mk t.toArray ++ (ByteArray.mk [digit (x.toNat / 16)].toArray ++ ByteArray.mk [digit (x.toNat % 16)].toArray) = _
  rw [ByteArray.mk_append_mk, ByteArray.mk_append_mk]; rfl
set_option maxRecDepth 100000 in
set_option maxHeartbeats 1000000 in
theorem refHex_any (B : Nat) (v : Value) (l : List UInt8) (w : World) (hv : Sl w B v l) (hB : B ≤ w.heap.size) (hl : l.length ≤ 100000) :
    Calls Tryd.prog 32 #[v] w fun e w' => e = .returned (str (hexL l)) ∧ Below w.heap.size w w' := by
  obtain ⟨A, c, rfl, _, h1, h2, h3⟩ := hv
  have H3 := Lib.hid h3; clear h3
  go_enter Tryd.func32, Tryd.ntmps32
  go_wp2_with fail
  go_loopw [3, 5, 8] (fun o _ i wr => ∃ k : Nat, k ≤ l.length ∧ i = .int .i64 k ∧ o = str (hexL (l.take k)) ∧ Below w.heap.size w wr) (fun _ _ i _ => l.length - (intOf i).toNat)
  case atStart => exact ⟨0, by omega, rfl, by rw [List.take_zero, hexL_nil], Below.refl _ _⟩
  case round =>
    obtain ⟨k, hk, rfl, rfl, hBl⟩ := hrel
    have HBl := Lib.hid hBl; clear hBl
    obtain ⟨t, ht⟩ : ∃ t, t = hexL (l.take k) := ⟨_, rfl⟩
    have htl : t.length ≤ 1000000 := by rw [ht, hexL_length, List.length_take]; omega
    rw [← ht]
    have Ht := Lib.hid ht; clear ht
    by_cases hlt : k < l.length
    · obtain ⟨b, o, rfl, hb, hbs⟩ := H3.out (by omega)
      obtain ⟨x, hx⟩ : ∃ x, x = l.getD k 0 := ⟨_, rfl⟩
      have hc : wr.cell? ⟨b, o + k, none⟩ = some (vb x) := by rw [hx]; exact (hbs.below HBl.out (by omega)).getD hlt
      have Hx := Lib.hid hx; clear hx hbs
      have hb0 := bn_range x
      go_wp2_with fail
      have Hn : Hid (hexL (l.take (k + 1)) = t ++ hexL [x]) := Lib.hid (by
        rw [List.take_succ_eq_append_getElem hlt, hexL_cat, Ht.out, Hx.out, List.getD_eq_getElem?_getD, List.getElem?_eq_getElem hlt]; rfl)
      go_quiet (fail)
      go_wp2_with fail
      go_roundw
      case rel => exact ⟨k + 1, by omega, by go_num, by rw [Hn.out]; exact congrArg Value.string (hexs_two t x), below_drewN HBl.out nq⟩
      case measure => simp [intOf]; omega
    · obtain rfl : k = l.length := by omega
      rw [List.take_length] at Ht
      go_wp2_with fail
      go_ret
      exact ⟨by rw [← Ht.out]; rfl, HBl.out⟩
end Go.Proofs.YtkbelfoeofhppaaDoor
