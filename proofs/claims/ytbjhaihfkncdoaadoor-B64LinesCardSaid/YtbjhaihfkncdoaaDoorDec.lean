/- b64.Decode, DecodeURL. -/
import Derived.Test.YtbjhaihfkncdoaaDoorUnspell
namespace Go.Proofs.YtbjhaihfkncdoaaDoor
open Go.RowKit

/-- Without k signs of equality at the end, as far as they are there. -/
def strip : Nat → List UInt8 → List UInt8
  | 0, s => s
  | k + 1, s => Lib.trimSuffix (strip k s) [61]
def decS (s : List UInt8) : List UInt8 × Int := if s.length % 4 = 0 then unS 6 alS (strip 2 s) else ([], 2)
def decU (s : List UInt8) : List UInt8 × Int := if s.length % 4 = 1 then ([], 2) else unS 6 alU s
theorem trim_le (s p : List UInt8) : (Lib.trimSuffix s p).length ≤ s.length := by
  unfold Lib.trimSuffix
  split
  · rw [List.length_take]; omega
  · exact Nat.le_refl _
theorem strip_le (k : Nat) (s : List UInt8) : (strip k s).length ≤ s.length := by
  induction k with
  | zero => exact Nat.le_refl _
  | succ k ih => exact Nat.le_trans (trim_le _ _) ih
set_option maxRecDepth 100000 in
set_option maxHeartbeats 400000 in
theorem decode_short (s : List UInt8) (w : World) (hl : s.length ≤ 100000) (h1 : s.length % 4 ≠ 0) :
    Calls Tryd.prog 37 #[str s] w fun e w' => ∃ v', e = .returned (.tuple #[v', .int .i64 (decS s).2]) ∧ OwnB w' w.heap.size v' (decS s).1 ∧ Below w.heap.size w w' := by
  have HR : Hid (decS s = ([], 2)) := Lib.hid (by unfold decS; rw [if_neg h1])
  have hb : (((s.length : Int)) % 4 == 0) = false := beq_eq_false_iff_ne.2 (by omega)
  have hb2 : (((s.length : Int)) % 4 != 0) = true := by rw [bne_iff_ne]; omega
  clear h1
  go_enter Tryd.func37, Tryd.ntmps37
  go_wp2_with fail
  go_ret2
  exact ⟨.slice none 0 0, by rw [HR.out]; rfl, by rw [HR.out]; exact OwnB.nil _ _, Below.refl _ _⟩
set_option maxRecDepth 100000 in
set_option maxHeartbeats 400000 in
theorem decode_four (s : List UInt8) (w : World) (hl : s.length ≤ 100000) (h1 : s.length % 4 = 0) :
    Calls Tryd.prog 37 #[str s] w fun e w' => ∃ v', e = .returned (.tuple #[v', .int .i64 (decS s).2]) ∧ OwnB w' w.heap.size v' (decS s).1 ∧ Below w.heap.size w w' := by
  have HR : Hid (decS s = unS 6 alS (strip 2 s)) := Lib.hid (by unfold decS; rw [if_pos h1])
  have hb : (((s.length : Int)) % 4 == 0) = true := beq_iff_eq.2 (by omega)
  have hb2 : (((s.length : Int)) % 4 != 0) = false := by rw [bne_eq_false_iff_eq]; omega
  clear h1
  go_enter Tryd.func37, Tryd.ntmps37
  go_wp2_with fail
  go_loop [0, 8] (fun t i => ∃ k : Nat, k ≤ 2 ∧ i = .int .i64 k ∧ t = str (strip k s)) (fun _ i => 2 - (intOf i).toNat)
  case atStart => exact ⟨0, by omega, rfl, rfl⟩
  case round =>
    obtain ⟨k, hk, rfl, rfl⟩ := hrel
    have hk3 := strip_le k s
    obtain ⟨t, ht⟩ : ∃ t, t = strip k s := ⟨_, rfl⟩
    rw [← ht] at hk3 ⊢
    have Ht := Lib.hid ht; clear ht
    by_cases hlt : k < 2
    · go_wp2_with fail
      refine (Tryd.strings_TrimSuffix ⟨t.toArray⟩ ⟨#[61]⟩ _ (by show t.toArray.size ≤ _; simp; omega)).mono ?_
      rintro e w' ⟨rfl, hw⟩
      obtain rfl := hw.symm
      clear hw
      go_wp2_with fail
      go_round
      case rel => exact ⟨k + 1, by omega, by go_num, by rw [Ht.out]; rfl⟩
      case measure => simp [intOf]; omega
    · obtain rfl : k = 2 := by omega
      rw [show (((2 : Nat) : Int)) = (2 : Int) from rfl]
      go_wp2_with fail
      refine (unspell6 _ _ t alS (by simp) rfl rfl w (by omega)).mono ?_
      rintro e w1 ⟨v, rfl, hO, hB⟩
      have HO := Lib.hid hO; clear hO
      have HB := Lib.hid hB; clear hB
      go_wp2_with fail
      go_ret2
      exact ⟨v, by rw [HR.out, ← Ht.out]; rfl, by rw [HR.out, ← Ht.out]; exact HO.out, HB.out⟩
theorem decode_any (s : List UInt8) (w : World) (hl : s.length ≤ 100000) :
    Calls Tryd.prog 37 #[str s] w fun e w' => ∃ v', e = .returned (.tuple #[v', .int .i64 (decS s).2]) ∧ OwnB w' w.heap.size v' (decS s).1 ∧ Below w.heap.size w w' := by
  by_cases h : s.length % 4 = 0
  · exact decode_four s w hl h
  · exact decode_short s w hl h
end Go.Proofs.YtbjhaihfkncdoaaDoor
