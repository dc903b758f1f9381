/- The reference's Decode, whole; its Unhex. -/
import Derived.Test.YtbjhaihfkncdoaaRefDec
import Derived.Test.YtbjhaihfkncdoaaBack
import Derived.Deep.QuietTactic
import Derived.BigQuiet
namespace Go.Proofs.Ytbjhaihfkncdoaa
open Go.RowKit

def decX (u : Bool) (s : List UInt8) : List UInt8 × Int := if u then decU s else decS s
set_option maxRecDepth 100000 in
set_option maxHeartbeats 1000000 in
theorem refDecode_short (s : List UInt8) (u : Bool) (w : World) (hl : s.length ≤ 100000) (h4 : ¬ if u then s.length % 4 ≠ 1 else s.length % 4 = 0) :
    Calls Try.prog 21 #[str s, .bool u] w fun e w' => e = .returned (.tuple #[.slice none 0 0, .int .i64 2]) ∧ w = w' := by
  cases u
  · have hb : (((s.length : Int)) % 4 == 0) = false := beq_eq_false_iff_ne.2 (by simp at h4; omega)
    have hb2 : (((s.length : Int)) % 4 != 0) = true := by rw [bne_iff_ne]; simp at h4; omega
    clear h4
    go_enter Try.func21, Try.ntmps21
    go_wp2_with fail
    go_ret2
    exact ⟨rfl, rfl⟩
  · have hb : (((s.length : Int)) % 4 == 1) = true := beq_iff_eq.2 (by simp at h4; omega)
    clear h4
    go_enter Try.func21, Try.ntmps21
    go_wp2_with fail
    go_ret2
    exact ⟨rfl, rfl⟩
theorem strip_take (k : Nat) (s : List UInt8) : strip k s = s.take (strip k s).length := by
  induction k with
  | zero => exact (List.take_length ..).symm
  | succ k ih =>
    have e : strip (k + 1) s = (strip k s).take (strip (k + 1) s).length := by
      show Lib.trimSuffix (strip k s) [61] = (strip k s).take (Lib.trimSuffix (strip k s) [61]).length
      rw [trim_last]
      split
      · rw [List.length_take, Nat.min_eq_left (by omega)]
      · rw [List.take_length]
    have hle : (strip (k + 1) s).length ≤ (strip k s).length := trim_le _ _
    rw [e]
    conv => lhs; rw [ih]
    rw [List.take_take, List.length_take]
theorem refDecode_all (s : List UInt8) (u : Bool) (w : World) (hl : s.length ≤ 100000) :
    Calls Try.prog 21 #[str s, .bool u] w fun e w' => ∃ v', e = .returned (.tuple #[v', .int .i64 (decX u s).2]) ∧ OwnB w' w.heap.size v' (decX u s).1 ∧ Below w.heap.size w w' := by
  by_cases h4 : if u then s.length % 4 ≠ 1 else s.length % 4 = 0
  · have e : decX u s = unS 6 (alX u) (s.take (refN u s)) := by
      unfold decX refN alX
      cases u
      · simp at h4
        simp only [Bool.false_eq_true, if_false]
        unfold decS
        rw [if_pos h4, ← strip_take]
      · simp at h4
        simp only [if_true]
        unfold decU
        rw [if_neg h4, List.take_length]
    rw [e]
    exact refDecode_any s u w hl h4
  · have e : decX u s = ([], 2) := by
      unfold decX
      cases u
      · simp at h4
        simp only [Bool.false_eq_true, if_false]
        unfold decS
        rw [if_neg h4]
      · simp at h4
        simp only [if_true]
        unfold decU
        rw [if_pos h4]
    rw [e]
    exact (refDecode_short s u w hl h4).mono fun _ _ h => ⟨_, h.1, OwnB.nil _ _, by rw [← h.2]; exact Below.refl _ _⟩
end Go.Proofs.Ytbjhaihfkncdoaa
