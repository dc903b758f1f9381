/- What a Hash saves is loaded again, as lists. -/
import Derived.Test.YtkbelfoeofhppaaDoorShaLoadM
namespace Go.Proofs.YtkbelfoeofhppaaDoor
theorem num_be (k : Nat) : ∀ n, num (be n k) = n % 256 ^ k := by
  induction k with
  | zero => intro n; show num [] = _; rw [num_nil, Nat.pow_zero, Nat.mod_one]
  | succ k ih =>
    intro n
    show num (be (n / 256) k ++ [UInt8.ofNat n]) = _
    rw [num_snoc, ih, UInt8.toNat_ofNat', show (256 : Nat) ^ (k + 1) = 256 * 256 ^ k from by rw [Nat.pow_succ, Nat.mul_comm], Nat.mod_mul, show (2 : Nat) ^ 8 = 256 from rfl]
    omega
theorem num_wb (x : BitVec 32) : num (wb x) = x.toNat := by
  rw [wb_be, num_be]
  have := x.isLt
  exact Nat.mod_eq_of_lt (by omega)
theorem word4_wb (x : BitVec 32) : word4 (UInt8.ofNat (x >>> 24).toNat) (UInt8.ofNat (x >>> 16).toNat) (UInt8.ofNat (x >>> 8).toNat) (UInt8.ofNat x.toNat) = x := by
  rw [word4_num]
  have := num_wb x
  unfold wb at this
  rw [this]
  simp
theorem bword_saved (s : St) (n : Nat) (rest : List UInt8) : stB (saved s n rest) = s := by
  have h : ∀ k x, (∀ i, i < 4 → (saved s n rest).getD (4 * k + i) 0 = (wb x).getD i 0) → bword (saved s n rest) k = x := by
    intro k x hx
    unfold bword
    have h0 := hx 0 (by omega)
    have h1 := hx 1 (by omega)
    have h2 := hx 2 (by omega)
    have h3 := hx 3 (by omega)
    rw [Nat.add_zero] at h0
    rw [h0, h1, h2, h3]
    exact word4_wb x
  obtain ⟨a, b, c, d, e, f, g, i⟩ := s
  unfold stB
  congr 1 <;> (refine h _ _ fun j hj => ?_; match j, hj with | 0, _ => rfl | 1, _ => rfl | 2, _ => rfl | 3, _ => rfl)
theorem saved_mid (s : St) (n : Nat) (rest : List UInt8) : ((saved s n rest).drop 32).take 8 = be n 8 ∧ (saved s n rest).drop 40 = rest := by
  have l32 : (wbs s.list).length = 32 := by rw [wbs_length]; rfl
  have l8 := be_length n 8
  unfold saved
  constructor
  · rw [List.append_assoc, List.drop_append, List.drop_of_length_le (by omega), List.nil_append, l32, Nat.sub_self, List.drop_zero, List.take_append_of_le_length (by omega), List.take_of_length_le (by omega)]
  · rw [List.drop_append, List.drop_of_length_le (by rw [List.length_append]; omega), List.nil_append, List.length_append, l32, l8]; rfl
theorem cnt_saved (s : St) (n : Nat) (rest : List UInt8) (hn : n < 18446744073709551616) : cntB (saved s n rest) = n := by
  have e : cntB (saved s n rest) = num (((saved s n rest).drop 32).take 8) := by unfold cntB; rfl
  rw [e, (saved_mid s n rest).1, num_be]
  exact Nat.mod_eq_of_lt (by omega)
end Go.Proofs.YtkbelfoeofhppaaDoor
