/- Bytes' bits, and digits built of them one by one. Nothing of the program is imported. -/
import Derived.Test.YtoehkhbppmgfkaaGreatDoorNum
namespace Go.Proofs.YtoehkhbppmgfkaaGreatDoor

/-- The i-th bit, the highest first; noughts behind the last. -/
def bitAt (l : List UInt8) (i : Nat) : Nat := if i < 8 * l.length then (l.getD (i / 8) 0).toNat / 2 ^ (7 - i % 8) % 2 else 0
/-- The first t bits of the q-th digit. -/
def digT (w : Nat) (l : List UInt8) (q t : Nat) : Nat := numL l * 2 ^ t / 2 ^ (8 * l.length - w * q) % 2 ^ t
theorem digT_zero (w : Nat) (l : List UInt8) (q : Nat) : digT w l q 0 = 0 := by unfold digT; simp [Nat.mod_one]
theorem digT_full (w : Nat) (l : List UInt8) (q : Nat) : digT w l q w = dig w l q := rfl
theorem num_byte (l : List UInt8) (j : Nat) (h : j < l.length) : numL l / 256 ^ (l.length - 1 - j) % 256 = (l.getD j 0).toNat := by
  have e : l = l.take j ++ [l.getD j 0] ++ l.drop (j + 1) := by
    rw [List.getD_eq_getElem?_getD, List.getElem?_eq_getElem h]
    simp
  have hl : (l.drop (j + 1)).length = l.length - 1 - j := by rw [List.length_drop]; omega
  conv => lhs; rw [e]
  rw [numL_append, numL_snoc, ← e, hl]
  have hb := numL_lt (l.drop (j + 1))
  rw [hl] at hb
  rw [Nat.mul_comm, Nat.mul_add_div (Nat.pow_pos (by decide)), Nat.div_eq_of_lt hb]
  have := (l.getD j 0).toNat_lt
  omega
theorem num_bit (l : List UInt8) (i : Nat) (h : i < 8 * l.length) : numL l / 2 ^ (8 * l.length - 1 - i) % 2 = bitAt l i := by
  unfold bitAt
  rw [if_pos h, ← num_byte l (i / 8) (by omega)]
  have e : 8 * l.length - 1 - i = 8 * (l.length - 1 - i / 8) + (7 - i % 8) := by omega
  have h7 : 7 - i % 8 < 8 := by omega
  rw [e, Nat.pow_add, ← Nat.div_div_eq_div_mul, ← p256]
  generalize numL l / 256 ^ (l.length - 1 - i / 8) = X
  generalize 7 - i % 8 = r at h7
  have e2 : (256 : Nat) = 2 ^ r * 2 ^ (8 - r) := by rw [← Nat.pow_add, show r + (8 - r) = 8 by omega]
  rw [e2, Nat.mod_mul_right_div_self, Nat.mod_mod_of_dvd]
  exact Nat.pow_dvd_pow 2 (show 1 ≤ 8 - r by omega)
theorem digT_succ (w : Nat) (l : List UInt8) (q t : Nat) (h : w * q ≤ 8 * l.length) : digT w l q (t + 1) = 2 * digT w l q t + bitAt l (w * q + t) := by
  unfold digT
  generalize hM : 8 * l.length - w * q = M
  have hY : numL l * 2 ^ t / 2 ^ M = numL l * 2 ^ (t + 1) / 2 ^ M / 2 := by
    rw [Nat.div_div_eq_div_mul, Nat.pow_succ, ← Nat.mul_assoc, Nat.mul_div_mul_right _ _ (by decide)]
  have hb : numL l * 2 ^ (t + 1) / 2 ^ M % 2 = bitAt l (w * q + t) := by
    by_cases ht : t < M
    · rw [← num_bit l _ (by omega)]
      have e : M = (t + 1) + (8 * l.length - 1 - (w * q + t)) := by omega
      conv => lhs; rw [e]
      rw [Nat.pow_add 2 (t + 1), Nat.mul_comm (numL l), Nat.mul_div_mul_left _ _ (Nat.two_pow_pos _)]
    · unfold bitAt
      rw [if_neg (by omega)]
      have e : t + 1 = M + (t - M) + 1 := by omega
      rw [e, Nat.pow_succ, Nat.pow_add, ← Nat.mul_assoc, ← Nat.mul_assoc, Nat.mul_right_comm (numL l), Nat.mul_right_comm _ (2 ^ M) 2, Nat.mul_div_cancel _ (Nat.two_pow_pos _), Nat.mul_mod_left]
  rw [hY, ← hb]
  generalize numL l * 2 ^ (t + 1) / 2 ^ M = Y
  rw [Nat.pow_succ, Nat.mul_comm (2 ^ t) 2, Nat.mod_mul]
  omega
theorem digT_lt (w : Nat) (l : List UInt8) (q t : Nat) : digT w l q t < 2 ^ t := Nat.mod_lt _ (Nat.two_pow_pos _)
end Go.Proofs.YtoehkhbppmgfkaaGreatDoor
