/- Words, numbers and hashes as bytes. Nothing of the program is imported. -/
import Derived.Test.YteadncmhcbdicaaDoorShaM
namespace Go.Proofs.YteadncmhcbdicaaDoor

/-- The last size bytes of a number, the highest first. -/
def be (n : Nat) : Nat → List UInt8
  | 0 => []
  | k + 1 => be (n / 256) k ++ [UInt8.ofNat n]
theorem be_length (n k : Nat) : (be n k).length = k := by
  induction k generalizing n with
  | zero => rfl
  | succ k ih => simp [be, ih]
/-- A word's bytes. -/
def wb (x : BitVec 32) : List UInt8 := [UInt8.ofNat (x >>> 24).toNat, UInt8.ofNat (x >>> 16).toNat, UInt8.ofNat (x >>> 8).toNat, UInt8.ofNat x.toNat]
theorem wb_be (x : BitVec 32) : wb x = be x.toNat 4 := by
  simp only [wb, be, List.nil_append, List.cons_append, BitVec.toNat_ushiftRight, Nat.shiftRight_eq_div_pow, Nat.div_div_eq_div_mul]
theorem be_add (n j k : Nat) : be n (j + k) = be (n / 256 ^ k) j ++ be n k := by
  induction k generalizing n with
  | zero => simp [be]
  | succ k ih => rw [← Nat.add_assoc]; simp only [be]; rw [ih, Nat.div_div_eq_div_mul, List.append_assoc, Nat.pow_succ, Nat.mul_comm 256]
theorem be_mod (n k : Nat) : be (n % 256 ^ k) k = be n k := by
  induction k generalizing n with
  | zero => rfl
  | succ k ih =>
    simp only [be]
    have h1 : n % 256 ^ (k + 1) / 256 = n / 256 % 256 ^ k := by rw [Nat.pow_succ, Nat.mul_comm, Nat.mod_mul_right_div_self]
    have h2 : UInt8.ofNat (n % 256 ^ (k + 1)) = UInt8.ofNat n := by
      apply UInt8.toNat_inj.1
      rw [UInt8.toNat_ofNat', UInt8.toNat_ofNat', Nat.pow_succ, Nat.mul_comm, Nat.mod_mul_right_mod]
    rw [h1, h2, ih]
theorem count_be (n : Nat) : wb (BitVec.ofNat 32 (n % 18446744073709551616 / 4294967296)) ++ wb (BitVec.ofNat 32 n) = be n 8 := by
  have e1 : be (n % 18446744073709551616 / 4294967296 % 2 ^ 32) 4 = be (n / 256 ^ 4) 4 := by
    rw [show (2 : Nat) ^ 32 = 256 ^ 4 from rfl, be_mod, ← be_mod (n / 256 ^ 4), show (256 : Nat) ^ 4 = 4294967296 from rfl]
    have : n % 18446744073709551616 / 4294967296 = n / 4294967296 % 4294967296 := by omega
    rw [this]
  rw [wb_be, wb_be, BitVec.toNat_ofNat, BitVec.toNat_ofNat, e1, show (2 : Nat) ^ 32 = 256 ^ 4 from rfl, be_mod, ← be_add n 4 4]
theorem wb_length (x : BitVec 32) : (wb x).length = 4 := rfl
/-- Words as bytes. -/
def wbs (l : List (BitVec 32)) : List UInt8 := l.flatMap wb
theorem wbs_length (l : List (BitVec 32)) : (wbs l).length = 4 * l.length := by
  induction l with
  | nil => rfl
  | cons x l ih => unfold wbs at ih ⊢; rw [List.flatMap_cons, List.length_append, ih, wb_length, List.length_cons]; omega
theorem wbs_take (l : List (BitVec 32)) (k : Nat) (h : k < l.length) : wbs (l.take (k + 1)) = wbs (l.take k) ++ wb (l.getD k 0) := by
  unfold wbs
  rw [List.take_succ_eq_append_getElem h, List.flatMap_append, List.getD_eq_getElem?_getD, List.getElem?_eq_getElem h]
  simp
/-- What follows a message of n bytes. -/
def padl (n : Nat) : List UInt8 := 128 :: List.replicate ((119 - n % 64) % 64) 0 ++ be (n * 8) 8
theorem padl_length (n : Nat) : (padl n).length = (119 - n % 64) % 64 + 9 := by unfold padl; rw [List.length_append, be_length, List.length_cons, List.length_replicate]
theorem wbs_snoc (l : List (BitVec 32)) (x : BitVec 32) : wbs (l ++ [x]) = wbs l ++ wb x := by unfold wbs; rw [List.flatMap_append]; simp
theorem padl_whole (n : Nat) : (n + (padl n).length) % 64 = 0 := by rw [padl_length]; omega
/-- The hash of a message. -/
def sumL (m : List UInt8) : List UInt8 := wbs (stOf St.first (m ++ padl m.length)).list
theorem sumL_length (m : List UInt8) : (sumL m).length = 32 := by unfold sumL; rw [wbs_length]; rfl
/-- Two digits a byte. -/
def digit (n : Nat) : UInt8 := UInt8.ofNat (if n < 10 then 48 + n else 87 + n)
def hexL (l : List UInt8) : List UInt8 := l.flatMap fun b => [digit (b.toNat / 16), digit (b.toNat % 16)]
theorem hexL_snoc (l : List UInt8) (b : UInt8) : hexL (l ++ [b]) = hexL l ++ [digit (b.toNat / 16), digit (b.toNat % 16)] := by unfold hexL; rw [List.flatMap_append]; simp
theorem hexL_length (l : List UInt8) : (hexL l).length = 2 * l.length := by
  induction l with
  | nil => rfl
  | cons b l ih => unfold hexL at ih ⊢; rw [List.flatMap_cons, List.length_append, ih]; simp; omega
theorem sum_abc : hexL (sumL [97, 98, 99]) = [98, 97, 55, 56, 49, 54, 98, 102, 56, 102, 48, 49, 99, 102, 101, 97, 52, 49, 52, 49, 52, 48, 100, 101, 53, 100, 97, 101, 50, 50, 50, 51, 98, 48, 48, 51, 54, 49, 97, 51, 57, 54, 49, 55, 55, 97, 57, 99, 98, 52, 49, 48, 102, 102, 54, 49, 102, 50, 48, 48, 49, 53, 97, 100] := by decide +kernel
attribute [irreducible] sumL padl hexL digit
end Go.Proofs.YteadncmhcbdicaaDoor
