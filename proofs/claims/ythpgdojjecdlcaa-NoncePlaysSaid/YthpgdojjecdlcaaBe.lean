/- A number's bytes (ShaO's be alone, where Num stands). Nothing of the program is imported. -/
import Derived.Test.YthpgdojjecdlcaaBits
namespace Go.Proofs.Ythpgdojjecdlcaa

/-- The last size bytes of a number, the highest first. -/
def be (n : Nat) : Nat → List UInt8
  | 0 => []
  | k + 1 => be (n / 256) k ++ [UInt8.ofNat n]
theorem be_length (n k : Nat) : (be n k).length = k := by
  induction k generalizing n with
  | zero => rfl
  | succ k ih => simp [be, ih]
theorem be_add (n j k : Nat) : be n (j + k) = be (n / 256 ^ k) j ++ be n k := by
  induction k generalizing n with
  | zero => simp [be]
  | succ k ih => rw [← Nat.add_assoc]; simp only [be]; rw [ih, Nat.div_div_eq_div_mul, List.append_assoc, Nat.pow_succ, Nat.mul_comm 256]
end Go.Proofs.Ythpgdojjecdlcaa
