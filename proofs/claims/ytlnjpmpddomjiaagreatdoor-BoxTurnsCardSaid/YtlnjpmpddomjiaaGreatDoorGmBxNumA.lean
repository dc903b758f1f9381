/- box: a handle's number in bytes. -/
import Derived.Test.YtlnjpmpddomjiaaGreatDoorGmMgA
import Derived.BigQuiet
namespace Go.Proofs.YtlnjpmpddomjiaaGreatDoor
open Go.RowKit

/-- The number that four bytes tell. -/
def num4 (a b c d : UInt8) : Nat := a.toNat * 16777216 + b.toNat * 65536 + c.toNat * 256 + d.toNat
/-- A number's four bytes. -/
def len4 (n : Nat) : List UInt8 := [UInt8.ofNat (n / 16777216), UInt8.ofNat (n / 65536), UInt8.ofNat (n / 256), UInt8.ofNat n]
theorem num4_lt (a b c d : UInt8) : num4 a b c d < 4294967296 := by
  have := a.toNat_lt; have := b.toNat_lt; have := c.toNat_lt; have := d.toNat_lt
  unfold num4; omega
theorem num4_len4 (n : Nat) (h : n < 4294967296) : num4 (UInt8.ofNat (n / 16777216)) (UInt8.ofNat (n / 65536)) (UInt8.ofNat (n / 256)) (UInt8.ofNat n) = n := by
  unfold num4; simp only [UInt8.toNat_ofNat']; omega
theorem or_add (x y k : Nat) (h1 : y < 2 ^ k) (h2 : x * 2 ^ k + y < 9223372036854775808) : bits .or .i64 ((x * 2 ^ k : Nat) : Int) (y : Int) = ((x * 2 ^ k + y : Nat) : Int) := by
  show IntKind.i64.wrap ((BitVec.ofInt 64 ((x * 2 ^ k : Nat) : Int) ||| BitVec.ofInt 64 (y : Int)).toNat : Int) = _
  rw [BitVec.toNat_or, BitVec.ofInt_natCast, BitVec.ofInt_natCast, BitVec.toNat_ofNat, BitVec.toNat_ofNat, Nat.mod_eq_of_lt (by omega), Nat.mod_eq_of_lt (by omega), Nat.mul_comm, ← Nat.two_pow_add_eq_or_of_lt h1, IntKind.wrap_i64]
  rw [Nat.mul_comm] at h2
  omega
theorem sh24 (x y : Nat) : x * 16777216 + y * 65536 = (x * 256 + y) * 65536 := by omega
theorem sh16 (x y z : Nat) : (x * 256 + y) * 65536 + z * 256 = (x * 65536 + y * 256 + z) * 256 := by omega
theorem sh8 (x y z t : Nat) : (x * 65536 + y * 256 + z) * 256 + t = x * 16777216 + y * 65536 + z * 256 + t := by omega
theorem lt24 (x y : Nat) (hx : x < 256) (hy : y < 256) : x * 16777216 + y * 65536 < 4294967296 := by omega
theorem lt16 (x y z : Nat) (hx : x < 256) (hy : y < 256) (hz : z < 256) : (x * 256 + y) * 65536 + z * 256 < 4294967296 := by omega
theorem lt8 (x y z t : Nat) (hx : x < 256) (hy : y < 256) (hz : z < 256) (ht : t < 256) : (x * 65536 + y * 256 + z) * 256 + t < 4294967296 := by omega
theorem cast_mul (x k : Nat) : (x : Int) * (k : Int) = ((x * k : Nat) : Int) := (Int.natCast_mul x k).symm
theorem or_24 (x y : Nat) (hx : x < 256) (hy : y < 256) : bits .or .i64 ((x * 16777216 : Nat) : Int) ((y * 65536 : Nat) : Int) = ((x * 16777216 + y * 65536 : Nat) : Int) :=
  or_add x (y * 65536) 24 (by omega) (Nat.lt_trans (lt24 x y hx hy) (by decide))
theorem or_16 (x y z : Nat) (hx : x < 256) (hy : y < 256) (hz : z < 256) : bits .or .i64 ((x * 16777216 + y * 65536 : Nat) : Int) ((z * 256 : Nat) : Int) = (((x * 256 + y) * 65536 + z * 256 : Nat) : Int) := by
  rw [sh24]; exact or_add (x * 256 + y) (z * 256) 16 (by omega) (Nat.lt_trans (lt16 x y z hx hy hz) (by decide))
theorem or_8 (x y z t : Nat) (hx : x < 256) (hy : y < 256) (hz : z < 256) (ht : t < 256) : bits .or .i64 (((x * 256 + y) * 65536 + z * 256 : Nat) : Int) (t : Int) = ((x * 16777216 + y * 65536 + z * 256 + t : Nat) : Int) := by
  rw [sh16, ← sh8]; exact or_add (x * 65536 + y * 256 + z) t 8 (by omega) (Nat.lt_trans (lt8 x y z t hx hy hz ht) (by decide))
theorem or_three (a b c d : UInt8) : ∃ n1 n2 : Nat, n1 < 4294967296 ∧ n2 < 4294967296 ∧ bits .or .i64 (bn a * 16777216) (bn b * 65536) = (n1 : Int) ∧ bits .or .i64 (n1 : Int) (bn c * 256) = (n2 : Int) ∧ bits .or .i64 (n2 : Int) (bn d) = (num4 a b c d : Int) := by
  have k1 : bn a * 16777216 = ((a.toNat * 16777216 : Nat) : Int) := cast_mul a.toNat 16777216
  have k2 : bn b * 65536 = ((b.toNat * 65536 : Nat) : Int) := cast_mul b.toNat 65536
  have k4 : bn c * 256 = ((c.toNat * 256 : Nat) : Int) := cast_mul c.toNat 256
  refine ⟨_, _, lt24 a.toNat b.toNat a.toNat_lt b.toNat_lt, lt16 a.toNat b.toNat c.toNat a.toNat_lt b.toNat_lt c.toNat_lt, ?_, ?_, ?_⟩
  · rw [k1, k2]; exact or_24 _ _ a.toNat_lt b.toNat_lt
  · rw [k4]; exact or_16 _ _ _ a.toNat_lt b.toNat_lt c.toNat_lt
  · exact or_8 _ _ _ _ a.toNat_lt b.toNat_lt c.toNat_lt d.toNat_lt
attribute [irreducible] num4
end Go.Proofs.YtlnjpmpddomjiaaGreatDoor
