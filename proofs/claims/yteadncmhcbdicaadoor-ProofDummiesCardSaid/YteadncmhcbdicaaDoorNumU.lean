/- A word of 64 bits as a number; bytes as a number. -/
import Derived.Test.YteadncmhcbdicaaDoorMix
namespace Go.Proofs.YteadncmhcbdicaaDoor
open Go.RowKit
/-- A word of 64 bits as a number. -/
def un (n : Nat) : Int := ((n % 18446744073709551616 : Nat) : Int)
theorem un_mul (n m : Nat) : IntKind.u64.wrap (un n * (m : Int)) = un (n * m) := by
  unfold un; rw [IntKind.wrap_u64, ← Int.natCast_mul, show (18446744073709551616 : Int) = ((18446744073709551616 : Nat) : Int) from rfl, ← Int.natCast_emod, Nat.mod_mul_mod]
theorem un_add (n m : Nat) : IntKind.u64.wrap (un n + (m : Int)) = un (n + m) := by
  unfold un; rw [IntKind.wrap_u64, ← Int.natCast_add, show (18446744073709551616 : Int) = ((18446744073709551616 : Nat) : Int) from rfl, ← Int.natCast_emod, Nat.mod_add_mod]
theorem un_mul256 (n : Nat) : IntKind.u64.wrap (un n * (256 : Int)) = un (n * 256) := un_mul n 256
theorem un_bn (n : Nat) (b : UInt8) : IntKind.u64.wrap (un n + bn b) = un (n + b.toNat) := un_add n b.toNat
theorem bn_u64 (b : UInt8) : IntKind.u64.wrap (bn b) = bn b := by rw [IntKind.wrap_u64]; have := bn_range b; omega
theorem un_range (n : Nat) : 0 ≤ un n ∧ un n < 18446744073709551616 := by unfold un; omega
theorem un_zero : un 0 = 0 := rfl
theorem un_lt (n : Nat) (h : n < 18446744073709551616) : un n = (n : Int) := by unfold un; rw [Nat.mod_eq_of_lt h]
theorem num_nil : num [] = 0 := by unfold num; rfl
theorem num_snoc (l : List UInt8) (b : UInt8) : num (l ++ [b]) = num l * 256 + b.toNat := by unfold num; rw [List.foldl_append]; rfl
theorem num_lt (l : List UInt8) : num l < 256 ^ l.length := by
  unfold num
  have H : ∀ (l : List UInt8) (n : Nat), l.foldl (fun n b => n * 256 + b.toNat) n < (n + 1) * 256 ^ l.length := by
    intro l
    induction l with
    | nil => intro n; simp
    | cons b l ih =>
      intro n
      have h1 := ih (n * 256 + b.toNat)
      have hb := b.toNat_lt
      simp only [List.foldl_cons, List.length_cons]
      refine Nat.lt_of_lt_of_le h1 ?_
      rw [Nat.pow_succ, Nat.mul_comm (256 ^ l.length) 256, ← Nat.mul_assoc]
      exact Nat.mul_le_mul_right _ (by omega)
  simpa using H l 0
theorem take_snoc (l : List UInt8) (k : Nat) (h : k < l.length) : l.take (k + 1) = l.take k ++ [l.getD k 0] := by
  rw [List.take_succ_eq_append_getElem h, List.getD_eq_getElem?_getD, List.getElem?_eq_getElem h]; rfl
theorem word4_num (a b c d : UInt8) : word4 a b c d = BitVec.ofNat 32 (num [a, b, c, d]) := by
  have ha := a.toNat_lt
  have hb := b.toNat_lt
  have hc := c.toNat_lt
  have hd := d.toNat_lt
  apply BitVec.eq_of_toNat_eq
  have e : num [a, b, c, d] = ((a.toNat * 256 + b.toNat) * 256 + c.toNat) * 256 + d.toNat := by unfold num; simp
  have k (x : UInt8) (n : Nat) (hn : n ≤ 24) : (bw x <<< n).toNat = x.toNat <<< n := by
    have hx := x.toNat_lt
    unfold bw
    rw [BitVec.toNat_shiftLeft, BitVec.toNat_ofNat, Nat.mod_eq_of_lt (show x.toNat < 2 ^ 32 by omega), Nat.shiftLeft_eq]
    apply Nat.mod_eq_of_lt
    calc x.toNat * 2 ^ n < 2 ^ 8 * 2 ^ n := Nat.mul_lt_mul_of_pos_right (by omega) (Nat.pow_pos (by decide))
      _ ≤ 2 ^ 8 * 2 ^ 24 := Nat.mul_le_mul_left _ (Nat.pow_le_pow_right (by decide) hn)
  have kd : (bw d).toNat = d.toNat := by unfold bw; rw [BitVec.toNat_ofNat]; omega
  unfold word4
  rw [BitVec.toNat_or, BitVec.toNat_or, BitVec.toNat_or, k a 24 (by omega), k b 16 (by omega), k c 8 (by omega), kd, Nat.or_assoc, Nat.or_assoc,
    ← Nat.shiftLeft_add_eq_or_of_lt (show d.toNat < 2 ^ 8 by omega), ← Nat.shiftLeft_add_eq_or_of_lt (show c.toNat <<< 8 + d.toNat < 2 ^ 16 by rw [Nat.shiftLeft_eq]; omega),
    ← Nat.shiftLeft_add_eq_or_of_lt (show b.toNat <<< 16 + (c.toNat <<< 8 + d.toNat) < 2 ^ 24 by rw [Nat.shiftLeft_eq, Nat.shiftLeft_eq]; omega), e, BitVec.toNat_ofNat]
  simp only [Nat.shiftLeft_eq]
  omega
theorem un_word (n : Nat) : IntKind.u32.wrap (un n) = wn (BitVec.ofNat 32 n) := by
  unfold un wn; rw [IntKind.wrap_u32, BitVec.toNat_ofNat]; omega
theorem un_shr32 (n : Nat) : un n / (4294967296 : Int) = un (n % 18446744073709551616 / 4294967296) := by unfold un; omega
theorem un_mod32 (n : Nat) : un n % (4294967296 : Int) = wn (BitVec.ofNat 32 n) := by rw [← un_word, IntKind.wrap_u32]
theorem four (p : List UInt8) (k : Nat) (h : 4 * k + 4 ≤ p.length) : (p.drop (4 * k)).take 4 = [p.getD (4 * k) 0, p.getD (4 * k + 1) 0, p.getD (4 * k + 2) 0, p.getD (4 * k + 3) 0] := by
  apply List.ext_getElem?
  intro i
  rw [List.getElem?_take]
  match i with
  | 0 => simp [List.getElem?_drop, List.getD_eq_getElem?_getD, List.getElem?_eq_getElem (show 4 * k < p.length by omega)]
  | 1 => simp [List.getElem?_drop, List.getD_eq_getElem?_getD, List.getElem?_eq_getElem (show 4 * k + 1 < p.length by omega)]
  | 2 => simp [List.getElem?_drop, List.getD_eq_getElem?_getD, List.getElem?_eq_getElem (show 4 * k + 2 < p.length by omega)]
  | 3 => simp [List.getElem?_drop, List.getD_eq_getElem?_getD, List.getElem?_eq_getElem (show 4 * k + 3 < p.length by omega)]
  | i + 4 => rw [if_neg (by omega)]; simp
theorem bword_num (p : List UInt8) (k : Nat) (h : 4 * k + 4 ≤ p.length) : BitVec.ofNat 32 (num ((p.drop (4 * k)).take 4)) = bword p k := by
  rw [four p k h, ← word4_num]; rfl
end Go.Proofs.YteadncmhcbdicaaDoor
