/- The reference's small functions: turn, Num. -/
import Derived.Test.YtjaclccjccjljaaDoorMix
namespace Go.Proofs.YtjaclccjccjljaaDoor
open Go.RowKit
attribute [local go_sem] bv_and bv_or bv_xor bv_not bv_add

theorem turn_any (x : BitVec 32) (n : Nat) (hn : n < 32) (hn0 : 0 < n) (w : World) : Calls Tryd.prog 62 #[vw x, .int .u64 (n : Int)] w fun e w' => e = .returned (vw (x.rotateRight n)) ∧ w = w' := by
  have e2 : IntKind.u64.wrap (32 - (n : Int)) = ((32 - n : Nat) : Int) := by rw [IntKind.wrap_u64]; omega
  have h3 := bv_rotr x n hn
  go_enter Tryd.func62, Tryd.ntmps62
  go_wp2
  go_ret
  exact ⟨by show Ending.returned (.int .u32 (bits .or .u32 (wn x / 2 ^ n) (wn x * 2 ^ (32 - n) % 4294967296))) = _; rw [bv_shl', bv_shr, bv_or, h3], rfl⟩

theorem turn_int (x : BitVec 32) (n : Int) (h : 0 < n ∧ n < 32) (w : World) : Calls Tryd.prog 62 #[vw x, .int .u64 n] w fun e w' => e = .returned (vw (x.rotateRight n.toNat)) ∧ w' = w := by
  obtain ⟨m, rfl⟩ := Int.eq_ofNat_of_zero_le (show 0 ≤ n by omega)
  exact (turn_any x m (by omega) (by omega) w).mono fun _ _ h => ⟨h.1, h.2.symm⟩
/-- A word of 64 bits as a number. -/
def un (n : Nat) : Int := ((n % 18446744073709551616 : Nat) : Int)
theorem un_mul (n m : Nat) : IntKind.u64.wrap (un n * (m : Int)) = un (n * m) := by
  unfold un; rw [IntKind.wrap_u64, ← Int.natCast_mul, show (18446744073709551616 : Int) = ((18446744073709551616 : Nat) : Int) from rfl, ← Int.natCast_emod, Nat.mod_mul_mod]
theorem un_add (n m : Nat) : IntKind.u64.wrap (un n + (m : Int)) = un (n + m) := by
  unfold un; rw [IntKind.wrap_u64, ← Int.natCast_add, show (18446744073709551616 : Int) = ((18446744073709551616 : Nat) : Int) from rfl, ← Int.natCast_emod, Nat.mod_add_mod]
theorem un_mul256 (n : Nat) : IntKind.u64.wrap (un n * (256 : Int)) = un (n * 256) := un_mul n 256
theorem un_bn (n : Nat) (b : UInt8) : IntKind.u64.wrap (un n + bn b) = un (n + b.toNat) := un_add n b.toNat
theorem bn_u64 (b : UInt8) : IntKind.u64.wrap (bn b) = bn b := by rw [IntKind.wrap_u64]; have := bn_range b; omega
theorem un_range (n : Nat) : 0 ≤ un n ∧ un n < 18446744073709551616 := by unfold un; omega
theorem un_zero : un 0 = 0 := rfl
theorem un_lt (n : Nat) (h : n < 18446744073709551616) : un n = (n : Int) := by unfold un; rw [Nat.mod_eq_of_lt h]
theorem num_nil : num [] = 0 := by unfold num; rfl
theorem num_snoc (l : List UInt8) (b : UInt8) : num (l ++ [b]) = num l * 256 + b.toNat := by unfold num; rw [List.foldl_append]; rfl
theorem num_lt (l : List UInt8) : num l < 256 ^ l.length := by
  unfold num
  have H : ∀ (l : List UInt8) (n : Nat), l.foldl (fun n b => n * 256 + b.toNat) n < (n + 1) * 256 ^ l.length := by
    intro l
    induction l with
    | nil => intro n; simp
    | cons b l ih =>
      intro n
      have h1 := ih (n * 256 + b.toNat)
      have hb := b.toNat_lt
      simp only [List.foldl_cons, List.length_cons]
      refine Nat.lt_of_lt_of_le h1 ?_
      rw [Nat.pow_succ, Nat.mul_comm (256 ^ l.length) 256, ← Nat.mul_assoc]
      exact Nat.mul_le_mul_right _ (by omega)
  simpa using H l 0
theorem take_snoc (l : List UInt8) (k : Nat) (h : k < l.length) : l.take (k + 1) = l.take k ++ [l.getD k 0] := by
  rw [List.take_succ_eq_append_getElem h, List.getD_eq_getElem?_getD, List.getElem?_eq_getElem h]; rfl
attribute [local go_sem] un_mul256 un_bn bn_u64
theorem num_any (b o cap n : Nat) (l : List UInt8) (w : World) (hn : l.length = n) (hbs : Bs w b o l) (hl : n ≤ 9223372036854775807) :
    Calls Tryd.prog 61 #[.slice (some ⟨b, o, none⟩) n cap] w fun e w' => e = .returned (.int .u64 (un (num l))) ∧ w = w' := by
  subst hn
  have Hbs := Lib.hid hbs; clear hbs
  go_enter Tryd.func61, Tryd.ntmps61
  go_wp2
  go_loop [3, 8] (fun n i => ∃ k : Nat, k ≤ l.length ∧ i = .int .i64 k ∧ n = .int .u64 (un (num (l.take k)))) (fun _ i => l.length - (intOf i).toNat)
  case atStart => exact ⟨0, by omega, rfl, by rw [List.take_zero, num_nil]; rfl⟩
  case round =>
    obtain ⟨k, hk, rfl, rfl⟩ := hrel
    by_cases hlt : k < l.length
    · obtain ⟨c0, k0, k1⟩ : w.cell? ⟨b, o + k, none⟩ = some (vb l[k]) ∧ (0 : Int) ≤ (k : Int) ∧ (k : Int) < (l.length : Int) := ⟨Hbs.out k hlt, by omega, by omega⟩
      go_wp2
      go_round
      case rel => 
        refine ⟨k + 1, by omega, by go_num, ?_⟩
        rw [List.take_succ_eq_append_getElem hlt, num_snoc]
      case measure => simp [intOf]; omega
    · obtain rfl : k = l.length := by omega
      go_wp2
      go_ret
      exact ⟨rfl, rfl⟩
theorem word4_num (a b c d : UInt8) : word4 a b c d = BitVec.ofNat 32 (num [a, b, c, d]) := by
  have ha := a.toNat_lt
  have hb := b.toNat_lt
  have hc := c.toNat_lt
  have hd := d.toNat_lt
  apply BitVec.eq_of_toNat_eq
  have e : num [a, b, c, d] = ((a.toNat * 256 + b.toNat) * 256 + c.toNat) * 256 + d.toNat := by unfold num; simp
  have k (x : UInt8) (n : Nat) (hn : n ≤ 24) : (bw x <<< n).toNat = x.toNat <<< n := by
    have hx := x.toNat_lt
    unfold bw
    rw [BitVec.toNat_shiftLeft, BitVec.toNat_ofNat, Nat.mod_eq_of_lt (show x.toNat < 2 ^ 32 by omega), Nat.shiftLeft_eq]
    apply Nat.mod_eq_of_lt
    calc x.toNat * 2 ^ n < 2 ^ 8 * 2 ^ n := Nat.mul_lt_mul_of_pos_right (by omega) (Nat.pow_pos (by decide))
      _ ≤ 2 ^ 8 * 2 ^ 24 := Nat.mul_le_mul_left _ (Nat.pow_le_pow_right (by decide) hn)
  have kd : (bw d).toNat = d.toNat := by unfold bw; rw [BitVec.toNat_ofNat]; omega
  unfold word4
  rw [BitVec.toNat_or, BitVec.toNat_or, BitVec.toNat_or, k a 24 (by omega), k b 16 (by omega), k c 8 (by omega), kd, Nat.or_assoc, Nat.or_assoc,
    ← Nat.shiftLeft_add_eq_or_of_lt (show d.toNat < 2 ^ 8 by omega), ← Nat.shiftLeft_add_eq_or_of_lt (show c.toNat <<< 8 + d.toNat < 2 ^ 16 by rw [Nat.shiftLeft_eq]; omega),
    ← Nat.shiftLeft_add_eq_or_of_lt (show b.toNat <<< 16 + (c.toNat <<< 8 + d.toNat) < 2 ^ 24 by rw [Nat.shiftLeft_eq, Nat.shiftLeft_eq]; omega), e, BitVec.toNat_ofNat]
  simp only [Nat.shiftLeft_eq]
  omega
theorem un_word (n : Nat) : IntKind.u32.wrap (un n) = wn (BitVec.ofNat 32 n) := by
  unfold un wn; rw [IntKind.wrap_u32, BitVec.toNat_ofNat]; omega
theorem un_shr32 (n : Nat) : un n / (4294967296 : Int) = un (n % 18446744073709551616 / 4294967296) := by unfold un; omega
theorem un_mod32 (n : Nat) : un n % (4294967296 : Int) = wn (BitVec.ofNat 32 n) := by rw [← un_word, IntKind.wrap_u32]
theorem four (p : List UInt8) (k : Nat) (h : 4 * k + 4 ≤ p.length) : (p.drop (4 * k)).take 4 = [p.getD (4 * k) 0, p.getD (4 * k + 1) 0, p.getD (4 * k + 2) 0, p.getD (4 * k + 3) 0] := by
  apply List.ext_getElem?
  intro i
  rw [List.getElem?_take]
  match i with
  | 0 => simp [List.getElem?_drop, List.getD_eq_getElem?_getD, List.getElem?_eq_getElem (show 4 * k < p.length by omega)]
  | 1 => simp [List.getElem?_drop, List.getD_eq_getElem?_getD, List.getElem?_eq_getElem (show 4 * k + 1 < p.length by omega)]
  | 2 => simp [List.getElem?_drop, List.getD_eq_getElem?_getD, List.getElem?_eq_getElem (show 4 * k + 2 < p.length by omega)]
  | 3 => simp [List.getElem?_drop, List.getD_eq_getElem?_getD, List.getElem?_eq_getElem (show 4 * k + 3 < p.length by omega)]
  | i + 4 => rw [if_neg (by omega)]; simp
theorem bword_num (p : List UInt8) (k : Nat) (h : 4 * k + 4 ≤ p.length) : BitVec.ofNat 32 (num ((p.drop (4 * k)).take 4)) = bword p k := by
  rw [four p k h, ← word4_num]; rfl
end Go.Proofs.YtjaclccjccjljaaDoor
