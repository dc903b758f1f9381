/- Bytes as numbers, and the digits of these numbers. Nothing of the program is imported. -/
namespace Go.Proofs.YteadncmhcbdicaaDoor

/-- A list of digits of the base 2 ^ w as a number, the highest first. -/
def numW (w : Nat) (l : List Nat) : Nat := l.foldl (fun n d => n * 2 ^ w + d) 0
/-- Bytes as a number. -/
def numL (l : List UInt8) : Nat := l.foldl (fun n b => n * 256 + b.toNat) 0

theorem numL_foldl (l : List UInt8) (n : Nat) : l.foldl (fun n b => n * 256 + b.toNat) n = n * 256 ^ l.length + numL l := by
  induction l generalizing n with
  | nil => simp [numL]
  | cons b l ih =>
    unfold numL
    rw [List.foldl_cons, List.foldl_cons, ih, ih (0 * 256 + b.toNat), List.length_cons, Nat.pow_succ, Nat.zero_mul, Nat.zero_add, Nat.add_mul, Nat.mul_assoc, Nat.mul_comm 256, Nat.add_assoc]
theorem numL_append (a b : List UInt8) : numL (a ++ b) = numL a * 256 ^ b.length + numL b := by
  conv => lhs; unfold numL
  rw [List.foldl_append, numL_foldl]; rfl
theorem numL_snoc (a : List UInt8) (b : UInt8) : numL (a ++ [b]) = numL a * 256 + b.toNat := by
  rw [numL_append]; simp [numL]
theorem numL_nil : numL [] = 0 := rfl
theorem numL_lt (l : List UInt8) : numL l < 256 ^ l.length := by
  induction l with
  | nil => simp [numL]
  | cons b l ih =>
    have e := numL_append [b] l
    have h1 : numL [b] = b.toNat := by simp [numL]
    rw [List.singleton_append, h1] at e
    rw [e, List.length_cons, Nat.pow_succ]
    have := b.toNat_lt
    have h2 : b.toNat * 256 ^ l.length ≤ 255 * 256 ^ l.length := Nat.mul_le_mul_right _ (by omega)
    omega

/-- The k-th digit of w bits of the bytes l, where bits behind the last one are noughts. -/
def dig (w : Nat) (l : List UInt8) (k : Nat) : Nat := numL l * 2 ^ w / 2 ^ (8 * l.length - w * k) % 2 ^ w
theorem dig_lt (w : Nat) (l : List UInt8) (k : Nat) : dig w l k < 2 ^ w := Nat.mod_lt _ (Nat.two_pow_pos w)
theorem p256 (n : Nat) : 256 ^ n = 2 ^ (8 * n) := by rw [Nat.pow_mul]
/-- A digit that is whole. -/
theorem dig_whole (w : Nat) (l : List UInt8) (k : Nat) (h : w * (k + 1) ≤ 8 * l.length) : dig w l k = numL l / 2 ^ (8 * l.length - w * (k + 1)) % 2 ^ w := by
  unfold dig
  have e : 8 * l.length - w * k = w + (8 * l.length - w * (k + 1)) := by rw [Nat.mul_succ] at h ⊢; omega
  rw [e, Nat.pow_add, Nat.mul_comm (numL l), Nat.mul_div_mul_left _ _ (Nat.two_pow_pos w)]
/-- The digit in which bits are missing. -/
theorem dig_part (w : Nat) (l : List UInt8) (k : Nat) (h : w * k < 8 * l.length) (h2 : 8 * l.length < w * (k + 1)) : dig w l k = numL l * 2 ^ (w - (8 * l.length - w * k)) % 2 ^ w := by
  unfold dig
  rw [Nat.mul_succ] at h2
  have e : w = (w - (8 * l.length - w * k)) + (8 * l.length - w * k) := by omega
  have : numL l * 2 ^ w = numL l * 2 ^ (w - (8 * l.length - w * k)) * 2 ^ (8 * l.length - w * k) := by
    rw [Nat.mul_assoc, ← Nat.pow_add, ← e]
  rw [this, Nat.mul_div_cancel _ (Nat.two_pow_pos _)]
/-- More bytes leave the whole digits. -/
theorem dig_append_left (w : Nat) (a b : List UInt8) (k : Nat) (h : w * (k + 1) ≤ 8 * a.length) : dig w (a ++ b) k = dig w a k := by
  rw [dig_whole w a k h, dig_whole w (a ++ b) k (by rw [List.length_append]; omega), numL_append, List.length_append, p256]
  have e : 8 * (a.length + b.length) - w * (k + 1) = 8 * b.length + (8 * a.length - w * (k + 1)) := by omega
  have hb : numL b < 2 ^ (8 * b.length) := by rw [← p256]; exact numL_lt b
  rw [e, Nat.pow_add, ← Nat.div_div_eq_div_mul, Nat.mul_comm (numL a), Nat.mul_add_div (Nat.two_pow_pos _), Nat.div_eq_of_lt hb, Nat.add_zero]
theorem dig_append_right (w : Nat) (a b : List UInt8) (q k : Nat) (hq : w * q = 8 * a.length) (h : w * k < 8 * b.length) : dig w (a ++ b) (q + k) = dig w b k := by
  unfold dig
  rw [numL_append, List.length_append, p256]
  have e : 8 * (a.length + b.length) - w * (q + k) = 8 * b.length - w * k := by rw [Nat.mul_add w q k, hq]; omega
  have e2 : 8 * b.length = w * k + (8 * b.length - w * k) := by omega
  rw [e, Nat.add_mul]
  have e3 : numL a * 2 ^ (8 * b.length) * 2 ^ w = 2 ^ (8 * b.length - w * k) * (numL a * 2 ^ (w * k) * 2 ^ w) := by
    conv => lhs; rw [e2, Nat.pow_add]
    simp only [Nat.mul_assoc, Nat.mul_comm, Nat.mul_left_comm]
  rw [e3, Nat.mul_add_div (Nat.two_pow_pos _), Nat.mul_comm (numL a * 2 ^ (w * k)), Nat.mul_add_mod]

/-- How many digits. -/
def many (w n : Nat) : Nat := (8 * n + w - 1) / w
/-- Bytes in digits of w bits, each told by a letter. -/
def letters (w : Nat) (al : List UInt8) (l : List UInt8) : List UInt8 := (List.range (many w l.length)).map fun k => al.getD (dig w l k) 0
theorem letters_length (w : Nat) (al l : List UInt8) : (letters w al l).length = many w l.length := by unfold letters; simp
theorem letters_append (w : Nat) (hw : 0 < w) (al a b : List UInt8) (q : Nat) (hq : w * q = 8 * a.length) : letters w al (a ++ b) = letters w al a ++ letters w al b := by
  have m1 : many w a.length = q := by
    unfold many; rw [← hq]
    rw [show w * q + w - 1 = (w - 1) + w * q by omega, Nat.add_mul_div_left _ _ hw, Nat.div_eq_of_lt (by omega), Nat.zero_add]
  have m2 : many w (a ++ b).length = q + many w b.length := by
    unfold many; rw [List.length_append, Nat.mul_add, ← hq]
    rw [show w * q + 8 * b.length + w - 1 = (8 * b.length + w - 1) + w * q by omega, Nat.add_mul_div_left _ _ hw, Nat.add_comm]
  unfold letters
  rw [m2, m1, List.range_add, List.map_append, List.map_map]
  congr 1
  · apply List.map_congr_left
    intro k hk
    rw [List.mem_range] at hk
    rw [dig_append_left w a b k (by rw [← hq]; exact Nat.mul_le_mul_left _ hk)]
  · apply List.map_congr_left
    intro k hk
    rw [List.mem_range] at hk
    simp only [Function.comp]
    rw [dig_append_right w a b q k hq ?_]
    unfold many at hk
    have := (Nat.lt_div_iff_mul_lt hw).1 hk
    rw [Nat.mul_comm] at this
    omega
end Go.Proofs.YteadncmhcbdicaaDoor
