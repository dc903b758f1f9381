/- Digits of the base 2 ^ w as a number, and its bytes. Nothing of the program is imported. -/
import Derived.Test.YtoehkhbppmgfkaaGreatDoorNum
namespace Go.Proofs.YtoehkhbppmgfkaaGreatDoor

theorem numW_foldl (w : Nat) (l : List Nat) (n : Nat) : l.foldl (fun n d => n * 2 ^ w + d) n = n * 2 ^ (w * l.length) + numW w l := by
  induction l generalizing n with
  | nil => simp [numW]
  | cons b l ih =>
    unfold numW
    rw [List.foldl_cons, List.foldl_cons, ih, ih (0 * 2 ^ w + b), List.length_cons, Nat.mul_succ, Nat.pow_add, Nat.zero_mul, Nat.zero_add, Nat.add_mul, Nat.mul_assoc, Nat.mul_comm (2 ^ w), Nat.add_assoc]
theorem numW_append (w : Nat) (a b : List Nat) : numW w (a ++ b) = numW w a * 2 ^ (w * b.length) + numW w b := by
  conv => lhs; unfold numW
  rw [List.foldl_append, numW_foldl]; rfl
theorem numW_snoc (w : Nat) (a : List Nat) (d : Nat) : numW w (a ++ [d]) = numW w a * 2 ^ w + d := by
  rw [numW_append]; simp [numW]
theorem numW_lt (w : Nat) (l : List Nat) (h : ∀ d ∈ l, d < 2 ^ w) : numW w l < 2 ^ (w * l.length) := by
  induction l with
  | nil => simp [numW]
  | cons b l ih =>
    have e := numW_append w [b] l
    have h1 : numW w [b] = b := by simp [numW]
    rw [List.singleton_append, h1] at e
    have hb := h b (List.mem_cons_self ..)
    have ih' := ih fun d hd => h d (List.mem_cons_of_mem _ hd)
    rw [e, List.length_cons, Nat.mul_succ, Nat.pow_add, Nat.mul_comm _ (2 ^ w)]
    have h2 : (b + 1) * 2 ^ (w * l.length) ≤ 2 ^ w * 2 ^ (w * l.length) := Nat.mul_le_mul_right _ (by omega)
    rw [Nat.add_mul] at h2
    omega
/-- The j-th byte of the digits vs. -/
def byt (w : Nat) (vs : List Nat) (j : Nat) : UInt8 := UInt8.ofNat (numW w vs / 2 ^ (w * vs.length - 8 * (j + 1)))
theorem byt_append (w : Nat) (a b : List Nat) (j : Nat) (h : 8 * (j + 1) ≤ w * a.length) (hb : ∀ d ∈ b, d < 2 ^ w) : byt w (a ++ b) j = byt w a j := by
  unfold byt
  rw [numW_append, List.length_append, Nat.mul_add]
  have e : w * a.length + w * b.length - 8 * (j + 1) = w * b.length + (w * a.length - 8 * (j + 1)) := by omega
  rw [e, Nat.pow_add, ← Nat.div_div_eq_div_mul, Nat.mul_comm (numW w a), Nat.mul_add_div (Nat.two_pow_pos _), Nat.div_eq_of_lt (numW_lt w b hb), Nat.add_zero]
/-- The first m bytes. -/
def byts (w : Nat) (vs : List Nat) (m : Nat) : List UInt8 := (List.range m).map (byt w vs)
theorem byts_zero (w : Nat) (vs : List Nat) : byts w vs 0 = [] := rfl
theorem byts_succ (w : Nat) (vs : List Nat) (m : Nat) : byts w vs (m + 1) = byts w vs m ++ [byt w vs m] := by
  unfold byts; rw [List.range_succ, List.map_append]; rfl
theorem byts_length (w : Nat) (vs : List Nat) (m : Nat) : (byts w vs m).length = m := by unfold byts; simp
theorem byts_append (w : Nat) (a b : List Nat) (m : Nat) (h : 8 * m ≤ w * a.length) (hb : ∀ d ∈ b, d < 2 ^ w) : byts w (a ++ b) m = byts w a m := by
  unfold byts
  apply List.map_congr_left
  intro j hj
  rw [List.mem_range] at hj
  exact byt_append w a b j (by omega) hb
/-- The bits behind the last whole byte. -/
def unused (w : Nat) (vs : List Nat) : Nat := numW w vs % 2 ^ (w * vs.length % 8)
end Go.Proofs.YtoehkhbppmgfkaaGreatDoor
