/- Numbers in decimal, as lists: what decimal.Parse takes. Nothing of the program is imported. -/
import Derived.Lib.AtoiTie
import Derived.Lib.ItoaMem
namespace Go.Proofs.YtoehkhbppmgfkaaGreatDoor
open Go
theorem ends {α : Type} (x : Lib.NumEnd α) : (∃ v, x = .ok v) ∨ x = Lib.NumEnd.syntax ∨ x = .range := by
  cases x
  · exact .inl ⟨_, rfl⟩
  · exact .inr (.inl rfl)
  · exact .inr (.inr rfl)
/-- decimal.Parse. -/
def decP (s : List UInt8) (lo hi : Int) : Int × Bool :=
  match Lib.atoiAll s with
  | .ok v => if Lib.itoa v = s ∧ lo ≤ v ∧ v ≤ hi then (v, true) else (0, false)
  | _ => (0, false)
/-- The number of a text of digits. -/
def valD (l : List UInt8) : Nat := l.foldl (fun n c => 10 * n + (c.toNat - 48)) 0
def isD (c : UInt8) : Bool := decide (48 ≤ c.toNat) && decide (c.toNat ≤ 57)
theorem valD_snoc (l : List UInt8) (c : UInt8) : valD (l ++ [c]) = 10 * valD l + (c.toNat - 48) := by unfold valD; simp
theorem dig_toNat {d : Nat} (h : d < 10) : (UInt8.ofNat (48 + d)).toNat = 48 + d := by
  rw [UInt8.toNat_ofNat']; omega
theorem decFrom_val : ∀ (l : List UInt8) (acc : Nat), l.all isD = true → Lib.decFrom acc l = some (l.foldl (fun n c => 10 * n + (c.toNat - 48)) acc)
  | [], acc, _ => rfl
  | b :: r, acc, h => by
    simp only [List.all_cons, Bool.and_eq_true] at h
    obtain ⟨h1, h2⟩ := h
    unfold isD at h1
    simp only [Bool.and_eq_true, decide_eq_true_eq] at h1
    have hd : Lib.digitVal b = some (b.toNat - 48) := by unfold Lib.digitVal; rw [if_pos h1]
    rw [Lib.decFrom, hd]
    show Lib.decFrom (acc * 10 + (b.toNat - 48)) r = _
    rw [decFrom_val r _ h2, Nat.mul_comm]; rfl
theorem atoi_val {l : List UInt8} (h : l.all isD = true) (h0 : l ≠ []) : Lib.atoi l = some ((valD l : Nat) : Int) := by
  cases l with
  | nil => exact absurd rfl h0
  | cons b r =>
    have hb := h
    simp only [List.all_cons, Bool.and_eq_true] at hb
    have h1 := hb.1
    unfold isD at h1
    simp only [Bool.and_eq_true, decide_eq_true_eq] at h1
    unfold Lib.atoi
    show (if (b == 45) = true then _ else _) = _
    rw [if_neg (by intro e; have : b = 45 := by simpa using e
                   subst this; exact absurd h1.1 (by decide)), if_neg (by intro e; have : b = 43 := by simpa using e
                                                                          subst this; exact absurd h1.1 (by decide))]
    unfold Lib.decNat
    rw [if_neg (by simp), decFrom_val _ _ h]; rfl
theorem head_app {l : List UInt8} (m : List UInt8) (h : l ≠ []) : (l ++ m).head? = l.head? := by
  cases l with
  | nil => exact absurd rfl h
  | cons => rfl
/-- The digits of a number are digits, the first of them is no nought, and they are its own. -/
theorem digits_facts (u : Nat) : (Lib.decDigits u).all isD = true ∧ valD (Lib.decDigits u) = u ∧ Lib.decDigits u ≠ [] ∧ (1 ≤ u → (Lib.decDigits u).head? ≠ some 48) := by
  induction u using Nat.strongRecOn with
  | _ u ih =>
    by_cases h : u < 10
    · rw [Lib.decDigits, dif_pos h]
      have hd := dig_toNat h
      refine ⟨?_, ?_, by simp, ?_⟩
      · simp [isD]; omega
      · show 10 * 0 + ((UInt8.ofNat (48 + u)).toNat - 48) = u
        rw [hd]; omega
      · intro h1 e
        have : UInt8.ofNat (48 + u) = 48 := by simpa using e
        have := congrArg UInt8.toNat this
        rw [hd] at this
        have h48 : (48 : UInt8).toNat = 48 := rfl
        omega
    · have hd := dig_toNat (Nat.mod_lt u (by decide : 0 < 10))
      obtain ⟨a, b, c, d⟩ := ih (u / 10) (by omega)
      rw [Lib.decDigits, dif_neg h]
      refine ⟨?_, ?_, by simp, ?_⟩
      · rw [List.all_append, a]
        simp [isD]; omega
      · rw [valD_snoc, b, hd]; omega
      · intro _
        rw [head_app _ c]
        exact d (by omega)
/-- A text of digits that doesn't begin with a nought is its number's own. -/
theorem digits_val (n : Nat) : ∀ l : List UInt8, l.length = n → l.all isD = true → l ≠ [] → (l.head? = some 48 → l.length = 1) → Lib.decDigits (valD l) = l := by
  induction n with
  | zero => intro l hl _ h0; exact absurd (List.eq_nil_of_length_eq_zero hl) h0
  | succ n ih =>
    intro l hl ha h0 hh
    obtain ⟨r, c, rfl⟩ : ∃ r c, l = r ++ [c] := ⟨l.dropLast, l.getLast h0, (List.dropLast_concat_getLast h0).symm⟩
    rw [List.all_append, Bool.and_eq_true] at ha
    have hc : isD c = true := by simpa using ha.2
    unfold isD at hc
    simp only [Bool.and_eq_true, decide_eq_true_eq] at hc
    have hd : UInt8.ofNat (48 + (c.toNat - 48)) = c := by
      rw [show 48 + (c.toNat - 48) = c.toNat by omega]; simp
    rw [valD_snoc]
    by_cases hr : r = []
    · subst hr
      show Lib.decDigits (10 * 0 + (c.toNat - 48)) = [c]
      rw [Nat.mul_zero, Nat.zero_add, Lib.decDigits, dif_pos (by omega), hd]
    · have hrl : r.length = n := by simpa using hl
      have hhr : r.head? ≠ some 48 := by
        intro e
        have := hh (by rw [head_app _ hr]; exact e)
        have h1 : 0 < r.length := List.length_pos_iff.2 hr
        simp at this; exact hr this
      have hir := ih r hrl ha.1 hr (fun e => absurd e hhr)
      have hv : 1 ≤ valD r := by
        rcases Nat.eq_zero_or_pos (valD r) with e | e
        · rw [e] at hir
          rw [← hir] at hhr
          rw [Lib.decDigits] at hhr
          exact absurd rfl hhr
        · exact e
      rw [Lib.decDigits, dif_neg (by omega), show (10 * valD r + (c.toNat - 48)) / 10 = valD r by omega, show (10 * valD r + (c.toNat - 48)) % 10 = c.toNat - 48 by omega, hir, hd]
theorem nDigits_le (u k : Nat) (h : u < 10 ^ (k + 1)) : Lib.nDigits u ≤ k + 1 := by
  induction k generalizing u with
  | zero => rw [Lib.nDigits_small (by simpa using h)]; omega
  | succ k ih =>
    by_cases h1 : u < 10
    · rw [Lib.nDigits_small h1]; omega
    · rw [Lib.nDigits_big h1]
      have := ih (u / 10) (by rw [Nat.pow_succ] at h; omega)
      omega
/-- A number from 1 to hi (fewer than ten to the k + 1), as a reader would look for one: at most k + 1 digits, the first no nought. -/
def portP (s : List UInt8) (k hi : Nat) : Int × Bool :=
  if 1 ≤ s.length ∧ s.length ≤ k + 1 ∧ s.head? ≠ some 48 ∧ s.all isD = true ∧ valD s ≤ hi then ((valD s : Nat), true) else (0, false)
theorem decP_port (s : List UInt8) (k hi : Nat) (hk : k ≤ 10) (hh : hi < 10 ^ (k + 1)) : decP s 1 hi = portP s k hi := by
  unfold portP
  by_cases h : 1 ≤ s.length ∧ s.length ≤ k + 1 ∧ s.head? ≠ some 48 ∧ s.all isD = true ∧ valD s ≤ hi
  · obtain ⟨h1, h2, h3, h4, h5⟩ := h
    rw [if_pos ⟨h1, h2, h3, h4, h5⟩]
    have hne : s ≠ [] := by intro e; subst e; simp at h1
    have hdd := digits_val s.length s rfl h4 hne (fun e => absurd e h3)
    have hat : Lib.atoiAll s = .ok ((valD s : Nat) : Int) := by
      rw [Lib.atoiAll_short s (by omega), atoi_val h4 hne]; rfl
    have h1v : 1 ≤ valD s := by
      rcases Nat.eq_zero_or_pos (valD s) with e | e
      · rw [e, Lib.decDigits] at hdd
        rw [← hdd] at h3
        exact absurd rfl h3
      · exact e
    unfold decP
    rw [hat]
    show (if Lib.itoa ((valD s : Nat) : Int) = s ∧ _ ∧ _ then _ else _) = _
    rw [if_pos ⟨by rw [Lib.itoa_nonneg, hdd], by omega, by omega⟩]
  · rw [if_neg h]
    unfold decP
    rcases ends (Lib.atoiAll s) with ⟨v, hat⟩ | hat | hat
    · rw [hat]
      show (if Lib.itoa v = s ∧ 1 ≤ v ∧ v ≤ (hi : Int) then _ else _) = _
      rw [if_neg ?_]
      rintro ⟨a, b, c⟩
      obtain ⟨u, rfl⟩ : ∃ u : Nat, v = u := ⟨v.toNat, by omega⟩
      rw [Lib.itoa_nonneg] at a
      obtain ⟨f1, f2, f3, f4⟩ := digits_facts u
      rw [a] at f1 f2 f3 f4
      have hl : s.length ≤ k + 1 := by
        rw [← a, Lib.decDigits_length]
        exact nDigits_le u k (by omega)
      exact h ⟨by have := List.length_pos_iff.2 f3; omega, hl, f4 (by omega), f1, by omega⟩
    · rw [hat]
    · rw [hat]
end Go.Proofs.YtoehkhbppmgfkaaGreatDoor
