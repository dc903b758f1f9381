/- Waits that double, up to a most; their sums; the greatest number of waits within so many ticks. Nothing of the program is imported. -/
import Derived.WalkKit
import Derived.WalkSpells
namespace Go.Proofs.YtnfkkopegbeacaaDoor
open Go.RowKit

/-- The wait behind k failures. -/
def wI (b m : Int) (k : Nat) : Int := min (b * 2 ^ k) m
/-- The waits behind 1 .. k failures together. -/
def sI (b m : Int) : Nat → Int
  | 0 => 0
  | k + 1 => sI b m k + wI b m (k + 1)
/-- A number as a tick. -/
def tI (n : Int) : Int := min n 1099511627776
theorem sI_zero (b m : Int) : sI b m 0 = 0 := rfl
theorem sI_succ (b m : Int) (k : Nat) : sI b m (k + 1) = sI b m k + wI b m (k + 1) := rfl
theorem wI_def (b m : Int) (k : Nat) : wI b m k = min (b * 2 ^ k) m := rfl
theorem tI_def (n : Int) : tI n = min n 1099511627776 := rfl
attribute [irreducible] wI sI tI
theorem tI_range {n : Int} (h : 0 ≤ n) : 0 ≤ tI n ∧ tI n ≤ 1099511627776 ∧ tI n ≤ n := by rw [tI_def]; omega
theorem tI_id {n : Int} (h : n ≤ 1099511627776) : tI n = n := by rw [tI_def]; omega
theorem tI_mono {n m : Int} (h : n ≤ m) : tI n ≤ tI m := by rw [tI_def, tI_def]; omega

section
variable {b m : Int}
theorem wI_zero : wI b m 0 = min b m := by rw [wI_def]; simp
theorem wI_le (k : Nat) : wI b m k ≤ m := by rw [wI_def]; omega
theorem wI_nonneg (hb : 0 ≤ b) (hm : 0 ≤ m) (k : Nat) : 0 ≤ wI b m k := by
  rw [wI_def]
  have : 0 ≤ b * 2 ^ k := Int.mul_nonneg hb (Int.pow_nonneg (by decide))
  omega
theorem wI_succ (hm : 0 ≤ m) (k : Nat) : wI b m (k + 1) = min (2 * wI b m k) m := by
  rw [wI_def, wI_def, Int.pow_succ]
  have e : b * (2 ^ k * 2) = b * 2 ^ k * 2 := by rw [Int.mul_assoc]
  rw [e]
  generalize b * 2 ^ k = x
  omega
theorem wI_one (hm : 0 ≤ m) : wI b m 1 = min (2 * min b m) m := by rw [wI_succ hm 0, wI_zero]
theorem wI_mono1 (hb : 0 ≤ b) (hm : 0 ≤ m) (k : Nat) : wI b m k ≤ wI b m (k + 1) := by
  have h1 := wI_succ (b := b) hm k
  have h2 := wI_nonneg hb hm k
  have h3 := wI_le (b := b) (m := m) k
  omega
theorem wI_mono (hb : 0 ≤ b) (hm : 0 ≤ m) (k j : Nat) : wI b m k ≤ wI b m (k + j) := by
  induction j with
  | zero => exact Int.le_refl _
  | succ j ih => exact Int.le_trans ih (wI_mono1 hb hm (k + j))
theorem wI_stuck (hb : 0 ≤ b) (hm : 0 ≤ m) {k : Nat} (h : wI b m k = m) (j : Nat) : wI b m (k + j) = m := by
  have h1 := wI_mono hb hm k j
  have h2 := wI_le (b := b) (m := m) (k + j)
  omega
theorem wI_most (hb : 0 ≤ b) (k : Nat) (hm : 0 ≤ m) (h : m ≤ b) : wI b m k = m := by
  have := wI_stuck hb hm (k := 0) (b := b) (m := m) (by rw [wI_zero]; omega) k
  rwa [Nat.zero_add] at this
theorem wI_none (hm : 0 ≤ m) (k : Nat) : wI 0 m k = 0 := by rw [wI_def, Int.zero_mul]; omega
theorem wI_big (hb : 1 ≤ b) (hm : 0 ≤ m) (hm2 : m ≤ 1099511627776) {k : Nat} (hk : 40 ≤ k) : wI b m k = m := by
  have h40 : wI b m 40 = m := by
    rw [wI_def]
    have : (2 : Int) ^ 40 = 1099511627776 := by decide
    rw [this]
    omega
  have := wI_stuck (by omega) hm h40 (k - 40)
  rwa [show 40 + (k - 40) = k by omega] at this
theorem wI_pos (hb : 1 ≤ b) (hm : 1 ≤ m) (k : Nat) : 1 ≤ wI b m k := by
  have h1 := wI_mono (b := b) (m := m) (by omega) (by omega) 0 k
  rw [wI_zero, Nat.zero_add] at h1
  omega
/-- The base may be cut at the most first. -/
theorem wI_cut (hb : 0 ≤ b) (hm : 0 ≤ m) {c : Int} (hc : m ≤ c) (k : Nat) : wI (min b c) m k = wI b m k := by
  by_cases h : b ≤ c
  · rw [show min b c = b by omega]
  · rw [show min b c = c by omega, wI_most (by omega) k hm hc, wI_most hb k hm (by omega)]
/-- Two mosts, the smaller one counts. -/
theorem wI_min {c : Int} (hc : m ≤ c) (k : Nat) : min (wI b c k) m = wI b m k := by rw [wI_def, wI_def]; omega

theorem sI_nonneg (hb : 0 ≤ b) (hm : 0 ≤ m) (k : Nat) : 0 ≤ sI b m k := by
  induction k with
  | zero => rw [sI_zero]; omega
  | succ k ih => rw [sI_succ]; have := wI_nonneg hb hm (k + 1); omega
theorem sI_ge (hb : 1 ≤ b) (hm : 1 ≤ m) (k : Nat) : (k : Int) ≤ sI b m k := by
  induction k with
  | zero => rw [sI_zero]; omega
  | succ k ih => rw [sI_succ]; have := wI_pos hb hm (k + 1); omega
theorem sI_mono (hb : 0 ≤ b) (hm : 0 ≤ m) (k j : Nat) : sI b m k ≤ sI b m (k + j) := by
  induction j with
  | zero => exact Int.le_refl _
  | succ j ih => rw [← Nat.add_assoc, sI_succ]; have := wI_nonneg hb hm (k + j + 1); omega
theorem sI_stuck (hb : 0 ≤ b) (hm : 0 ≤ m) {k : Nat} (h : wI b m (k + 1) = m) (j : Nat) : sI b m (k + j) = sI b m k + m * (j : Int) := by
  induction j with
  | zero => simp
  | succ j ih =>
    rw [← Nat.add_assoc, sI_succ, ih]
    have := wI_stuck hb hm h j
    rw [show k + j + 1 = k + 1 + j by omega, this, Int.natCast_succ, Int.mul_add, Int.mul_one]
    omega
theorem sI_up (k : Nat) : sI b m k ≤ m * (k : Int) := by
  induction k with
  | zero => rw [sI_zero]; simp
  | succ k ih => rw [sI_succ, Int.natCast_succ, Int.mul_add, Int.mul_one]; have := wI_le (b := b) (m := m) (k + 1); omega
end

/-- n is the greatest number of failures within t ticks. -/
def BoundIs (b m t : Int) (n : Nat) : Prop := 1 ≤ n ∧ sI b m (n - 1) < t ∧ t ≤ sI b m n
section
variable {b m t : Int} {n : Nat}
theorem BoundIs.most (h : BoundIs b m t n) (hb : 1 ≤ b) (hm : 1 ≤ m) : (n : Int) ≤ t := by
  have h1 := sI_ge hb hm (n - 1)
  have := h.1; have := h.2.1
  omega
theorem BoundIs.mono {t' : Int} {n' : Nat} (h : BoundIs b m t n) (h' : BoundIs b m t' n') (hb : 1 ≤ b) (hm : 1 ≤ m) (ht : t ≤ t') : n ≤ n' := by
  rcases Nat.lt_or_ge n' n with hl | hl
  · have h1 := sI_mono (b := b) (m := m) (by omega) (by omega) n' (n - 1 - n')
    rw [show n' + (n - 1 - n') = n - 1 by omega] at h1
    have := h.2.1; have := h'.2.2
    omega
  · exact hl
theorem BoundIs.least (h : BoundIs b m t n) (hm : 1 ≤ m) : 1 + (t - 1) / m ≤ (n : Int) := by
  have h1 := sI_up (b := b) (m := m) n
  have h2 := h.2.2
  have h3 : (t - 1) / m < n := Int.ediv_lt_of_lt_mul (by omega) (by rw [Int.mul_comm]; omega)
  omega
theorem BoundIs.most2 (h : BoundIs b m t n) (hb : 1 ≤ b) (hm : 1 ≤ m) (hm2 : m ≤ 1099511627776) : (n : Int) ≤ 41 + (t - 1) / m := by
  rcases Nat.lt_or_ge n 41 with hl | hl
  · have : 0 ≤ (t - 1) / m := Int.ediv_nonneg (by have := sI_nonneg (b := b) (m := m) (by omega) (by omega) (n - 1); have := h.2.1; omega) (by omega)
    omega
  · have h1 := sI_stuck (b := b) (m := m) (by omega) (by omega) (k := 39) (wI_big hb (by omega) hm2 (by omega)) (n - 1 - 39)
    rw [show 39 + (n - 1 - 39) = n - 1 by omega] at h1
    have h2 := sI_nonneg (b := b) (m := m) (by omega) (by omega) 39
    have h3 := h.2.1
    have h4 : ((n - 1 - 39 : Nat) : Int) ≤ (t - 1) / m := Int.le_ediv_of_mul_le (by omega) (by rw [Int.mul_comm]; omega)
    omega
/-- Where the waits have come to the most, the rest is one division. -/
theorem boundIs_at (hb : 1 ≤ b) (hm : 1 ≤ m) {k : Nat} (h : wI b m (k + 1) = m) (hl : sI b m k ≤ t - 1) : BoundIs b m t (1 + k + ((t - 1 - sI b m k) / m).toNat) := by
  have h0 : 0 ≤ (t - 1 - sI b m k) / m := Int.ediv_nonneg (by omega) (by omega)
  obtain ⟨q, hq⟩ : ∃ q : Nat, (t - 1 - sI b m k) / m = (q : Int) := ⟨_, (Int.toNat_of_nonneg h0).symm⟩
  rw [hq]
  have h1 := Int.mul_ediv_add_emod (t - 1 - sI b m k) m
  have h2 := Int.emod_lt_of_pos (t - 1 - sI b m k) (show 0 < m by omega)
  have h3 := Int.emod_nonneg (t - 1 - sI b m k) (show m ≠ 0 by omega)
  rw [hq] at h1
  refine ⟨by omega, ?_, ?_⟩
  · rw [show 1 + k + (q : Int).toNat - 1 = k + q by omega, sI_stuck (by omega) (by omega) h]
    omega
  · rw [show 1 + k + (q : Int).toNat = k + (q + 1) by omega, sI_stuck (by omega) (by omega) h, Int.natCast_succ, Int.mul_add, Int.mul_one]
    omega
theorem boundIs_stop {k : Nat} (h : t - 1 - sI b m k < wI b m (k + 1)) (hl : sI b m k ≤ t - 1) : BoundIs b m t (1 + k) := by
  refine ⟨by omega, by rw [show 1 + k - 1 = k by omega]; omega, ?_⟩
  rw [Nat.add_comm, sI_succ]; omega
end
theorem bound_ten (n : Nat) (h : BoundIs 1 100 10 n) : n = 3 := by
  have e : sI 1 100 2 = 6 ∧ sI 1 100 3 = 14 := by
    simp only [sI_succ, sI_zero, wI_def]; decide
  have h1 := BoundIs.mono h (n' := 3) (t' := 10) ⟨by decide, by rw [e.1]; decide, by rw [e.2]; decide⟩ (by decide) (by decide) (by decide)
  have h2 := BoundIs.mono (n := 3) (t := 10) (b := 1) (m := 100) ⟨by decide, by rw [e.1]; decide, by rw [e.2]; decide⟩ h (by decide) (by decide) (by decide)
  omega
theorem wait_eg : wI 3 100 4 = 48 ∧ wI 3 40 4 = 40 := by simp only [wI_def]; decide
end Go.Proofs.YtnfkkopegbeacaaDoor
