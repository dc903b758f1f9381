/- How a pattern covers another one, by the reference's words. -/
import Derived.Test.YthpkmdojeegleaaGreatDoorRuLs
namespace Go.Proofs.YthpkmdojeegleaaGreatDoor
open Go.RowKit
/-- The same by the reference's steps, where there is one star. -/
def overR (a b : List UInt8) : Bool :=
  decide (a.length - 1 ≤ b.length) && ((a.getD (a.length - 1) 0 == 42 && b.take (a.length - 1) == a.take (a.length - 1)) || (a.getD 0 0 == 42 && b.drop (b.length - (a.length - 1)) == a.drop 1))
theorem over_star (b : List UInt8) : overP [42] b = true := by
  unfold overP
  by_cases h : [42] = b
  · rw [if_pos h]
  · rw [if_neg h, if_neg (by decide)]
    rcases cut1 42 [42] with ⟨h1, _⟩ | ⟨x, y, e, h1, h2⟩
    · simp at h1
    · rw [h2]
      have : x = [] ∧ y = [] := by
        cases x with
        | nil => simp at e; exact ⟨rfl, e⟩
        | cons z x => simp at e
      rw [this.1, this.2]
      have : Lib.hasPrefix b [] = true := (pre_iff b []).2 ⟨b, rfl⟩
      simp [this]
theorem over_same (a : List UInt8) : overP a a = true := by unfold overP; rw [if_pos rfl]
theorem over_not {a b : List UInt8} (h : a ≠ b) (hc : a.count 42 ≠ 1) : overP a b = false := by unfold overP; rw [if_neg h, if_pos hc]
theorem over_one {a b : List UInt8} (h : a ≠ b) (hc : a.count 42 = 1) : overP a b = overR a b := by
  unfold overP
  rw [if_neg h, if_neg (by simp [hc])]
  rcases cut1 42 a with ⟨h1, _⟩ | ⟨x, y, rfl, h1, h2⟩
  · rw [List.count_eq_zero.2 h1] at hc; cases hc
  · rw [h2]
    have hy : (42 : UInt8) ∉ y := by
      rw [List.count_append, List.count_eq_zero.2 h1, List.count_cons_self] at hc
      exact List.count_eq_zero.1 (by omega)
    have hl : (x ++ 42 :: y).length - 1 = x.length + y.length := by simp
    unfold overR
    rw [hl]
    simp only
    rw [Bool.eq_iff_iff]
    simp only [Bool.or_eq_true, Bool.and_eq_true, decide_eq_true_eq, beq_iff_eq]
    have e1 : (x ++ 42 :: y).getD (x.length + y.length) 0 = 42 ↔ y = [] := by
      rw [List.getD_eq_getElem?_getD, List.getElem?_append_right (by omega)]
      rw [show x.length + y.length - x.length = y.length by omega]
      constructor
      · intro e
        rcases List.eq_nil_or_concat y with rfl | ⟨z, c, rfl⟩
        · rfl
        · exfalso
          simp at e
          apply hy; rw [← e]; simp
      · rintro rfl; rfl
    have e2 : (x ++ 42 :: y).getD 0 0 = 42 ↔ x = [] := by
      constructor
      · intro e
        cases x with
        | nil => rfl
        | cons z x => exfalso; simp at e; apply h1; rw [← e]; simp
      · rintro rfl; rfl
    rw [e1, e2]
    constructor
    · rintro (⟨rfl, hp⟩ | ⟨rfl, hs⟩)
      · obtain ⟨u, rfl⟩ := (pre_iff b x).1 hp
        exact ⟨by simp, .inl ⟨rfl, by simp⟩⟩
      · obtain ⟨u, rfl⟩ := (suf_iff b y).1 hs
        exact ⟨by simp, .inr ⟨rfl, by simp⟩⟩
    · rintro ⟨hn, ⟨rfl, hp⟩ | ⟨rfl, hs⟩⟩
      · refine .inl ⟨rfl, (pre_iff b x).2 ⟨b.drop x.length, ?_⟩⟩
        simp at hp
        have := List.take_append_drop x.length b
        rw [hp] at this
        exact this.symm
      · refine .inr ⟨rfl, (suf_iff b y).2 ⟨b.take (b.length - y.length), ?_⟩⟩
        simp at hs
        have := List.take_append_drop (b.length - y.length) b
        rw [hs] at this
        exact this.symm
end Go.Proofs.YthpkmdojeegleaaGreatDoor
