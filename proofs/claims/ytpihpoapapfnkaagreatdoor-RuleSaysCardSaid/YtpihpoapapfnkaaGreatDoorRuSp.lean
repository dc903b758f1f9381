/- Texts parted at a byte, as lists. Nothing of the program is imported. -/
import Derived.Test.YtpihpoapapfnkaaGreatDoorRuGl
import Derived.Lib.Split
namespace Go.Proofs.YtpihpoapapfnkaaGreatDoor
open Go
/-- The pieces between the bytes c. -/
def spl (c : UInt8) : List UInt8 → List (List UInt8)
  | [] => [[]]
  | x :: t => if x = c then [] :: spl c t else match spl c t with
    | [] => [[x]]
    | p :: ps => (x :: p) :: ps
theorem spl_ne (c : UInt8) (l : List UInt8) : spl c l ≠ [] := by
  cases l with
  | nil => simp [spl]
  | cons x t =>
    unfold spl
    split
    · simp
    · split <;> simp
theorem spl_hit (c : UInt8) (t : List UInt8) : spl c (c :: t) = [] :: spl c t := by rw [spl, if_pos rfl]
theorem spl_miss {c x : UInt8} (hx : x ≠ c) (t : List UInt8) : ∃ p ps, spl c t = p :: ps ∧ spl c (x :: t) = (x :: p) :: ps := by
  cases h : spl c t with
  | nil => exact absurd h (spl_ne c t)
  | cons p ps => exact ⟨p, ps, rfl, by rw [spl, if_neg hx, h]⟩
theorem spl_none {c : UInt8} : ∀ (a : List UInt8), c ∉ a → spl c a = [a]
  | [], _ => rfl
  | x :: a, h => by
    have hx : x ≠ c := fun e => h (by simp [e])
    obtain ⟨p, ps, e1, e2⟩ := spl_miss hx a
    rw [spl_none a (fun h2 => h (by simp [h2]))] at e1
    cases e1
    exact e2
theorem spl_at {c : UInt8} (b : List UInt8) : ∀ (a : List UInt8), c ∉ a → spl c (a ++ c :: b) = a :: spl c b
  | [], _ => spl_hit c b
  | x :: a, h => by
    have hx : x ≠ c := fun e => h (by simp [e])
    obtain ⟨p, ps, e1, e2⟩ := spl_miss hx (a ++ c :: b)
    rw [spl_at b a (fun h2 => h (by simp [h2]))] at e1
    cases e1
    exact e2
theorem spl_mem {c : UInt8} : ∀ (l : List UInt8), ∀ p ∈ spl c l, c ∉ p
  | [], p, hp => by simp [spl] at hp; subst hp; simp
  | x :: t, p, hp => by
    by_cases hx : x = c
    · subst hx
      rw [spl_hit, List.mem_cons] at hp
      rcases hp with rfl | hp
      · simp
      · exact spl_mem t p hp
    · obtain ⟨q, ps, e1, e2⟩ := spl_miss hx t
      have ih := spl_mem (c := c) t
      rw [e1] at ih
      rw [e2, List.mem_cons] at hp
      rcases hp with rfl | hp
      · intro h
        rcases List.mem_cons.1 h with e | h
        · exact hx e.symm
        · exact ih q (by simp) h
      · exact ih p (by simp [hp])
theorem spl_all {c : UInt8} (P : UInt8 → Prop) : ∀ (l : List UInt8), (∀ x ∈ l, P x) → ∀ p ∈ spl c l, ∀ x ∈ p, P x
  | [], _, p, hp => by simp [spl] at hp; subst hp; simp
  | x :: t, h, p, hp => by
    have ih := spl_all (c := c) P t (fun y hy => h y (by simp [hy]))
    by_cases hx : x = c
    · subst hx
      rw [spl_hit, List.mem_cons] at hp
      rcases hp with rfl | hp
      · simp
      · exact ih p hp
    · obtain ⟨q, ps, e1, e2⟩ := spl_miss hx t
      rw [e1] at ih
      rw [e2, List.mem_cons] at hp
      rcases hp with rfl | hp
      · intro y hy
        rcases List.mem_cons.1 hy with rfl | hy
        · exact h y (by simp)
        · exact ih q (by simp) y hy
      · exact ih p (by simp [hp])
theorem spl_len {c : UInt8} : ∀ (l : List UInt8), (spl c l).length ≤ l.length + 1 ∧ ∀ p ∈ spl c l, p.length ≤ l.length
  | [] => by simp [spl]
  | x :: t => by
    obtain ⟨a1, a2⟩ := spl_len (c := c) t
    by_cases hx : x = c
    · subst hx
      rw [spl_hit]
      refine ⟨by simp; omega, fun p hp => ?_⟩
      rcases List.mem_cons.1 hp with rfl | hp
      · simp
      · have := a2 p hp; simp; omega
    · obtain ⟨q, ps, e1, e2⟩ := spl_miss hx t
      rw [e1] at a1 a2
      rw [e2]
      refine ⟨by simp at a1 ⊢; omega, fun p hp => ?_⟩
      rcases List.mem_cons.1 hp with rfl | hp
      · have := a2 q (by simp); simp; omega
      · have := a2 p (by simp [hp]); simp; omega
theorem starJoin_spl : ∀ (l : List UInt8), starJoin (spl 42 l) = l
  | [] => rfl
  | x :: t => by
    have ih := starJoin_spl t
    by_cases hx : x = 42
    · subst hx
      rw [spl_hit]
      cases h : spl 42 t with
      | nil => exact absurd h (spl_ne 42 t)
      | cons p ps =>
        rw [h] at ih
        show [] ++ 42 :: starJoin (p :: ps) = _
        rw [ih]; rfl
    · obtain ⟨q, ps, e1, e2⟩ := spl_miss hx t
      rw [e1] at ih
      rw [e2]
      cases ps with
      | nil =>
        have ih : q = t := ih
        show x :: q = _
        rw [ih]
      | cons r ps =>
        have ih : q ++ 42 :: starJoin (r :: ps) = t := ih
        show x :: q ++ 42 :: starJoin (r :: ps) = _
        rw [List.cons_append, ih]
theorem pre1 (c x : UInt8) (t : List UInt8) : ([c] : List UInt8).isPrefixOf (x :: t) = (c == x) := by simp [List.isPrefixOf]
theorem sct_nil (c : UInt8) : Lib.count [] [c] = 0 := Lib.count_miss rfl
theorem sct_hit (c : UInt8) (t : List UInt8) : Lib.count (c :: t) [c] = 1 + Lib.count t [c] := by
  have := Lib.count_hit (s := c :: t) (sub := [c]) (i := 0) (by simp) (gix_hit (by rw [pre1]; simp))
  simpa using this
theorem sct_miss {c x : UInt8} (hx : x ≠ c) (t : List UInt8) : Lib.count (x :: t) [c] = Lib.count t [c] := by
  have hi := gix_miss (b := x) (t := t) (sub := [c]) (by rw [pre1, beq_eq_false_iff_ne]; exact Ne.symm hx)
  by_cases hm : Lib.index t [c] = -1
  · rw [hm] at hi
    rw [Lib.count_miss hm, Lib.count_miss hi]
  · obtain ⟨i, he⟩ : ∃ i : Nat, Lib.index t [c] = i := ⟨(Lib.index t [c]).toNat, by have := Lib.index_ge t [c]; omega⟩
    rw [if_neg (by simp [hm]), he] at hi
    rw [Lib.count_hit (by simp) he, Lib.count_hit (i := i + 1) (by simp) (by rw [hi]; rfl)]
    simp [List.drop_succ_cons]
/-- The library's Split at one byte. -/
theorem split_spl (c : UInt8) : ∀ (s : List UInt8), Lib.split s [c] = spl c s
  | [] => by unfold Lib.split; rw [sct_nil]; rfl
  | x :: t => by
    have ih := split_spl c t
    unfold Lib.split at ih ⊢
    by_cases hx : x = c
    · subst hx
      rw [spl_hit, ← ih, sct_hit, Nat.add_comm, Lib.splitK, gix_hit (by rw [pre1]; simp)]
      simp
    · obtain ⟨q, ps, e1, e2⟩ := spl_miss hx t
      rw [e1] at ih
      rw [e2, sct_miss hx]
      have hi := gix_miss (b := x) (t := t) (sub := [c]) (by rw [pre1, beq_eq_false_iff_ne]; exact Ne.symm hx)
      cases hk : Lib.count t [c] with
      | zero =>
        rw [hk] at ih
        have : [t] = q :: ps := ih
        cases this; rfl
      | succ k =>
        rw [hk] at ih
        by_cases hm : Lib.index t [c] = -1
        · rw [Lib.count_miss hm] at hk; cases hk
        · obtain ⟨i, he⟩ : ∃ i : Nat, Lib.index t [c] = i := ⟨(Lib.index t [c]).toNat, by have := Lib.index_ge t [c]; omega⟩
          rw [if_neg (by simp [hm]), he] at hi
          rw [Lib.splitK, he, if_neg (by rw [beq_iff_eq]; omega)] at ih
          rw [Lib.splitK, hi, if_neg (by rw [beq_iff_eq]; omega)]
          rw [show ((i : Int) + 1).toNat + 0 = ((i : Int).toNat + 0) + 1 by omega, show ((i : Int) + 1).toNat + [c].length = ((i : Int).toNat + [c].length) + 1 by simp, List.take_succ_cons, List.drop_succ_cons]
          cases ih; rfl
end Go.Proofs.YtpihpoapapfnkaaGreatDoor
