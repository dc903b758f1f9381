/- A head of whole lines has its end at its end alone. -/
import Derived.Test.YtajclihnoedecaaGreatDoorHdLong
namespace Go.Proofs.YtajclihnoedecaaGreatDoor
def flatL : List (List UInt8) → List UInt8
  | [] => [13, 10]
  | l :: ls => l ++ 13 :: 10 :: flatL ls
def lineOk (l : List UInt8) : Prop := l ≠ [] ∧ ∀ c ∈ l, c ≠ 13
theorem flat_occ : ∀ (ls : List (List UInt8)), (∀ l ∈ ls, lineOk l) → ∀ i, Lib.occAt (flatL ls) crcr i = true → i + 4 = (flatL ls).length
  | [], _, i, h => by
    match i with
    | 0 => exact absurd h (by decide)
    | 1 => exact absurd h (by decide)
    | i + 2 => exact absurd h (by simp [flatL, Lib.occAt, crcr])
  | l :: ls, ho, i, h => by
    obtain ⟨hne, hn⟩ := ho l (by simp)
    have hr : ∀ x ∈ ls, lineOk x := fun x hx => ho x (by simp [hx])
    have ih := flat_occ ls hr
    have hat : ∀ j v, crcr[j]? = some v → (flatL (l :: ls))[i + j]? = some v := by
      intro j v hv
      unfold Lib.occAt at h
      rw [List.isPrefixOf_iff_prefix] at h
      obtain ⟨t, ht⟩ := h
      have : (crcr ++ t)[j]? = some v := by rw [List.getElem?_append_left (by have := (List.getElem?_eq_some_iff.1 hv).1; exact this)]; exact hv
      rw [ht, List.getElem?_drop] at this
      exact this
    have h0 := hat 0 13 rfl
    have h2 := hat 2 13 rfl
    have h3 := hat 3 10 rfl
    unfold flatL at h0 h2 h3
    by_cases h1 : i < l.length
    · rw [Nat.add_zero, List.getElem?_append_left h1] at h0
      exact absurd rfl (hn 13 (List.mem_of_getElem? h0))
    · by_cases hi0 : i = l.length
      · subst hi0
        rw [List.getElem?_append_right (by omega)] at h2 h3
        have e2 : l.length + 2 - l.length = 2 := by omega
        have e3 : l.length + 3 - l.length = 3 := by omega
        rw [e2] at h2
        rw [e3] at h3
        simp only [List.getElem?_cons_succ] at h2 h3
        cases ls with
        | nil => simp [flatL]
        | cons m ms =>
          obtain ⟨mne, mn⟩ := hr m (by simp)
          cases m with
          | nil => exact absurd rfl mne
          | cons a u =>
            unfold flatL at h2
            have : a = 13 := by simpa using h2
            exact absurd this (mn a (by simp))
      · by_cases hi1 : i = l.length + 1
        · subst hi1
          rw [Nat.add_zero, List.getElem?_append_right (by omega)] at h0
          have e : l.length + 1 - l.length = 1 := by omega
          rw [e] at h0
          exact absurd h0 (by simp)
        · obtain ⟨j, rfl⟩ : ∃ j, i = l.length + 2 + j := ⟨i - (l.length + 2), by omega⟩
          have hd : (flatL (l :: ls)).drop (l.length + 2 + j) = (flatL ls).drop j := by
            have e : flatL (l :: ls) = l ++ 13 :: 10 :: flatL ls := rfl
            rw [e, ← List.drop_drop, show l ++ 13 :: 10 :: flatL ls = (l ++ [13, 10]) ++ flatL ls by simp, List.drop_left' (by simp)]
          have := ih j (by unfold Lib.occAt at h ⊢; rw [hd] at h; exact h)
          have e : (flatL (l :: ls)).length = l.length + ((flatL ls).length + 2) := by show (l ++ 13 :: 10 :: flatL ls).length = _; simp
          omega
theorem flat_short (ls : List (List UInt8)) (ho : ∀ l ∈ ls, lineOk l) (k : Nat) (hk : k < (flatL ls).length) : endL ((flatL ls).take k) = -1 := by
  unfold endL
  refine Lib.index_none (fun j hj => ?_)
  rw [← Bool.not_eq_true]
  intro h
  rw [List.take_take] at h hj
  obtain ⟨m, hm⟩ : ∃ m, m = min 4096 k := ⟨_, rfl⟩
  rw [← hm] at h hj
  have hp : Lib.occAt (flatL ls) crcr j = true ∧ j + 4 ≤ m := by
    unfold Lib.occAt at h ⊢
    rw [List.isPrefixOf_iff_prefix] at h ⊢
    have hl := h.length_le
    rw [List.length_drop, List.length_take] at hl
    have h4 : crcr.length = 4 := rfl
    refine ⟨h.trans ?_, by omega⟩
    rw [List.drop_take]
    exact List.take_prefix _ _
  have := flat_occ ls ho j hp.1
  omega
end Go.Proofs.YtajclihnoedecaaGreatDoor
