/- Frames in a row, and what is eaten of their bytes. -/
import Derived.Test.YtgldfobfchnkeaaFrTake2
namespace Go.Proofs.Ytgldfobfchnkeaa
open Go.RowKit

theorem un_more {l r R b : List UInt8} {k : UInt8} (h : un l = .fr k b r) : un (l ++ R) = .fr k b (r ++ R) := by
  match l, h with
  | k' :: x :: y :: t, h =>
    have hc : chk k' (num2 x y) = 0 := by
      by_cases hc : chk k' (num2 x y) = 0
      · exact hc
      · rw [un_bad hc] at h; cases h
    have hl : num2 x y ≤ t.length := by
      by_cases hl : num2 x y ≤ t.length
      · exact hl
      · rw [un_part hc (by omega)] at h; cases h
    rw [un_fr hc hl] at h
    injection h with h1 h2 h3
    subst h1 h2 h3
    show un (k' :: x :: y :: (t ++ R)) = _
    rw [un_fr hc (by rw [List.length_append]; omega), List.take_append_of_le_length hl, List.drop_append_of_le_length hl]
/-- Frames that there may be. -/
def Good (F : List (UInt8 × List UInt8)) : Prop := ∀ x ∈ F, 1 ≤ bn x.1 ∧ bn x.1 ≤ 15 ∧ x.2.length ≤ 2048
def packs (F : List (UInt8 × List UInt8)) : List UInt8 := F.flatMap fun x => frm x.1 x.2
theorem packs_nil : packs [] = [] := rfl
theorem packs_cons (k : UInt8) (b : List UInt8) (F : List (UInt8 × List UInt8)) : packs ((k, b) :: F) = frm k b ++ packs F := by unfold packs; simp
theorem packs_snoc (F : List (UInt8 × List UInt8)) (k : UInt8) (b : List UInt8) : packs (F ++ [(k, b)]) = packs F ++ frm k b := by unfold packs; simp
theorem un_packs {k : UInt8} {b : List UInt8} {F : List (UInt8 × List UInt8)} (h : Good ((k, b) :: F)) : un (packs ((k, b) :: F)) = .fr k b (packs F) := by
  obtain ⟨h1, h2, h3⟩ := h (k, b) (by simp)
  rw [packs_cons]
  exact un_frm k b (packs F) (chk_ok h1 h2 h3) h3
/-- What is eaten of a beginning of frames' bytes are the first of these frames. -/
theorem eats_packs {A R l : List UInt8} {fs F : List (UInt8 × List UInt8)} (hg : Good F) (h : Eats A fs l) (hA : A ++ R = packs F) : ∃ F2, F = fs ++ F2 ∧ l ++ R = packs F2 := by
  induction h with
  | nil => exact ⟨F, rfl, hA⟩
  | @snoc fs l r b k h hu ih =>
    obtain ⟨F2, rfl, hl⟩ := ih
    match F2, hl, hg with
    | [], hl, _ =>
      have : l = [] := by
        have := congrArg List.length hl
        simp [packs_nil] at this
        exact this.1
      subst this
      cases hu
    | (k', b') :: F3, hl, hg =>
      have h1 := un_more (R := R) hu
      rw [hl, un_packs (fun x hx => hg x (List.mem_append_right _ hx))] at h1
      injection h1 with h2 h3 h4
      subst h2 h3
      exact ⟨F3, by simp, h4.symm⟩
unseal num2 in
/-- A beginning of frames' bytes of which no frame can be eaten waits for more. -/
theorem wait_packs {l R : List UInt8} {F : List (UInt8 × List UInt8)} {c : Nat} (hg : Good F) (hl : l ++ R = packs F) (hu : un l = .no c) : c = 2 := by
  match F, hl, hg with
  | [], hl, _ =>
    have : l = [] := by
      have := congrArg List.length hl
      simp [packs_nil] at this
      exact this.1
    subst this
    cases hu
    rfl
  | (k, b) :: F, hl, hg =>
    obtain ⟨h1, h2, h3⟩ := hg (k, b) (by simp)
    match l, hu with
    | [], hu => cases hu; rfl
    | [_], hu => cases hu; rfl
    | [_, _], hu => cases hu; rfl
    | k' :: x :: y :: t, hu =>
      have e : (k' :: x :: y :: t) ++ R = k :: UInt8.ofNat (b.length / 256) :: UInt8.ofNat b.length :: (b ++ packs F) := by rw [hl, packs_cons]; rfl
      have e1 : k' = k := by injection e
      have e2 : x = UInt8.ofNat (b.length / 256) := by injection e with _ e; injection e
      have e3 : y = UInt8.ofNat b.length := by injection e with _ e; injection e with _ e; injection e
      have en : num2 x y = b.length := by
        rw [e2, e3]
        have h3' : b.length ≤ 2048 := h3
        unfold num2; rw [UInt8.toNat_ofNat', UInt8.toNat_ofNat']; omega
      have hc : chk k' (num2 x y) = 0 := by rw [e1, en]; exact chk_ok h1 h2 h3
      by_cases hn : t.length < num2 x y
      · rw [un_part hc hn] at hu; cases hu; rfl
      · rw [un_fr hc (by omega)] at hu; cases hu
theorem end_packs {l : List UInt8} {F : List (UInt8 × List UInt8)} {c : Nat} (hg : Good F) (hl : l = packs F) (hu : un l = .no c) : F = [] := by
  match F, hl, hg with
  | [], _, _ => rfl
  | (k, b) :: F, hl, hg => rw [hl, un_packs hg] at hu; cases hu
end Go.Proofs.Ytgldfobfchnkeaa
