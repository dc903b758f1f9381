/- head's texts as lists: lines, and texts of signs of a set. Nothing of the program is imported. -/
import Derived.Lib.IndexMore
import Derived.Lib.SlTrimSet
import Derived.Lib.IndexAny
namespace Go.Proofs.YtajclihnoedecaaGreatDoor
open Go
theorem dropWhile_all {α : Type} (p : α → Bool) : ∀ l : List α, l.dropWhile p = [] ↔ l.all p = true
  | [] => by simp
  | a :: l => by
    rw [List.dropWhile_cons]
    cases h : p a with
    | true => simpa [h] using dropWhile_all p l
    | false => simp [h]
theorem all_dropWhile {α : Type} (p : α → Bool) (l : List α) : (l.dropWhile p).all p = l.all p := by
  induction l with
  | nil => rfl
  | cons a l ih =>
    rw [List.dropWhile_cons]
    cases h : p a with
    | true => simp [h, ih]
    | false => simp [h]
/-- What is struck whole is of the set's signs alone. -/
theorem trimS_nil (l cs : List UInt8) : Lib.trimS l cs = [] ↔ l.all (cs.contains ·) = true := by
  unfold Lib.trimS Lib.trimLeftS Lib.trimRightS
  rw [dropWhile_all, List.all_reverse, all_dropWhile, List.all_reverse]
theorem hix_hit {s sub : List UInt8} (h : sub.isPrefixOf s = true) : Lib.index s sub = 0 := by
  cases s with
  | nil =>
    cases sub with
    | nil => rfl
    | cons => simp at h
  | cons b t => unfold Lib.index; rw [if_pos h]
theorem hix_miss {b : UInt8} {t sub : List UInt8} (h : sub.isPrefixOf (b :: t) = false) : Lib.index (b :: t) sub = if Lib.index t sub == -1 then -1 else Lib.index t sub + 1 := by
  conv => lhs; unfold Lib.index
  rw [if_neg (by simp [h])]
theorem crlf_prefix (c : UInt8) (t : List UInt8) : ([13, 10] : List UInt8).isPrefixOf (c :: t) = (decide (c = 13 ∧ t.head? = some 10)) := by
  cases t with
  | nil => simp [List.isPrefixOf]
  | cons d t =>
    rw [Bool.eq_iff_iff]
    simp only [List.isPrefixOf, Bool.and_true, Bool.and_eq_true, beq_iff_eq, decide_eq_true_eq, List.head?_cons, Option.some.injEq]
    constructor
    · rintro ⟨rfl, rfl⟩; exact ⟨rfl, rfl⟩
    · rintro ⟨rfl, rfl⟩; exact ⟨rfl, rfl⟩
/-- Lines as one goes through the bytes: what is gathered of a line, and what stands behind it. -/
def rl (cur : List UInt8) : List UInt8 → List (List UInt8 × Bool)
  | [] => if cur = [] then [] else [(cur, false)]
  | c :: t => if c = 13 ∧ t.head? = some 10 then (cur, true) :: rl [] t.tail else rl (cur ++ [c]) t
termination_by l => l.length
decreasing_by all_goals (simp; try omega)
/-- Lines as they are cut. -/
def lnF : Nat → List UInt8 → List (List UInt8 × Bool)
  | 0, _ => []
  | f + 1, l => if l = [] then [] else ((Lib.cut l [13, 10]).1, (Lib.cut l [13, 10]).2.2) :: lnF f (Lib.cut l [13, 10]).2.1
def linesL (l : List UInt8) : List (List UInt8 × Bool) := lnF l.length l
theorem rl_index : ∀ (n : Nat) (l cur : List UInt8), l.length = n → rl cur l = if Lib.index l [13, 10] = -1 then (if cur ++ l = [] then [] else [(cur ++ l, false)]) else (cur ++ l.take (Lib.index l [13, 10]).toNat, true) :: rl [] (l.drop ((Lib.index l [13, 10]).toNat + 2)) := by
  intro n
  induction n using Nat.strongRecOn with
  | _ n ih =>
    intro l cur hl
    cases l with
    | nil =>
      rw [rl, if_pos (show Lib.index [] [13, 10] = -1 from rfl), List.append_nil]
    | cons c t =>
      have hp := crlf_prefix c t
      rw [rl]
      by_cases h : c = 13 ∧ t.head? = some 10
      · rw [if_pos h]
        rw [decide_eq_true h] at hp
        rw [hix_hit hp, if_neg (by decide)]
        simp
      · rw [if_neg h]
        rw [decide_eq_false h] at hp
        rw [ih t.length (by simp at hl; omega) t (cur ++ [c]) rfl, hix_miss hp]
        have hge := Lib.index_ge t [13, 10]
        by_cases hm : Lib.index t [13, 10] = -1
        · have hb : ((Lib.index t [13, 10] == -1) = true) := by rw [hm]; rfl
          rw [hb, if_pos hm]
          simp
        · obtain ⟨i, hi⟩ : ∃ i : Nat, Lib.index t [13, 10] = i := ⟨(Lib.index t [13, 10]).toNat, by omega⟩
          have hb : ((Lib.index t [13, 10] == -1) = false) := by rw [beq_eq_false_iff_ne]; exact hm
          rw [if_neg hm, hb]
          rw [hi]
          have : ((i : Int) + 1) ≠ -1 := by omega
          have e : ((i : Int) + 1).toNat = i + 1 := by omega
          simp [this, e]
theorem lnF_rl : ∀ (n f : Nat) (l : List UInt8), l.length = n → n ≤ f → lnF f l = rl [] l := by
  intro n
  induction n using Nat.strongRecOn with
  | _ n ih =>
    intro f l hl hf
    by_cases h0 : l = []
    · subst h0
      cases f <;> simp [lnF, rl]
    · have h1 : 0 < l.length := List.length_pos_iff.2 h0
      obtain ⟨g, rfl⟩ : ∃ g, f = g + 1 := ⟨f - 1, by omega⟩
      rw [lnF, if_neg h0, rl_index l.length l [] rfl]
      have hge := Lib.index_ge l [13, 10]
      by_cases hm : Lib.index l [13, 10] = -1
      · rw [if_pos hm, List.nil_append, if_neg h0]
        have hc : Lib.cut l [13, 10] = (l, [], false) := by unfold Lib.cut; rw [if_neg (by rw [hm]; decide)]
        rw [hc]
        cases g <;> simp [lnF]
      · have hc : Lib.cut l [13, 10] = (l.take (Lib.index l [13, 10]).toNat, l.drop ((Lib.index l [13, 10]).toNat + 2), true) := by
          unfold Lib.cut; rw [if_pos (by omega)]; rfl
        rw [if_neg hm, hc, List.nil_append]
        show _ :: lnF g (l.drop _) = _
        rw [ih (l.drop ((Lib.index l [13, 10]).toNat + 2)).length (by simp; omega) g _ rfl (by simp; omega)]
theorem linesL_rl (l : List UInt8) : linesL l = rl [] l := lnF_rl l.length l.length l rfl (Nat.le_refl _)
end Go.Proofs.YtajclihnoedecaaGreatDoor
