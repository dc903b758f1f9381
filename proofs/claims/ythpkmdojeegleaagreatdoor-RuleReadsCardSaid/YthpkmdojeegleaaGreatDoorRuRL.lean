/- The reference's Lines and Line. -/
import Derived.Test.YthpkmdojeegleaaGreatDoorRuSR
import Derived.Test.YthpkmdojeegleaaGreatDoorRuPt
import Derived.Test.YthpkmdojeegleaaGreatDoorRuTx
import Derived.Test.YthpkmdojeegleaaGreatDoorRuPr
set_option maxRecDepth 100000
namespace Go.Proofs.YthpkmdojeegleaaGreatDoor
open Go.RowKit Go.Shelf
attribute [local go_sem] Oper.semAt_some
theorem portN_dec (s : List UInt8) : portN s = (decP s 1 65535).1 := by
  unfold portN
  rw [show (65535 : Int) = ((65535 : Nat) : Int) from rfl, decP_port s 4 65535 (by omega) (by decide)]
/-- The pieces of a word at its dashes, against the one cut. -/
theorem spl_cut (c : UInt8) (s : List UInt8) :
    ((Lib.cut s [c]).2.2 = false ∧ spl c s = [s] ∧ (Lib.cut s [c]).1 = s) ∨
    ((Lib.cut s [c]).2.2 = true ∧ spl c s = (Lib.cut s [c]).1 :: spl c (Lib.cut s [c]).2.1) := by
  rcases cut1 c s with ⟨h1, h2⟩ | ⟨a, b, rfl, h1, h2⟩
  · left
    rw [h2]
    exact ⟨rfl, spl_none s h1, rfl⟩
  · right
    rw [h2]
    exact ⟨rfl, spl_at b a h1⟩
/-- What the reference makes of a line. -/
def lineR (l : List UInt8) : RuL × Bool :=
  match spl 32 l with
  | [v, a, b, c, d] => if v = allowS ∨ v = denyS then
      (if d = [42] then (⟨v == allowS, a, b, c, 1, 65535⟩, validB ⟨v == allowS, a, b, c, 1, 65535⟩)
      else if 2 < (spl 45 d).length then (⟨false, [], [], [], 0, 0⟩, false)
      else (⟨v == allowS, a, b, c, portN ((spl 45 d).getD 0 []), portN ((spl 45 d).getD ((spl 45 d).length - 1) [])⟩, validB ⟨v == allowS, a, b, c, portN ((spl 45 d).getD 0 []), portN ((spl 45 d).getD ((spl 45 d).length - 1) [])⟩)) else (⟨false, [], [], [], 0, 0⟩, false)
  | _ => (⟨false, [], [], [], 0, 0⟩, false)
theorem not_dec {s : List UInt8} (h : (45 : UInt8) ∈ s) : (decP s 1 65535).1 = 0 := by
  rw [← portN_dec]
  refine portN_bad (fun ⟨_, _, _, h4, _⟩ => ?_)
  have := List.all_eq_true.1 h4 45 h
  revert this; decide
theorem valid_zero {a : Bool} {r t h : List UInt8} {f : Int} : validB ⟨a, r, t, h, f, 0⟩ = false := by
  by_cases h1 : validB ⟨a, r, t, h, f, 0⟩ = true
  · obtain ⟨_, _, _, b1, b2, _⟩ := valid_parts h1
    simp only at b1 b2
    omega
  · simpa using h1
theorem lineR_five {l v a b c d : List UInt8} (h : spl 32 l = [v, a, b, c, d]) : lineR l = if v = allowS ∨ v = denyS then
      (if d = [42] then (⟨v == allowS, a, b, c, 1, 65535⟩, validB ⟨v == allowS, a, b, c, 1, 65535⟩)
      else if 2 < (spl 45 d).length then (⟨false, [], [], [], 0, 0⟩, false)
      else (⟨v == allowS, a, b, c, portN ((spl 45 d).getD 0 []), portN ((spl 45 d).getD ((spl 45 d).length - 1) [])⟩, validB ⟨v == allowS, a, b, c, portN ((spl 45 d).getD 0 []), portN ((spl 45 d).getD ((spl 45 d).length - 1) [])⟩)) else (⟨false, [], [], [], 0, 0⟩, false) := by
  unfold lineR; rw [h]
theorem lineR_len {l : List UInt8} (h : (spl 32 l).length ≠ 5) : lineR l = (⟨false, [], [], [], 0, 0⟩, false) := by
  unfold lineR
  split
  · rename_i hs; rw [hs] at h; simp at h
  · rfl
theorem lineR_P (l : List UInt8) : (lineR l).2 = (lineP l).2 ∧ ((lineR l).2 = true → (lineR l).1 = (lineP l).1) := by
  by_cases h5 : (spl 32 l).length = 5
  · obtain ⟨v, a, b, c, d, hw⟩ : ∃ v a b c d, spl 32 l = [v, a, b, c, d] := by
      match spl 32 l, h5 with
      | [v, a, b, c, d], _ => exact ⟨v, a, b, c, d, rfl⟩
    rw [lineR_five hw, lineP_five hw]
    by_cases hv : v = allowS ∨ v = denyS
    · rw [if_pos hv, if_pos hv]
      by_cases hd : d = [42]
      · have hp : portsP d = (1, 65535) := by unfold portsP; rw [if_pos hd]
        rw [if_pos hd, hp]; exact ⟨rfl, fun _ => rfl⟩
      · have hp : portsP d = ((decP (Lib.cut d [45]).1 1 65535).1, (decP (if (Lib.cut d [45]).2.2 = true then (Lib.cut d [45]).2.1 else (Lib.cut d [45]).1) 1 65535).1) := by unfold portsP; rw [if_neg hd]
        rw [if_neg hd, hp]
        rcases spl_cut 45 d with ⟨e1, e2, e3⟩ | ⟨e1, e2⟩
        · rw [e1, e2, e3, if_neg (by simp), if_neg (by simp)]
          simp only [List.length_singleton, portN_dec]
          exact ⟨rfl, fun _ => rfl⟩
        · rcases spl_cut 45 (Lib.cut d [45]).2.1 with ⟨f1, f2, f3⟩ | ⟨f1, f2⟩
          · rw [e1, e2, f2, if_neg (by simp), if_pos rfl]
            simp only [List.length_cons, List.length_nil, portN_dec]
            exact ⟨rfl, fun _ => rfl⟩
          · have hm : (45 : UInt8) ∈ (Lib.cut d [45]).2.1 := by
              rcases cut1 45 (Lib.cut d [45]).2.1 with ⟨g1, g2⟩ | ⟨x, y, g1, _, _⟩
              · rw [g2] at f1; cases f1
              · rw [g1]; simp
            have hl : 2 < (spl 45 d).length := by
              rw [e2, f2]
              have := List.length_pos_iff.2 (spl_ne 45 (Lib.cut (Lib.cut d [45]).2.1 [45]).2.1)
              simp only [List.length_cons]
              omega
            rw [if_pos hl, if_pos e1, not_dec hm]
            exact ⟨valid_zero.symm, fun h => by cases h⟩
    · rw [if_neg hv, if_neg hv]; exact ⟨rfl, fun h => by cases h⟩
  · rw [lineR_len h5, lineP_len h5]
    exact ⟨rfl, fun h => by cases h⟩
/-- The reference's lines. -/
def linesR (s : List UInt8) : List (List UInt8) := if (spl 10 s).getLast (spl_ne 10 s) = [] then (spl 10 s).dropLast else spl 10 s
theorem scan_lines (s : List UInt8) : scanA [] 0 (linesR s) = scanA [] 0 (spl 10 s) := by
  unfold linesR
  split
  · rename_i h
    rw [← scanA_empty [] 0 (spl 10 s).dropLast, ← h, List.dropLast_concat_getLast]
  · rfl
end Go.Proofs.YthpkmdojeegleaaGreatDoor
