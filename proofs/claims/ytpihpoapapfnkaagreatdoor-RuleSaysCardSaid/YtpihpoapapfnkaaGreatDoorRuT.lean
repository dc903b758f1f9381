/- rule's texts as lists: lines, policies, and back. Nothing of the program is imported. -/
import Derived.Test.YtpihpoapapfnkaaGreatDoorRuP
namespace Go.Proofs.YtpihpoapapfnkaaGreatDoor
open Go
def plC (b : UInt8) : Bool := (decide (97 ≤ b.toNat) && decide (b.toNat ≤ 122)) || (decide (48 ≤ b.toNat) && decide (b.toNat ≤ 57)) || b.toNat == 45 || b.toNat == 95
/-- A word: a plain name, or a star. -/
def wordB (s : List UInt8) : Bool := s == [42] || (s.all plC && decide (1 ≤ s.length) && decide (s.length ≤ 32))
/-- The signs of a pattern. -/
def rhS : List UInt8 := [97, 98, 99, 100, 101, 102, 103, 104, 105, 106, 107, 108, 109, 110, 111, 112, 113, 114, 115, 116, 117, 118, 119, 120, 121, 122, 48, 49, 50, 51, 52, 53, 54, 55, 56, 57, 46, 45, 95, 42]
def patB (s : List UInt8) : Bool := !s.isEmpty && decide (s.length ≤ 32) && s.all (rhS.contains ·)
def validB (r : RuL) : Bool := wordB r.role && wordB r.ten && patB r.host && decide (1 ≤ r.frm) && decide (r.frm ≤ r.til) && decide (r.til ≤ 65535)
/-- As parsePorts goes. -/
def portsP (w : List UInt8) : Int × Int :=
  if w = [42] then (1, 65535)
  else ((decP (Lib.cut w [45]).1 1 65535).1, (decP (if (Lib.cut w [45]).2.2 = true then (Lib.cut w [45]).2.1 else (Lib.cut w [45]).1) 1 65535).1)
def allowS : List UInt8 := [97, 108, 108, 111, 119]
def denyS : List UInt8 := [100, 101, 110, 121]
/-- As parseRule goes. -/
def lineP (line : List UInt8) : RuL × Bool :=
  match spl 32 line with
  | [v, a, b, c, d] => if v = allowS ∨ v = denyS then (⟨v == allowS, a, b, c, (portsP d).1, (portsP d).2⟩, validB ⟨v == allowS, a, b, c, (portsP d).1, (portsP d).2⟩) else (⟨false, [], [], [], 0, 0⟩, false)
  | _ => (⟨false, [], [], [], 0, 0⟩, false)
def skipB (l : List UInt8) : Bool := l == [] || Lib.hasPrefix l [35]
/-- As Parse goes through the lines: the rules, and which line is none (0: each is one). -/
def scanA : List RuL → Nat → List (List UInt8) → List RuL × Nat
  | acc, _, [] => (acc, 0)
  | acc, i, l :: ls => if skipB l = true then scanA acc (i + 1) ls else if (lineP l).2 = true then scanA (acc ++ [(lineP l).1]) (i + 1) ls else (acc, i + 1)
/-- A policy's rules, the line that is none, and the error. -/
def parseP (s : List UInt8) : List RuL × Nat × Int :=
  if 4096 < s.length then ([], 0, 3)
  else if 0 < (scanA [] 0 (spl 10 s)).2 then ([], (scanA [] 0 (spl 10 s)).2, 4)
  else if 32 < (scanA [] 0 (spl 10 s)).1.length then ([], 0, 8)
  else ((scanA [] 0 (spl 10 s)).1, 0, 0)
theorem scanA_empty : ∀ (acc : List RuL) (i : Nat) (ls : List (List UInt8)), scanA acc i (ls ++ [[]]) = scanA acc i ls
  | acc, i, [] => rfl
  | acc, i, l :: ls => by
    rw [List.cons_append, scanA, scanA, scanA_empty, scanA_empty]
theorem scanA_valid : ∀ (acc : List RuL) (i : Nat) (ls : List (List UInt8)), (∀ r ∈ acc, validB r = true) → ∀ r ∈ (scanA acc i ls).1, validB r = true
  | acc, _, [], h => h
  | acc, i, l :: ls, h => by
    rw [scanA]
    split
    · exact scanA_valid acc (i + 1) ls h
    · split
      · rename_i h2
        refine scanA_valid _ (i + 1) ls (fun r hr => ?_)
        rcases List.mem_append.1 hr with hr | hr
        · exact h r hr
        · rw [List.mem_singleton.1 hr]
          unfold lineP at h2 ⊢
          split at h2
          · split at h2
            · rename_i h3
              rw [if_pos h3]
              exact h2
            · cases h2
          · cases h2
      · exact h
theorem scanA_len : ∀ (acc : List RuL) (i : Nat) (ls : List (List UInt8)), (scanA acc i ls).1.length ≤ acc.length + ls.length
  | acc, _, [] => by simp [scanA]
  | acc, i, l :: ls => by
    rw [scanA]
    split
    · have := scanA_len acc (i + 1) ls
      simp only [List.length_cons]; omega
    · split
      · have := scanA_len (acc ++ [(lineP l).1]) (i + 1) ls
        simp only [List.length_append, List.length_cons, List.length_nil] at this ⊢; omega
      · simp only [List.length_cons]; omega
/-- A rule's ports. -/
def portsL (f t : Int) : List UInt8 := if f = 1 ∧ t = 65535 then [42] else if f = t then Lib.itoa f else Lib.itoa f ++ [45] ++ Lib.itoa t
def verbL (a : Bool) : List UInt8 := if a = true then allowS else denyS
/-- A rule's line. -/
def lineL (r : RuL) : List UInt8 := verbL r.allow ++ 32 :: (r.role ++ 32 :: (r.ten ++ 32 :: (r.host ++ 32 :: portsL r.frm r.til)))
/-- A policy's text. -/
def textL : List RuL → List UInt8
  | [] => []
  | r :: l => lineL r ++ 10 :: textL l
theorem textL_app (a b : List RuL) : textL (a ++ b) = textL a ++ textL b := by
  induction a with
  | nil => rfl
  | cons r a ih => rw [List.cons_append, textL, textL, ih]; simp
theorem port_facts {v : Int} (h1 : 1 ≤ v) (h2 : v ≤ 65535) : (Lib.itoa v).all isD = true ∧ (Lib.itoa v).length ≤ 5 ∧ decP (Lib.itoa v) 1 65535 = (v, true) := by
  obtain ⟨u, rfl⟩ : ∃ u : Nat, v = u := ⟨v.toNat, by omega⟩
  rw [Lib.itoa_nonneg]
  obtain ⟨f1, f2, f3, f4⟩ := digits_facts u
  have hl : (Lib.decDigits u).length ≤ 5 := by rw [Lib.decDigits_length]; exact nDigits_le u 4 (by omega)
  refine ⟨f1, hl, ?_⟩
  have := decP_port (Lib.decDigits u) 4 65535 (by decide) (by decide)
  rw [show ((65535 : Nat) : Int) = 65535 from rfl] at this
  rw [this]
  unfold portP
  rw [if_pos ⟨List.length_pos_iff.2 f3, by omega, f4 (by omega), f1, by omega⟩, f2]
theorem isD_not {l : List UInt8} (h : l.all isD = true) {c : UInt8} (hc : isD c = false) : c ∉ l := fun hm => by
  rw [List.all_eq_true] at h
  rw [h c hm] at hc; cases hc
theorem itoa_ne {v : Int} (h1 : 1 ≤ v) : Lib.itoa v ≠ [] := by
  obtain ⟨u, rfl⟩ : ∃ u : Nat, v = u := ⟨v.toNat, by omega⟩
  rw [Lib.itoa_nonneg]; exact (digits_facts u).2.2.1
theorem portsL_back {f t : Int} (h1 : 1 ≤ f) (h2 : f ≤ t) (h3 : t ≤ 65535) : portsP (portsL f t) = (f, t) ∧ (32 : UInt8) ∉ portsL f t ∧ (10 : UInt8) ∉ portsL f t ∧ (portsL f t).length ≤ 11 := by
  obtain ⟨a1, a2, a3⟩ := port_facts h1 (by omega : f ≤ 65535)
  obtain ⟨b1, b2, b3⟩ := port_facts (by omega : 1 ≤ t) h3
  unfold portsL
  by_cases h : f = 1 ∧ t = 65535
  · obtain ⟨rfl, rfl⟩ := h
    rw [if_pos ⟨rfl, rfl⟩]
    exact ⟨rfl, by decide, by decide, by decide⟩
  · rw [if_neg h]
    by_cases he : f = t
    · subst he
      rw [if_pos rfl]
      refine ⟨?_, isD_not a1 (by decide), isD_not a1 (by decide), by omega⟩
      unfold portsP
      rw [if_neg (fun e => by rw [e] at a1; exact absurd a1 (by decide))]
      rcases cut1 45 (Lib.itoa f) with ⟨_, e⟩ | ⟨x, y, e, _, _⟩
      · rw [e]
        simp [a3]
      · exact absurd (by rw [e]; simp) (isD_not a1 (c := 45) (by decide))
    · rw [if_neg he]
      refine ⟨?_, ?_, ?_, by simp; omega⟩
      · unfold portsP
        rw [if_neg (fun e => by
          have hm : (45 : UInt8) ∈ Lib.itoa f ++ [45] ++ Lib.itoa t := by simp
          rw [e] at hm
          simp at hm)]
        rw [show Lib.itoa f ++ [45] ++ Lib.itoa t = Lib.itoa f ++ 45 :: Lib.itoa t by simp]
        rcases cut1 45 (Lib.itoa f ++ 45 :: Lib.itoa t) with ⟨e, _⟩ | ⟨x, y, e, e2, e3⟩
        · exact absurd (by simp) e
        · have hs := congrArg (spl 45) e
          rw [spl_at _ _ (isD_not a1 (by decide)), spl_at _ _ e2] at hs
          have hx : Lib.itoa f = x := by injection hs
          subst hx
          have hy : Lib.itoa t = y := by
            have := List.append_cancel_left e
            injection this
          subst hy
          rw [e3]
          simp [a3, b3]
      · intro hm
        simp only [List.mem_append, List.mem_singleton] at hm
        rcases hm with (hm | hm) | hm
        · exact isD_not a1 (by decide) hm
        · cases hm
        · exact isD_not b1 (by decide) hm
      · intro hm
        simp only [List.mem_append, List.mem_singleton] at hm
        rcases hm with (hm | hm) | hm
        · exact isD_not a1 (by decide) hm
        · cases hm
        · exact isD_not b1 (by decide) hm
theorem wordB_not {s : List UInt8} (h : wordB s = true) {c : UInt8} (hc : plC c = false) (hc2 : c ≠ 42) : c ∉ s ∧ s.length ≤ 32 := by
  unfold wordB at h
  simp only [Bool.or_eq_true, beq_iff_eq, Bool.and_eq_true, decide_eq_true_eq] at h
  rcases h with rfl | ⟨⟨h, _⟩, h3⟩
  · exact ⟨by simp [hc2], by decide⟩
  · refine ⟨fun hm => ?_, h3⟩
    rw [List.all_eq_true] at h
    rw [h c hm] at hc; cases hc
theorem patB_not {s : List UInt8} (h : patB s = true) {c : UInt8} (hc : rhS.contains c = false) : c ∉ s ∧ s.length ≤ 32 := by
  unfold patB at h
  simp only [Bool.and_eq_true, decide_eq_true_eq] at h
  refine ⟨fun hm => ?_, h.1.2⟩
  have := List.all_eq_true.1 h.2 c hm
  rw [hc] at this; cases this
theorem verb_not (a : Bool) : (32 : UInt8) ∉ verbL a ∧ (10 : UInt8) ∉ verbL a ∧ (verbL a = allowS ∨ verbL a = denyS) ∧ ((verbL a == allowS) = a) ∧ (verbL a).length ≤ 5 := by cases a <;> decide
/-- A valid rule is read again of its line, which has no line's end, is not empty, and no comment. -/
theorem lineL_back {r : RuL} (h : validB r = true) : lineP (lineL r) = (r, true) ∧ (10 : UInt8) ∉ lineL r ∧ skipB (lineL r) = false ∧ (lineL r).length ≤ 116 := by
  have hv := h
  unfold validB at h
  simp only [Bool.and_eq_true, decide_eq_true_eq] at h
  obtain ⟨⟨⟨⟨⟨h1, h2⟩, h3⟩, h4⟩, h5⟩, h6⟩ := h
  obtain ⟨v1, v2, v3, v4, v5⟩ := verb_not r.allow
  obtain ⟨a1, al⟩ := wordB_not h1 (c := 32) (by decide) (by decide)
  obtain ⟨a2, _⟩ := wordB_not h1 (c := 10) (by decide) (by decide)
  obtain ⟨b1, bl⟩ := wordB_not h2 (c := 32) (by decide) (by decide)
  obtain ⟨b2, _⟩ := wordB_not h2 (c := 10) (by decide) (by decide)
  obtain ⟨c1, cl⟩ := patB_not h3 (c := 32) (by decide)
  obtain ⟨c2, _⟩ := patB_not h3 (c := 10) (by decide)
  obtain ⟨d1, d2, d3, dl⟩ := portsL_back h4 h5 h6
  refine ⟨?_, ?_, ?_, ?_⟩
  · have hs : spl 32 (lineL r) = [verbL r.allow, r.role, r.ten, r.host, portsL r.frm r.til] := by
      unfold lineL
      rw [spl_at _ _ v1, spl_at _ _ a1, spl_at _ _ b1, spl_at _ _ c1, spl_none _ d2]
    unfold lineP
    rw [hs]
    simp only []
    rw [if_pos v3, d1, v4]
    have : (⟨r.allow, r.role, r.ten, r.host, (r.frm, r.til).1, (r.frm, r.til).2⟩ : RuL) = r := rfl
    rw [this, hv]
  · unfold lineL
    simp only [List.mem_append, List.mem_cons, not_or]
    exact ⟨v2, by decide, a2, by decide, b2, by decide, c2, by decide, d3⟩
  · unfold lineL
    cases r.allow <;> rfl
  · unfold lineL
    simp only [List.length_append, List.length_cons]
    omega
theorem spl_text : ∀ (l : List RuL), (∀ r ∈ l, validB r = true) → spl 10 (textL l) = l.map lineL ++ [[]]
  | [], _ => rfl
  | r :: l, h => by
    rw [textL, spl_at _ _ (lineL_back (h r (by simp))).2.1, spl_text l (fun x hx => h x (by simp [hx]))]; rfl
theorem scanA_lines : ∀ (l acc : List RuL) (i : Nat), (∀ r ∈ l, validB r = true) → scanA acc i (l.map lineL) = (acc ++ l, 0)
  | [], acc, i, _ => by simp [scanA]
  | r :: l, acc, i, h => by
    obtain ⟨e1, _, e3, _⟩ := lineL_back (h r (by simp))
    rw [List.map_cons, scanA, e3, if_neg (by simp), e1, if_pos rfl, scanA_lines l _ _ (fun x hx => h x (by simp [hx]))]
    simp
theorem textL_len : ∀ (l : List RuL), (∀ r ∈ l, validB r = true) → (textL l).length ≤ 117 * l.length
  | [], _ => by simp [textL]
  | r :: l, h => by
    have h1 := (lineL_back (h r (by simp))).2.2.2
    have h2 := textL_len l (fun x hx => h x (by simp [hx]))
    rw [textL]; simp only [List.length_append, List.length_cons]; omega
/-- A policy is read again of its text. -/
theorem parseP_text {l : List RuL} (h : ∀ r ∈ l, validB r = true) (hl : l.length ≤ 32) : parseP (textL l) = (l, 0, 0) := by
  have h1 := textL_len l h
  have hs : scanA [] 0 (spl 10 (textL l)) = (l, 0) := by rw [spl_text l h, scanA_empty, scanA_lines l [] 0 h]; simp
  unfold parseP
  rw [if_neg (by omega), hs]
  simp only []
  rw [if_neg (by simp), if_neg (by omega)]
end Go.Proofs.YtpihpoapapfnkaaGreatDoor
