/- rule: what a pattern with stars fits, as lists: by its definition, piece by piece from the left, and by rows of places. Nothing of the program is imported. Texts parted at a byte, as lists. Nothing of the program is imported. rule as lists: words, patterns, what holds, what covers. Nothing of the program is imported. rule's texts as lists: lines, policies, and back. Nothing of the program is imported. -/
import Derived.Lib.IndexMore
import Derived.Lib.Strings
import Derived.Lib.Split
import Derived.Test.YthpkmdojeegleaaGreatDoorDecL
namespace Go.Proofs.YthpkmdojeegleaaGreatDoor
open Go
/-- Does a text fit a pattern? A star (42) stands for any bytes. -/
def G : List UInt8 → List UInt8 → Prop
  | [], h => h = []
  | c :: p, h => if c = 42 then ∃ u v, h = u ++ v ∧ G p v else ∃ v, h = c :: v ∧ G p v
theorem G_star (p h : List UInt8) : G (42 :: p) h ↔ ∃ u v, h = u ++ v ∧ G p v := by rw [G, if_pos rfl]
theorem G_sign {c : UInt8} (hc : c ≠ 42) (p h : List UInt8) : G (c :: p) h ↔ ∃ v, h = c :: v ∧ G p v := by rw [G, if_neg hc]
theorem G_app : ∀ (p q h : List UInt8), G (p ++ q) h ↔ ∃ u v, h = u ++ v ∧ G p u ∧ G q v
  | [], q, h => by
    constructor
    · intro g; exact ⟨[], h, rfl, rfl, g⟩
    · rintro ⟨u, v, rfl, e, g⟩; obtain rfl : u = [] := e; exact g
  | c :: p, q, h => by
    rw [List.cons_append]
    by_cases hc : c = 42
    · subst hc
      rw [G_star]
      constructor
      · rintro ⟨u, v, rfl, g⟩
        obtain ⟨a, b, rfl, g1, g2⟩ := (G_app p q v).1 g
        exact ⟨u ++ a, b, by simp, (G_star _ _).2 ⟨u, a, rfl, g1⟩, g2⟩
      · rintro ⟨u, v, rfl, g1, g2⟩
        obtain ⟨a, b, rfl, g3⟩ := (G_star _ _).1 g1
        exact ⟨a, b ++ v, by simp, (G_app p q _).2 ⟨b, v, rfl, g3, g2⟩⟩
    · rw [G_sign hc]
      constructor
      · rintro ⟨v, rfl, g⟩
        obtain ⟨a, b, rfl, g1, g2⟩ := (G_app p q v).1 g
        exact ⟨c :: a, b, rfl, (G_sign hc _ _).2 ⟨a, rfl, g1⟩, g2⟩
      · rintro ⟨u, v, rfl, g1, g2⟩
        obtain ⟨a, rfl, g3⟩ := (G_sign hc _ _).1 g1
        exact ⟨a ++ v, rfl, (G_app p q _).2 ⟨a, v, rfl, g3, g2⟩⟩
/-- A pattern without stars is its text. -/
theorem G_lit : ∀ (p h : List UInt8), (42 : UInt8) ∉ p → (G p h ↔ h = p)
  | [], h, _ => Iff.rfl
  | c :: p, h, hp => by
    have hc : c ≠ 42 := fun e => hp (by simp [e])
    rw [G_sign hc]
    constructor
    · rintro ⟨v, rfl, g⟩; rw [(G_lit p v (fun h => hp (by simp [h]))).1 g]
    · rintro rfl; exact ⟨p, rfl, (G_lit p p (fun h => hp (by simp [h]))).2 rfl⟩
theorem G_any (h : List UInt8) : G [42] h := (G_star _ _).2 ⟨h, [], by simp, rfl⟩
/-- One star in front takes more. -/
theorem G_more {p v : List UInt8} (w : List UInt8) (g : G (42 :: p) v) : G (42 :: p) (w ++ v) := by
  obtain ⟨a, b, rfl, g3⟩ := (G_star _ _).1 g
  exact (G_star _ _).2 ⟨w ++ a, b, by simp, g3⟩
/-- The pieces between stars, joined. -/
def starJoin : List (List UInt8) → List UInt8
  | [] => []
  | [p] => p
  | p :: q :: ps => p ++ 42 :: starJoin (q :: ps)
/-- Behind a star: each piece is taken where it comes first, the last one at the end. -/
def greedy : List (List UInt8) → List UInt8 → Bool
  | [], h => h.isEmpty
  | [p], h => Lib.hasSuffix h p
  | p :: q :: ps, h => (Lib.cut h p).2.2 && greedy (q :: ps) (Lib.cut h p).2.1
theorem suf_iff (h p : List UInt8) : Lib.hasSuffix h p = true ↔ ∃ u, h = u ++ p := by
  unfold Lib.hasSuffix
  rw [List.isSuffixOf_iff_suffix]
  constructor
  · rintro ⟨u, e⟩; exact ⟨u, e.symm⟩
  · rintro ⟨u, e⟩; exact ⟨u, e.symm⟩
theorem pre_iff (h p : List UInt8) : Lib.hasPrefix h p = true ↔ ∃ u, h = p ++ u := by
  unfold Lib.hasPrefix
  rw [List.isPrefixOf_iff_prefix]
  constructor
  · rintro ⟨u, e⟩; exact ⟨u, e.symm⟩
  · rintro ⟨u, e⟩; exact ⟨u, e.symm⟩
theorem gix_hit {s sub : List UInt8} (h : sub.isPrefixOf s = true) : Lib.index s sub = 0 := by
  cases s with
  | nil =>
    cases sub with
    | nil => rfl
    | cons => simp at h
  | cons b t => unfold Lib.index; rw [if_pos h]
theorem gix_miss {b : UInt8} {t sub : List UInt8} (h : sub.isPrefixOf (b :: t) = false) : Lib.index (b :: t) sub = if Lib.index t sub == -1 then -1 else Lib.index t sub + 1 := by
  conv => lhs; unfold Lib.index
  rw [if_neg (by simp [h])]
/-- Where a piece occurs, it is found, and no later. -/
theorem ix_occurs : ∀ (u p v : List UInt8), 0 ≤ Lib.index (u ++ p ++ v) p ∧ Lib.index (u ++ p ++ v) p ≤ u.length
  | [], p, v => by
    rw [gix_hit (by rw [List.nil_append, List.isPrefixOf_iff_prefix]; exact ⟨v, rfl⟩)]
    exact ⟨Int.le_refl _, by simp⟩
  | b :: u, p, v => by
    by_cases h : p.isPrefixOf (b :: (u ++ p ++ v)) = true
    · rw [show b :: u ++ p ++ v = b :: (u ++ p ++ v) by simp, gix_hit h]
      exact ⟨Int.le_refl _, by omega⟩
    · have hf : p.isPrefixOf (b :: (u ++ p ++ v)) = false := Bool.eq_false_iff.2 h
      obtain ⟨a1, a2⟩ := ix_occurs u p v
      rw [show b :: u ++ p ++ v = b :: (u ++ p ++ v) by simp, gix_miss hf, if_neg (by rw [beq_iff_eq]; omega)]
      exact ⟨by omega, by rw [List.length_cons]; omega⟩
theorem ix_room {p : List UInt8} : ∀ {s : List UInt8} {i : Nat}, Lib.index s p = i → s = s.take i ++ p ++ s.drop (i + p.length)
  | [], i, h => by
    cases p with
    | nil =>
      have : i = 0 := by
        have : Lib.index [] ([] : List UInt8) = 0 := rfl
        rw [this] at h; omega
      subst this; rfl
    | cons c p =>
      have : Lib.index [] (c :: p) = -1 := rfl
      rw [this] at h; omega
  | b :: t, i, h => by
    by_cases hp : p.isPrefixOf (b :: t) = true
    · rw [gix_hit hp] at h
      obtain rfl : i = 0 := by omega
      obtain ⟨u, e⟩ := List.isPrefixOf_iff_prefix.1 hp
      rw [← e]; simp
    · have hf : p.isPrefixOf (b :: t) = false := Bool.eq_false_iff.2 hp
      rw [gix_miss hf] at h
      by_cases hm : Lib.index t p = -1
      · rw [hm, if_pos (by rfl)] at h; omega
      · rw [if_neg (by rw [beq_iff_eq]; exact hm)] at h
        obtain ⟨j, rfl⟩ : ∃ j, i = j + 1 := ⟨i - 1, by have := Lib.index_ge t p; omega⟩
        have ih := ix_room (p := p) (s := t) (i := j) (by omega)
        rw [show j + 1 + p.length = (j + p.length) + 1 by omega, List.take_succ_cons, List.drop_succ_cons, List.cons_append, List.cons_append, ← ih]
theorem cut_found {h p : List UInt8} (e : (Lib.cut h p).2.2 = true) : h = (Lib.cut h p).1 ++ p ++ (Lib.cut h p).2.1 := by
  unfold Lib.cut at e ⊢
  split
  · rename_i hc
    have hg := Lib.index_ge h p
    obtain ⟨i, hi⟩ : ∃ i : Nat, Lib.index h p = i := ⟨(Lib.index h p).toNat, by omega⟩
    have := ix_room hi
    simp only [hi, Int.toNat_natCast]
    exact this
  · rename_i hc
    rw [if_neg hc] at e
    cases e
/-- Piece by piece from the left finds just what fits. -/
theorem greedy_iff : ∀ (ps : List (List UInt8)) (h : List UInt8), ps ≠ [] → (∀ p ∈ ps, (42 : UInt8) ∉ p) → (greedy ps h = true ↔ G (42 :: starJoin ps) h)
  | [], _, h0, _ => absurd rfl h0
  | [p], h, _, hp => by
    rw [greedy, suf_iff, starJoin, G_star]
    constructor
    · rintro ⟨u, rfl⟩; exact ⟨u, p, rfl, (G_lit p p (hp p (by simp))).2 rfl⟩
    · rintro ⟨u, v, rfl, g⟩; exact ⟨u, by rw [(G_lit p v (hp p (by simp))).1 g]⟩
  | p :: q :: ps, h, _, hp => by
    have ih := greedy_iff (q :: ps)
    have hq : ∀ x ∈ q :: ps, (42 : UInt8) ∉ x := fun x hx => hp x (by simp at hx ⊢; exact .inr hx)
    rw [greedy, starJoin, Bool.and_eq_true, ih _ (by simp) hq, G_star]
    constructor
    · rintro ⟨e, g⟩
      have hc := cut_found e
      refine ⟨(Lib.cut h p).1, p ++ (Lib.cut h p).2.1, by rw [← List.append_assoc]; exact hc, (G_app _ _ _).2 ⟨p, _, rfl, (G_lit p p (hp p (by simp))).2 rfl, g⟩⟩
    · rintro ⟨u, v, rfl, g⟩
      obtain ⟨a, b, rfl, g1, g2⟩ := (G_app _ _ _).1 g
      rw [(G_lit p a (hp p (by simp))).1 g1]
      obtain ⟨a1, a2⟩ := ix_occurs u p b
      rw [List.append_assoc] at a1 a2
      obtain ⟨i, hi⟩ : ∃ i : Nat, Lib.index (u ++ (p ++ b)) p = i := ⟨(Lib.index (u ++ (p ++ b)) p).toNat, by omega⟩
      have e : Lib.cut (u ++ (p ++ b)) p = ((u ++ (p ++ b)).take i, (u ++ (p ++ b)).drop (i + p.length), true) := by
        unfold Lib.cut
        rw [hi]
        simp
      rw [e]
      refine ⟨rfl, ?_⟩
      have hi2 : i ≤ u.length := by omega
      have e2 : (u ++ (p ++ b)).drop (i + p.length) = ((u ++ p).drop (i + p.length)) ++ b := by
        rw [← List.append_assoc, List.drop_append_of_le_length (by simp; omega)]
      rw [e2]
      exact G_more _ g2
/-- A row of places behind a star. -/
def starF (f : Nat → Bool) : Nat → Bool
  | 0 => f 0
  | j + 1 => f (j + 1) || starF f j
/-- A row of places behind one sign more of the pattern. -/
def stepF (h : List UInt8) (f : Nat → Bool) (c : UInt8) : Nat → Bool := fun j =>
  if c = 42 then starF f j else decide (0 < j) && (f (j - 1) && h.getD (j - 1) 0 == c)
/-- The places where the pattern may have come to. -/
def rowF (h p : List UInt8) : Nat → Bool := p.foldl (stepF h) (fun j => j == 0)
def matchR (p h : List UInt8) : Bool := rowF h p h.length
theorem rowF_snoc (h p : List UInt8) (c : UInt8) : rowF h (p ++ [c]) = stepF h (rowF h p) c := by unfold rowF; rw [List.foldl_append]; rfl
theorem starF_iff (f : Nat → Bool) : ∀ j, starF f j = true ↔ ∃ k, k ≤ j ∧ f k = true
  | 0 => by
    constructor
    · intro h; exact ⟨0, Nat.le_refl _, h⟩
    · rintro ⟨k, h1, h2⟩
      obtain rfl : k = 0 := by omega
      exact h2
  | j + 1 => by
    rw [starF, Bool.or_eq_true, starF_iff f j]
    constructor
    · rintro (h | ⟨k, h1, h2⟩)
      · exact ⟨j + 1, Nat.le_refl _, h⟩
      · exact ⟨k, by omega, h2⟩
    · rintro ⟨k, h1, h2⟩
      by_cases e : k = j + 1
      · subst e; exact .inl h2
      · exact .inr ⟨k, by omega, h2⟩
theorem rowF_len : ∀ (n : Nat) (h p : List UInt8) (j : Nat), p.length = n → j ≤ h.length → (rowF h p j = true ↔ G p (h.take j)) := by
  intro n
  induction n with
  | zero =>
    intro h p j hl hj
    obtain rfl := List.eq_nil_of_length_eq_zero hl
    show (j == 0) = true ↔ h.take j = []
    rw [beq_iff_eq, List.take_eq_nil_iff]
    constructor
    · intro e; exact .inl e
    · rintro (e | e)
      · exact e
      · subst e; simpa using hj
  | succ n ih =>
    intro h p j hl hj
    have h0 : p ≠ [] := by intro e; subst e; simp at hl
    obtain ⟨q, c, rfl⟩ : ∃ q c, p = q ++ [c] := ⟨p.dropLast, p.getLast h0, (List.dropLast_concat_getLast h0).symm⟩
    have hq : q.length = n := by simpa using hl
    rw [rowF_snoc, G_app]
    unfold stepF
    by_cases hc : c = 42
    · subst hc
      rw [if_pos rfl, starF_iff]
      constructor
      · rintro ⟨k, hk, hf⟩
        refine ⟨h.take k, (h.take j).drop k, ?_, (ih h q k hq (by omega)).1 hf, G_any _⟩
        have := (List.take_append_drop k (h.take j)).symm
        rwa [List.take_take, Nat.min_eq_left hk] at this
      · rintro ⟨u, v, e, g, _⟩
        have hl2 := congrArg List.length e
        rw [List.length_take, List.length_append] at hl2
        have hu := congrArg (List.take u.length) e
        rw [List.take_append_of_le_length (Nat.le_refl _), List.take_length, List.take_take, Nat.min_eq_left (by omega)] at hu
        exact ⟨u.length, by omega, (ih h q u.length hq (by omega)).2 (by rw [hu]; exact g)⟩
    · rw [if_neg hc]
      have hcg : ∀ v, G [c] v ↔ v = [c] := fun v => by
        rw [G_sign hc]
        constructor
        · rintro ⟨w, rfl, e⟩; obtain rfl : w = [] := e; rfl
        · rintro rfl; exact ⟨[], rfl, rfl⟩
      cases j with
      | zero =>
        constructor
        · intro e; simp at e
        · rintro ⟨u, v, e, _, g⟩
          rw [(hcg v).1 g] at e
          simp at e
      | succ j =>
        have hlt : j < h.length := by omega
        have ht : h.take (j + 1) = h.take j ++ [h[j]] := List.take_succ_eq_append_getElem hlt
        have hgd : h.getD j 0 = h[j] := by rw [List.getD_eq_getElem?_getD, List.getElem?_eq_getElem hlt]; rfl
        simp only [Nat.add_sub_cancel, hgd, Nat.zero_lt_succ, decide_true, Bool.true_and, Bool.and_eq_true, beq_iff_eq]
        rw [ih h q j hq (by omega)]
        constructor
        · rintro ⟨g, e⟩
          exact ⟨h.take j, [c], by rw [ht, e], g, (hcg _).2 rfl⟩
        · rintro ⟨u, v, e, g, g2⟩
          rw [(hcg v).1 g2, ht] at e
          obtain ⟨e1, e2⟩ := List.append_inj' e rfl
          rw [← e1] at g
          exact ⟨g, by simpa using e2⟩
theorem matchR_iff (p h : List UInt8) : matchR p h = true ↔ G p h := by
  unfold matchR
  rw [rowF_len p.length h p h.length rfl (Nat.le_refl _), List.take_length]
end Go.Proofs.YthpkmdojeegleaaGreatDoor
namespace Go.Proofs.YthpkmdojeegleaaGreatDoor
open Go
/-- The pieces between the bytes c. -/
def spl (c : UInt8) : List UInt8 → List (List UInt8)
  | [] => [[]]
  | x :: t => if x = c then [] :: spl c t else match spl c t with
    | [] => [[x]]
    | p :: ps => (x :: p) :: ps
theorem spl_ne (c : UInt8) (l : List UInt8) : spl c l ≠ [] := by
  cases l with
  | nil => simp [spl]
  | cons x t =>
    unfold spl
    split
    · simp
    · split <;> simp
theorem spl_hit (c : UInt8) (t : List UInt8) : spl c (c :: t) = [] :: spl c t := by rw [spl, if_pos rfl]
theorem spl_miss {c x : UInt8} (hx : x ≠ c) (t : List UInt8) : ∃ p ps, spl c t = p :: ps ∧ spl c (x :: t) = (x :: p) :: ps := by
  cases h : spl c t with
  | nil => exact absurd h (spl_ne c t)
  | cons p ps => exact ⟨p, ps, rfl, by rw [spl, if_neg hx, h]⟩
theorem spl_none {c : UInt8} : ∀ (a : List UInt8), c ∉ a → spl c a = [a]
  | [], _ => rfl
  | x :: a, h => by
    have hx : x ≠ c := fun e => h (by simp [e])
    obtain ⟨p, ps, e1, e2⟩ := spl_miss hx a
    rw [spl_none a (fun h2 => h (by simp [h2]))] at e1
    cases e1
    exact e2
theorem spl_at {c : UInt8} (b : List UInt8) : ∀ (a : List UInt8), c ∉ a → spl c (a ++ c :: b) = a :: spl c b
  | [], _ => spl_hit c b
  | x :: a, h => by
    have hx : x ≠ c := fun e => h (by simp [e])
    obtain ⟨p, ps, e1, e2⟩ := spl_miss hx (a ++ c :: b)
    rw [spl_at b a (fun h2 => h (by simp [h2]))] at e1
    cases e1
    exact e2
theorem spl_mem {c : UInt8} : ∀ (l : List UInt8), ∀ p ∈ spl c l, c ∉ p
  | [], p, hp => by simp [spl] at hp; subst hp; simp
  | x :: t, p, hp => by
    by_cases hx : x = c
    · subst hx
      rw [spl_hit, List.mem_cons] at hp
      rcases hp with rfl | hp
      · simp
      · exact spl_mem t p hp
    · obtain ⟨q, ps, e1, e2⟩ := spl_miss hx t
      have ih := spl_mem (c := c) t
      rw [e1] at ih
      rw [e2, List.mem_cons] at hp
      rcases hp with rfl | hp
      · intro h
        rcases List.mem_cons.1 h with e | h
        · exact hx e.symm
        · exact ih q (by simp) h
      · exact ih p (by simp [hp])
theorem spl_all {c : UInt8} (P : UInt8 → Prop) : ∀ (l : List UInt8), (∀ x ∈ l, P x) → ∀ p ∈ spl c l, ∀ x ∈ p, P x
  | [], _, p, hp => by simp [spl] at hp; subst hp; simp
  | x :: t, h, p, hp => by
    have ih := spl_all (c := c) P t (fun y hy => h y (by simp [hy]))
    by_cases hx : x = c
    · subst hx
      rw [spl_hit, List.mem_cons] at hp
      rcases hp with rfl | hp
      · simp
      · exact ih p hp
    · obtain ⟨q, ps, e1, e2⟩ := spl_miss hx t
      rw [e1] at ih
      rw [e2, List.mem_cons] at hp
      rcases hp with rfl | hp
      · intro y hy
        rcases List.mem_cons.1 hy with rfl | hy
        · exact h y (by simp)
        · exact ih q (by simp) y hy
      · exact ih p (by simp [hp])
theorem spl_len {c : UInt8} : ∀ (l : List UInt8), (spl c l).length ≤ l.length + 1 ∧ ∀ p ∈ spl c l, p.length ≤ l.length
  | [] => by simp [spl]
  | x :: t => by
    obtain ⟨a1, a2⟩ := spl_len (c := c) t
    by_cases hx : x = c
    · subst hx
      rw [spl_hit]
      refine ⟨by simp; omega, fun p hp => ?_⟩
      rcases List.mem_cons.1 hp with rfl | hp
      · simp
      · have := a2 p hp; simp; omega
    · obtain ⟨q, ps, e1, e2⟩ := spl_miss hx t
      rw [e1] at a1 a2
      rw [e2]
      refine ⟨by simp at a1 ⊢; omega, fun p hp => ?_⟩
      rcases List.mem_cons.1 hp with rfl | hp
      · have := a2 q (by simp); simp; omega
      · have := a2 p (by simp [hp]); simp; omega
theorem starJoin_spl : ∀ (l : List UInt8), starJoin (spl 42 l) = l
  | [] => rfl
  | x :: t => by
    have ih := starJoin_spl t
    by_cases hx : x = 42
    · subst hx
      rw [spl_hit]
      cases h : spl 42 t with
      | nil => exact absurd h (spl_ne 42 t)
      | cons p ps =>
        rw [h] at ih
        show [] ++ 42 :: starJoin (p :: ps) = _
        rw [ih]; rfl
    · obtain ⟨q, ps, e1, e2⟩ := spl_miss hx t
      rw [e1] at ih
      rw [e2]
      cases ps with
      | nil =>
        have ih : q = t := ih
        show x :: q = _
        rw [ih]
      | cons r ps =>
        have ih : q ++ 42 :: starJoin (r :: ps) = t := ih
        show x :: q ++ 42 :: starJoin (r :: ps) = _
        rw [List.cons_append, ih]
theorem pre1 (c x : UInt8) (t : List UInt8) : ([c] : List UInt8).isPrefixOf (x :: t) = (c == x) := by simp [List.isPrefixOf]
theorem sct_nil (c : UInt8) : Lib.count [] [c] = 0 := Lib.count_miss rfl
theorem sct_hit (c : UInt8) (t : List UInt8) : Lib.count (c :: t) [c] = 1 + Lib.count t [c] := by
  have := Lib.count_hit (s := c :: t) (sub := [c]) (i := 0) (by simp) (gix_hit (by rw [pre1]; simp))
  simpa using this
theorem sct_miss {c x : UInt8} (hx : x ≠ c) (t : List UInt8) : Lib.count (x :: t) [c] = Lib.count t [c] := by
  have hi := gix_miss (b := x) (t := t) (sub := [c]) (by rw [pre1, beq_eq_false_iff_ne]; exact Ne.symm hx)
  by_cases hm : Lib.index t [c] = -1
  · rw [hm] at hi
    rw [Lib.count_miss hm, Lib.count_miss hi]
  · obtain ⟨i, he⟩ : ∃ i : Nat, Lib.index t [c] = i := ⟨(Lib.index t [c]).toNat, by have := Lib.index_ge t [c]; omega⟩
    rw [if_neg (by simp [hm]), he] at hi
    rw [Lib.count_hit (by simp) he, Lib.count_hit (i := i + 1) (by simp) (by rw [hi]; rfl)]
    simp [List.drop_succ_cons]
/-- The library's Split at one byte. -/
theorem split_spl (c : UInt8) : ∀ (s : List UInt8), Lib.split s [c] = spl c s
  | [] => by unfold Lib.split; rw [sct_nil]; rfl
  | x :: t => by
    have ih := split_spl c t
    unfold Lib.split at ih ⊢
    by_cases hx : x = c
    · subst hx
      rw [spl_hit, ← ih, sct_hit, Nat.add_comm, Lib.splitK, gix_hit (by rw [pre1]; simp)]
      simp
    · obtain ⟨q, ps, e1, e2⟩ := spl_miss hx t
      rw [e1] at ih
      rw [e2, sct_miss hx]
      have hi := gix_miss (b := x) (t := t) (sub := [c]) (by rw [pre1, beq_eq_false_iff_ne]; exact Ne.symm hx)
      cases hk : Lib.count t [c] with
      | zero =>
        rw [hk] at ih
        have : [t] = q :: ps := ih
        cases this; rfl
      | succ k =>
        rw [hk] at ih
        by_cases hm : Lib.index t [c] = -1
        · rw [Lib.count_miss hm] at hk; cases hk
        · obtain ⟨i, he⟩ : ∃ i : Nat, Lib.index t [c] = i := ⟨(Lib.index t [c]).toNat, by have := Lib.index_ge t [c]; omega⟩
          rw [if_neg (by simp [hm]), he] at hi
          rw [Lib.splitK, he, if_neg (by rw [beq_iff_eq]; omega)] at ih
          rw [Lib.splitK, hi, if_neg (by rw [beq_iff_eq]; omega)]
          rw [show ((i : Int) + 1).toNat + 0 = ((i : Int).toNat + 0) + 1 by omega, show ((i : Int) + 1).toNat + [c].length = ((i : Int).toNat + [c].length) + 1 by simp, List.take_succ_cons, List.drop_succ_cons]
          cases ih; rfl
end Go.Proofs.YthpkmdojeegleaaGreatDoor
namespace Go.Proofs.YthpkmdojeegleaaGreatDoor
open Go
/-- A rule. -/
structure RuL where
  allow : Bool
  role : List UInt8
  ten : List UInt8
  host : List UInt8
  frm : Int
  til : Int
theorem RuL.eq {a b : RuL} (h1 : a.allow = b.allow) (h2 : a.role = b.role) (h3 : a.ten = b.ten) (h4 : a.host = b.host) (h5 : a.frm = b.frm) (h6 : a.til = b.til) : a = b := by
  cases a; cases b; simp_all
def rlow (b : UInt8) : UInt8 := if 65 ≤ b.toNat ∧ b.toNat ≤ 90 then b + 32 else b
/-- Does a host fit a pattern? -/
def matchB (p h : List UInt8) : Bool := matchR p (h.map rlow)
/-- As rule.Match goes. -/
def progM (p h : List UInt8) : Bool :=
  if (Lib.cut p [42]).2.2 = false then h.map rlow == p
  else if Lib.hasPrefix (h.map rlow) (Lib.cut p [42]).1 = false then false
  else greedy (spl 42 (Lib.cut p [42]).2.1) (Lib.trimPrefix (h.map rlow) (Lib.cut p [42]).1)
theorem ix1_nil (c : UInt8) : Lib.index [] [c] = -1 := rfl
theorem ix1_hit (c : UInt8) (t : List UInt8) : Lib.index (c :: t) [c] = 0 := gix_hit (by rw [pre1]; simp)
theorem ix1_miss {c x : UInt8} (hx : x ≠ c) (t : List UInt8) : Lib.index (x :: t) [c] = if Lib.index t [c] == -1 then -1 else Lib.index t [c] + 1 :=
  gix_miss (by rw [pre1, beq_eq_false_iff_ne]; exact Ne.symm hx)
/-- Cutting at a byte. -/
theorem cut1 (c : UInt8) : ∀ (s : List UInt8), (c ∉ s ∧ Lib.cut s [c] = (s, [], false)) ∨ (∃ a b, s = a ++ c :: b ∧ c ∉ a ∧ Lib.cut s [c] = (a, b, true))
  | [] => .inl ⟨by simp, rfl⟩
  | x :: t => by
    by_cases hx : x = c
    · subst hx
      refine .inr ⟨[], t, rfl, by simp, ?_⟩
      unfold Lib.cut
      rw [ix1_hit]; simp
    · rcases cut1 c t with ⟨h1, h2⟩ | ⟨a, b, rfl, h1, h2⟩
      · refine .inl ⟨by simp [h1, Ne.symm hx], ?_⟩
        unfold Lib.cut at h2 ⊢
        by_cases hm : Lib.index t [c] = -1
        · rw [ix1_miss hx, hm]; simp
        · have hg := Lib.index_ge t [c]
          rw [if_pos (by omega)] at h2
          simp at h2
      · refine .inr ⟨x :: a, b, rfl, by simp [h1, Ne.symm hx], ?_⟩
        unfold Lib.cut at h2 ⊢
        by_cases hm : Lib.index (a ++ c :: b) [c] = -1
        · rw [hm] at h2; simp at h2
        · have hg := Lib.index_ge (a ++ c :: b) [c]
          rw [if_pos (by omega)] at h2
          have he := ix1_miss hx (a ++ c :: b)
          rw [if_neg (by rw [beq_iff_eq]; exact hm)] at he
          rw [he, if_pos (by omega)]
          obtain ⟨i, hi⟩ : ∃ i : Nat, Lib.index (a ++ c :: b) [c] = i := ⟨(Lib.index (a ++ c :: b) [c]).toNat, by omega⟩
          rw [hi] at h2 ⊢
          simp only [Int.toNat_natCast, Prod.mk.injEq, and_true] at h2
          obtain ⟨h3, h4⟩ := h2
          rw [show ((i : Int) + 1).toNat = i + 1 by omega, List.take_succ_cons, h3, show i + 1 + [c].length = (i + [c].length) + 1 by omega, List.drop_succ_cons, h4]
theorem progM_eq (p h : List UInt8) : progM p h = matchB p h := by
  unfold progM matchB
  obtain ⟨H, hH⟩ : ∃ H, H = h.map rlow := ⟨_, rfl⟩
  rw [← hH]
  rw [Bool.eq_iff_iff, matchR_iff]
  rcases cut1 42 p with ⟨h1, h2⟩ | ⟨a, b, rfl, h1, h2⟩
  · rw [h2, if_pos rfl, beq_iff_eq, G_lit p H h1]
  · rw [h2, if_neg (by simp), G_app]
    cases hp : Lib.hasPrefix H a with
    | false =>
      rw [if_pos rfl]
      constructor
      · intro e; cases e
      · rintro ⟨u, v, rfl, g, _⟩
        rw [(G_lit a u h1).1 g] at hp
        rw [(pre_iff (a ++ v) a).2 ⟨v, rfl⟩] at hp
        cases hp
    | true =>
      rw [if_neg (by simp)]
      obtain ⟨v, rfl⟩ := (pre_iff H a).1 hp
      have ht : Lib.trimPrefix (a ++ v) a = v := by unfold Lib.trimPrefix; rw [hp, if_pos rfl]; simp
      rw [ht, greedy_iff _ _ (spl_ne 42 b) (spl_mem b), starJoin_spl]
      constructor
      · intro g; exact ⟨a, v, rfl, (G_lit a a h1).2 rfl, g⟩
      · rintro ⟨u, w, e, g, g2⟩
        rw [(G_lit a u h1).1 g] at e
        rw [List.append_cancel_left e]; exact g2
/-- A word of a rule, another one: are they for the same? -/
def forB (w o : List UInt8) : Bool := w == [42] || w == o
def holdsB (r : RuL) (role ten host : List UInt8) (port : Int) : Bool :=
  forB r.role role && forB r.ten ten && matchB r.host host && decide (r.frm ≤ port) && decide (port ≤ r.til)
/-- As coversHost goes. -/
def overP (a b : List UInt8) : Bool :=
  if a = b then true else if a.count 42 ≠ 1 then false
  else ((Lib.cut a [42]).2.1 == [] && Lib.hasPrefix b (Lib.cut a [42]).1) || ((Lib.cut a [42]).1 == [] && Lib.hasSuffix b (Lib.cut a [42]).2.1)
def coversB (a b : RuL) : Bool := forB a.role b.role && forB a.ten b.ten && overP a.host b.host && decide (a.frm ≤ b.frm) && decide (b.til ≤ a.til)
theorem forB_trans {a b c : List UInt8} (h1 : forB a b = true) (h2 : forB b c = true) : forB a c = true := by
  unfold forB at *
  simp only [Bool.or_eq_true, beq_iff_eq] at *
  rcases h1 with h1 | rfl
  · exact .inl h1
  · exact h2
theorem G_star_end {p h : List UInt8} (hp : (42 : UInt8) ∉ p) : G (p ++ [42]) h ↔ ∃ v, h = p ++ v := by
  rw [G_app]
  constructor
  · rintro ⟨u, v, rfl, g, _⟩; rw [(G_lit p u hp).1 g]; exact ⟨v, rfl⟩
  · rintro ⟨v, rfl⟩; exact ⟨p, v, rfl, (G_lit p p hp).2 rfl, G_any v⟩
theorem over_sound {a b h : List UInt8} (ho : overP a b = true) (hm : matchB b h = true) : matchB a h = true := by
  unfold matchB at *
  rw [matchR_iff] at *
  unfold overP at ho
  split at ho
  · rename_i e; rw [e]; exact hm
  · split at ho
    · cases ho
    · rename_i _ hc
      rcases cut1 42 a with ⟨h1, h2⟩ | ⟨x, y, rfl, h1, h2⟩
      · exfalso; apply hc; rw [List.count_eq_zero.2 h1]; decide
      · rw [h2] at ho
        have hy : (42 : UInt8) ∉ y := by
          rw [Decidable.not_not, List.count_append, List.count_eq_zero.2 h1, List.count_cons_self] at hc
          exact List.count_eq_zero.1 (by omega)
        simp only [Bool.or_eq_true, Bool.and_eq_true, beq_iff_eq] at ho
        rcases ho with ⟨rfl, hp⟩ | ⟨rfl, hs⟩
        · obtain ⟨u, rfl⟩ := (pre_iff b x).1 hp
          obtain ⟨v, w, e, g, _⟩ := (G_app _ _ _).1 hm
          rw [(G_lit x v h1).1 g] at e
          exact (G_star_end h1).2 ⟨w, e⟩
        · obtain ⟨u, rfl⟩ := (suf_iff b y).1 hs
          obtain ⟨v, w, e, _, g⟩ := (G_app _ _ _).1 hm
          rw [(G_lit y w hy).1 g] at e
          exact (G_star _ _).2 ⟨v, y, e, (G_lit y y hy).2 rfl⟩
theorem covers_sound {a b : RuL} {role ten host : List UInt8} {port : Int} (hc : coversB a b = true) (hb : holdsB b role ten host port = true) : holdsB a role ten host port = true := by
  unfold coversB at hc
  unfold holdsB at hb ⊢
  simp only [Bool.and_eq_true, decide_eq_true_eq] at *
  obtain ⟨⟨⟨⟨c1, c2⟩, c3⟩, c4⟩, c5⟩ := hc
  obtain ⟨⟨⟨⟨b1, b2⟩, b3⟩, b4⟩, b5⟩ := hb
  exact ⟨⟨⟨⟨forB_trans c1 b1, forB_trans c2 b2⟩, over_sound c3 b3⟩, by omega⟩, by omega⟩
/-- The first rule that holds. -/
def whichL (role ten host : List UInt8) (port : Int) : List RuL → Option Nat
  | [] => none
  | r :: l => if holdsB r role ten host port = true then some 0 else (whichL role ten host port l).map (· + 1)
/-- May it be? -/
def mayL (role ten host : List UInt8) (port : Int) : List RuL → Bool
  | [] => false
  | r :: l => if holdsB r role ten host port = true then r.allow else mayL role ten host port l
theorem whichL_none {role ten host : List UInt8} {port : Int} : ∀ {l : List RuL}, (∀ r ∈ l, holdsB r role ten host port = false) → whichL role ten host port l = none
  | [], _ => rfl
  | r :: l, h => by
    rw [whichL, if_neg (by rw [h r (by simp)]; simp), whichL_none (fun x hx => h x (by simp [hx]))]; rfl
theorem whichL_at {role ten host : List UInt8} {port : Int} : ∀ {l : List RuL} (i : Nat) (hi : i < l.length), (∀ r ∈ l.take i, holdsB r role ten host port = false) → holdsB l[i] role ten host port = true → whichL role ten host port l = some i
  | r :: l, 0, _, _, h => by rw [whichL, if_pos (show holdsB r role ten host port = true from h)]
  | r :: l, i + 1, hi, h, h2 => by
    rw [whichL, if_neg (by rw [h r (by simp)]; simp), whichL_at i (by simpa using hi) (fun x hx => h x (by simp [hx])) h2]; rfl
theorem whichL_cases (role ten host : List UInt8) (port : Int) : ∀ l : List RuL, (whichL role ten host port l = none ∧ (∀ r ∈ l, holdsB r role ten host port = false) ∧ mayL role ten host port l = false) ∨
    (∃ (i : Nat) (hi : i < l.length), whichL role ten host port l = some i ∧ (∀ r ∈ l.take i, holdsB r role ten host port = false) ∧ holdsB l[i] role ten host port = true ∧ mayL role ten host port l = l[i].allow)
  | [] => .inl ⟨rfl, by simp, rfl⟩
  | r :: l => by
    cases h : holdsB r role ten host port with
    | true => exact .inr ⟨0, by simp, by rw [whichL, if_pos h], by simp, h, by rw [mayL, if_pos h]; rfl⟩
    | false =>
      rcases whichL_cases role ten host port l with ⟨a, b, c⟩ | ⟨i, hi, a, b, c, d⟩
      · refine .inl ⟨by rw [whichL, if_neg (by simp [h]), a]; rfl, fun x hx => ?_, by rw [mayL, if_neg (by simp [h]), c]⟩
        rcases List.mem_cons.1 hx with rfl | hx
        · exact h
        · exact b x hx
      · refine .inr ⟨i + 1, by simpa using hi, by rw [whichL, if_neg (by simp [h]), a]; rfl, fun x hx => ?_, c, by rw [mayL, if_neg (by simp [h]), d]; rfl⟩
        rw [List.take_succ_cons] at hx
        rcases List.mem_cons.1 hx with rfl | hx
        · exact h
        · exact b x hx
end Go.Proofs.YthpkmdojeegleaaGreatDoor
namespace Go.Proofs.YthpkmdojeegleaaGreatDoor
open Go
def plC (b : UInt8) : Bool := (decide (97 ≤ b.toNat) && decide (b.toNat ≤ 122)) || (decide (48 ≤ b.toNat) && decide (b.toNat ≤ 57)) || b.toNat == 45 || b.toNat == 95
/-- A word: a plain name, or a star. -/
def wordB (s : List UInt8) : Bool := s == [42] || (s.all plC && decide (1 ≤ s.length) && decide (s.length ≤ 32))
/-- The signs of a pattern. -/
def rhS : List UInt8 := [97, 98, 99, 100, 101, 102, 103, 104, 105, 106, 107, 108, 109, 110, 111, 112, 113, 114, 115, 116, 117, 118, 119, 120, 121, 122, 48, 49, 50, 51, 52, 53, 54, 55, 56, 57, 46, 45, 95, 42]
def patB (s : List UInt8) : Bool := !s.isEmpty && decide (s.length ≤ 32) && s.all (rhS.contains ·)
def validB (r : RuL) : Bool := wordB r.role && wordB r.ten && patB r.host && decide (1 ≤ r.frm) && decide (r.frm ≤ r.til) && decide (r.til ≤ 65535)
/-- As parsePorts goes. -/
def portsP (w : List UInt8) : Int × Int :=
  if w = [42] then (1, 65535)
  else ((decP (Lib.cut w [45]).1 1 65535).1, (decP (if (Lib.cut w [45]).2.2 = true then (Lib.cut w [45]).2.1 else (Lib.cut w [45]).1) 1 65535).1)
def allowS : List UInt8 := [97, 108, 108, 111, 119]
def denyS : List UInt8 := [100, 101, 110, 121]
/-- As parseRule goes. -/
def lineP (line : List UInt8) : RuL × Bool :=
  match spl 32 line with
  | [v, a, b, c, d] => if v = allowS ∨ v = denyS then (⟨v == allowS, a, b, c, (portsP d).1, (portsP d).2⟩, validB ⟨v == allowS, a, b, c, (portsP d).1, (portsP d).2⟩) else (⟨false, [], [], [], 0, 0⟩, false)
  | _ => (⟨false, [], [], [], 0, 0⟩, false)
def skipB (l : List UInt8) : Bool := l == [] || Lib.hasPrefix l [35]
/-- As Parse goes through the lines: the rules, and which line is none (0: each is one). -/
def scanA : List RuL → Nat → List (List UInt8) → List RuL × Nat
  | acc, _, [] => (acc, 0)
  | acc, i, l :: ls => if skipB l = true then scanA acc (i + 1) ls else if (lineP l).2 = true then scanA (acc ++ [(lineP l).1]) (i + 1) ls else (acc, i + 1)
/-- A policy's rules, the line that is none, and the error. -/
def parseP (s : List UInt8) : List RuL × Nat × Int :=
  if 4096 < s.length then ([], 0, 3)
  else if 0 < (scanA [] 0 (spl 10 s)).2 then ([], (scanA [] 0 (spl 10 s)).2, 4)
  else if 32 < (scanA [] 0 (spl 10 s)).1.length then ([], 0, 8)
  else ((scanA [] 0 (spl 10 s)).1, 0, 0)
theorem scanA_empty : ∀ (acc : List RuL) (i : Nat) (ls : List (List UInt8)), scanA acc i (ls ++ [[]]) = scanA acc i ls
  | acc, i, [] => rfl
  | acc, i, l :: ls => by
    rw [List.cons_append, scanA, scanA, scanA_empty, scanA_empty]
theorem scanA_valid : ∀ (acc : List RuL) (i : Nat) (ls : List (List UInt8)), (∀ r ∈ acc, validB r = true) → ∀ r ∈ (scanA acc i ls).1, validB r = true
  | acc, _, [], h => h
  | acc, i, l :: ls, h => by
    rw [scanA]
    split
    · exact scanA_valid acc (i + 1) ls h
    · split
      · rename_i h2
        refine scanA_valid _ (i + 1) ls (fun r hr => ?_)
        rcases List.mem_append.1 hr with hr | hr
        · exact h r hr
        · rw [List.mem_singleton.1 hr]
          unfold lineP at h2 ⊢
          split at h2
          · split at h2
            · rename_i h3
              rw [if_pos h3]
              exact h2
            · cases h2
          · cases h2
      · exact h
theorem scanA_len : ∀ (acc : List RuL) (i : Nat) (ls : List (List UInt8)), (scanA acc i ls).1.length ≤ acc.length + ls.length
  | acc, _, [] => by simp [scanA]
  | acc, i, l :: ls => by
    rw [scanA]
    split
    · have := scanA_len acc (i + 1) ls
      simp only [List.length_cons]; omega
    · split
      · have := scanA_len (acc ++ [(lineP l).1]) (i + 1) ls
        simp only [List.length_append, List.length_cons, List.length_nil] at this ⊢; omega
      · simp only [List.length_cons]; omega
/-- A rule's ports. -/
def portsL (f t : Int) : List UInt8 := if f = 1 ∧ t = 65535 then [42] else if f = t then Lib.itoa f else Lib.itoa f ++ [45] ++ Lib.itoa t
def verbL (a : Bool) : List UInt8 := if a = true then allowS else denyS
/-- A rule's line. -/
def lineL (r : RuL) : List UInt8 := verbL r.allow ++ 32 :: (r.role ++ 32 :: (r.ten ++ 32 :: (r.host ++ 32 :: portsL r.frm r.til)))
/-- A policy's text. -/
def textL : List RuL → List UInt8
  | [] => []
  | r :: l => lineL r ++ 10 :: textL l
theorem textL_app (a b : List RuL) : textL (a ++ b) = textL a ++ textL b := by
  induction a with
  | nil => rfl
  | cons r a ih => rw [List.cons_append, textL, textL, ih]; simp
theorem port_facts {v : Int} (h1 : 1 ≤ v) (h2 : v ≤ 65535) : (Lib.itoa v).all isD = true ∧ (Lib.itoa v).length ≤ 5 ∧ decP (Lib.itoa v) 1 65535 = (v, true) := by
  obtain ⟨u, rfl⟩ : ∃ u : Nat, v = u := ⟨v.toNat, by omega⟩
  rw [Lib.itoa_nonneg]
  obtain ⟨f1, f2, f3, f4⟩ := digits_facts u
  have hl : (Lib.decDigits u).length ≤ 5 := by rw [Lib.decDigits_length]; exact nDigits_le u 4 (by omega)
  refine ⟨f1, hl, ?_⟩
  have := decP_port (Lib.decDigits u) 4 65535 (by decide) (by decide)
  rw [show ((65535 : Nat) : Int) = 65535 from rfl] at this
  rw [this]
  unfold portP
  rw [if_pos ⟨List.length_pos_iff.2 f3, by omega, f4 (by omega), f1, by omega⟩, f2]
theorem isD_not {l : List UInt8} (h : l.all isD = true) {c : UInt8} (hc : isD c = false) : c ∉ l := fun hm => by
  rw [List.all_eq_true] at h
  rw [h c hm] at hc; cases hc
theorem itoa_ne {v : Int} (h1 : 1 ≤ v) : Lib.itoa v ≠ [] := by
  obtain ⟨u, rfl⟩ : ∃ u : Nat, v = u := ⟨v.toNat, by omega⟩
  rw [Lib.itoa_nonneg]; exact (digits_facts u).2.2.1
theorem portsL_back {f t : Int} (h1 : 1 ≤ f) (h2 : f ≤ t) (h3 : t ≤ 65535) : portsP (portsL f t) = (f, t) ∧ (32 : UInt8) ∉ portsL f t ∧ (10 : UInt8) ∉ portsL f t ∧ (portsL f t).length ≤ 11 := by
  obtain ⟨a1, a2, a3⟩ := port_facts h1 (by omega : f ≤ 65535)
  obtain ⟨b1, b2, b3⟩ := port_facts (by omega : 1 ≤ t) h3
  unfold portsL
  by_cases h : f = 1 ∧ t = 65535
  · obtain ⟨rfl, rfl⟩ := h
    rw [if_pos ⟨rfl, rfl⟩]
    exact ⟨rfl, by decide, by decide, by decide⟩
  · rw [if_neg h]
    by_cases he : f = t
    · subst he
      rw [if_pos rfl]
      refine ⟨?_, isD_not a1 (by decide), isD_not a1 (by decide), by omega⟩
      unfold portsP
      rw [if_neg (fun e => by rw [e] at a1; exact absurd a1 (by decide))]
      rcases cut1 45 (Lib.itoa f) with ⟨_, e⟩ | ⟨x, y, e, _, _⟩
      · rw [e]
        simp [a3]
      · exact absurd (by rw [e]; simp) (isD_not a1 (c := 45) (by decide))
    · rw [if_neg he]
      refine ⟨?_, ?_, ?_, by simp; omega⟩
      · unfold portsP
        rw [if_neg (fun e => by
          have hm : (45 : UInt8) ∈ Lib.itoa f ++ [45] ++ Lib.itoa t := by simp
          rw [e] at hm
          simp at hm)]
        rw [show Lib.itoa f ++ [45] ++ Lib.itoa t = Lib.itoa f ++ 45 :: Lib.itoa t by simp]
        rcases cut1 45 (Lib.itoa f ++ 45 :: Lib.itoa t) with ⟨e, _⟩ | ⟨x, y, e, e2, e3⟩
        · exact absurd (by simp) e
        · have hs := congrArg (spl 45) e
          rw [spl_at _ _ (isD_not a1 (by decide)), spl_at _ _ e2] at hs
          have hx : Lib.itoa f = x := by injection hs
          subst hx
          have hy : Lib.itoa t = y := by
            have := List.append_cancel_left e
            injection this
          subst hy
          rw [e3]
          simp [a3, b3]
      · intro hm
        simp only [List.mem_append, List.mem_singleton] at hm
        rcases hm with (hm | hm) | hm
        · exact isD_not a1 (by decide) hm
        · cases hm
        · exact isD_not b1 (by decide) hm
      · intro hm
        simp only [List.mem_append, List.mem_singleton] at hm
        rcases hm with (hm | hm) | hm
        · exact isD_not a1 (by decide) hm
        · cases hm
        · exact isD_not b1 (by decide) hm
theorem wordB_not {s : List UInt8} (h : wordB s = true) {c : UInt8} (hc : plC c = false) (hc2 : c ≠ 42) : c ∉ s ∧ s.length ≤ 32 := by
  unfold wordB at h
  simp only [Bool.or_eq_true, beq_iff_eq, Bool.and_eq_true, decide_eq_true_eq] at h
  rcases h with rfl | ⟨⟨h, _⟩, h3⟩
  · exact ⟨by simp [hc2], by decide⟩
  · refine ⟨fun hm => ?_, h3⟩
    rw [List.all_eq_true] at h
    rw [h c hm] at hc; cases hc
theorem patB_not {s : List UInt8} (h : patB s = true) {c : UInt8} (hc : rhS.contains c = false) : c ∉ s ∧ s.length ≤ 32 := by
  unfold patB at h
  simp only [Bool.and_eq_true, decide_eq_true_eq] at h
  refine ⟨fun hm => ?_, h.1.2⟩
  have := List.all_eq_true.1 h.2 c hm
  rw [hc] at this; cases this
theorem verb_not (a : Bool) : (32 : UInt8) ∉ verbL a ∧ (10 : UInt8) ∉ verbL a ∧ (verbL a = allowS ∨ verbL a = denyS) ∧ ((verbL a == allowS) = a) ∧ (verbL a).length ≤ 5 := by cases a <;> decide
/-- A valid rule is read again of its line, which has no line's end, is not empty, and no comment. -/
theorem lineL_back {r : RuL} (h : validB r = true) : lineP (lineL r) = (r, true) ∧ (10 : UInt8) ∉ lineL r ∧ skipB (lineL r) = false ∧ (lineL r).length ≤ 116 := by
  have hv := h
  unfold validB at h
  simp only [Bool.and_eq_true, decide_eq_true_eq] at h
  obtain ⟨⟨⟨⟨⟨h1, h2⟩, h3⟩, h4⟩, h5⟩, h6⟩ := h
  obtain ⟨v1, v2, v3, v4, v5⟩ := verb_not r.allow
  obtain ⟨a1, al⟩ := wordB_not h1 (c := 32) (by decide) (by decide)
  obtain ⟨a2, _⟩ := wordB_not h1 (c := 10) (by decide) (by decide)
  obtain ⟨b1, bl⟩ := wordB_not h2 (c := 32) (by decide) (by decide)
  obtain ⟨b2, _⟩ := wordB_not h2 (c := 10) (by decide) (by decide)
  obtain ⟨c1, cl⟩ := patB_not h3 (c := 32) (by decide)
  obtain ⟨c2, _⟩ := patB_not h3 (c := 10) (by decide)
  obtain ⟨d1, d2, d3, dl⟩ := portsL_back h4 h5 h6
  refine ⟨?_, ?_, ?_, ?_⟩
  · have hs : spl 32 (lineL r) = [verbL r.allow, r.role, r.ten, r.host, portsL r.frm r.til] := by
      unfold lineL
      rw [spl_at _ _ v1, spl_at _ _ a1, spl_at _ _ b1, spl_at _ _ c1, spl_none _ d2]
    unfold lineP
    rw [hs]
    simp only []
    rw [if_pos v3, d1, v4]
    have : (⟨r.allow, r.role, r.ten, r.host, (r.frm, r.til).1, (r.frm, r.til).2⟩ : RuL) = r := rfl
    rw [this, hv]
  · unfold lineL
    simp only [List.mem_append, List.mem_cons, not_or]
    exact ⟨v2, by decide, a2, by decide, b2, by decide, c2, by decide, d3⟩
  · unfold lineL
    cases r.allow <;> rfl
  · unfold lineL
    simp only [List.length_append, List.length_cons]
    omega
theorem spl_text : ∀ (l : List RuL), (∀ r ∈ l, validB r = true) → spl 10 (textL l) = l.map lineL ++ [[]]
  | [], _ => rfl
  | r :: l, h => by
    rw [textL, spl_at _ _ (lineL_back (h r (by simp))).2.1, spl_text l (fun x hx => h x (by simp [hx]))]; rfl
theorem scanA_lines : ∀ (l acc : List RuL) (i : Nat), (∀ r ∈ l, validB r = true) → scanA acc i (l.map lineL) = (acc ++ l, 0)
  | [], acc, i, _ => by simp [scanA]
  | r :: l, acc, i, h => by
    obtain ⟨e1, _, e3, _⟩ := lineL_back (h r (by simp))
    rw [List.map_cons, scanA, e3, if_neg (by simp), e1, if_pos rfl, scanA_lines l _ _ (fun x hx => h x (by simp [hx]))]
    simp
theorem textL_len : ∀ (l : List RuL), (∀ r ∈ l, validB r = true) → (textL l).length ≤ 117 * l.length
  | [], _ => by simp [textL]
  | r :: l, h => by
    have h1 := (lineL_back (h r (by simp))).2.2.2
    have h2 := textL_len l (fun x hx => h x (by simp [hx]))
    rw [textL]; simp only [List.length_append, List.length_cons]; omega
/-- A policy is read again of its text. -/
theorem parseP_text {l : List RuL} (h : ∀ r ∈ l, validB r = true) (hl : l.length ≤ 32) : parseP (textL l) = (l, 0, 0) := by
  have h1 := textL_len l h
  have hs : scanA [] 0 (spl 10 (textL l)) = (l, 0) := by rw [spl_text l h, scanA_empty, scanA_lines l [] 0 h]; simp
  unfold parseP
  rw [if_neg (by omega), hs]
  simp only []
  rw [if_neg (by simp), if_neg (by omega)]
end Go.Proofs.YthpkmdojeegleaaGreatDoor
