/- rule: what a pattern with stars fits, as lists: by its definition, piece by piece from the left, and by rows of places. Nothing of the program is imported. -/
import Derived.Lib.IndexMore
import Derived.Lib.Strings
namespace Go.Proofs.YtpihpoapapfnkaaGreatDoor
open Go
/-- Does a text fit a pattern? A star (42) stands for any bytes. -/
def G : List UInt8 → List UInt8 → Prop
  | [], h => h = []
  | c :: p, h => if c = 42 then ∃ u v, h = u ++ v ∧ G p v else ∃ v, h = c :: v ∧ G p v
theorem G_star (p h : List UInt8) : G (42 :: p) h ↔ ∃ u v, h = u ++ v ∧ G p v := by rw [G, if_pos rfl]
theorem G_sign {c : UInt8} (hc : c ≠ 42) (p h : List UInt8) : G (c :: p) h ↔ ∃ v, h = c :: v ∧ G p v := by rw [G, if_neg hc]
theorem G_app : ∀ (p q h : List UInt8), G (p ++ q) h ↔ ∃ u v, h = u ++ v ∧ G p u ∧ G q v
  | [], q, h => by
    constructor
    · intro g; exact ⟨[], h, rfl, rfl, g⟩
    · rintro ⟨u, v, rfl, e, g⟩; obtain rfl : u = [] := e; exact g
  | c :: p, q, h => by
    rw [List.cons_append]
    by_cases hc : c = 42
    · subst hc
      rw [G_star]
      constructor
      · rintro ⟨u, v, rfl, g⟩
        obtain ⟨a, b, rfl, g1, g2⟩ := (G_app p q v).1 g
        exact ⟨u ++ a, b, by simp, (G_star _ _).2 ⟨u, a, rfl, g1⟩, g2⟩
      · rintro ⟨u, v, rfl, g1, g2⟩
        obtain ⟨a, b, rfl, g3⟩ := (G_star _ _).1 g1
        exact ⟨a, b ++ v, by simp, (G_app p q _).2 ⟨b, v, rfl, g3, g2⟩⟩
    · rw [G_sign hc]
      constructor
      · rintro ⟨v, rfl, g⟩
        obtain ⟨a, b, rfl, g1, g2⟩ := (G_app p q v).1 g
        exact ⟨c :: a, b, rfl, (G_sign hc _ _).2 ⟨a, rfl, g1⟩, g2⟩
      · rintro ⟨u, v, rfl, g1, g2⟩
        obtain ⟨a, rfl, g3⟩ := (G_sign hc _ _).1 g1
        exact ⟨a ++ v, rfl, (G_app p q _).2 ⟨a, v, rfl, g3, g2⟩⟩
/-- A pattern without stars is its text. -/
theorem G_lit : ∀ (p h : List UInt8), (42 : UInt8) ∉ p → (G p h ↔ h = p)
  | [], h, _ => Iff.rfl
  | c :: p, h, hp => by
    have hc : c ≠ 42 := fun e => hp (by simp [e])
    rw [G_sign hc]
    constructor
    · rintro ⟨v, rfl, g⟩; rw [(G_lit p v (fun h => hp (by simp [h]))).1 g]
    · rintro rfl; exact ⟨p, rfl, (G_lit p p (fun h => hp (by simp [h]))).2 rfl⟩
theorem G_any (h : List UInt8) : G [42] h := (G_star _ _).2 ⟨h, [], by simp, rfl⟩
/-- One star in front takes more. -/
theorem G_more {p v : List UInt8} (w : List UInt8) (g : G (42 :: p) v) : G (42 :: p) (w ++ v) := by
  obtain ⟨a, b, rfl, g3⟩ := (G_star _ _).1 g
  exact (G_star _ _).2 ⟨w ++ a, b, by simp, g3⟩
/-- The pieces between stars, joined. -/
def starJoin : List (List UInt8) → List UInt8
  | [] => []
  | [p] => p
  | p :: q :: ps => p ++ 42 :: starJoin (q :: ps)
/-- Behind a star: each piece is taken where it comes first, the last one at the end. -/
def greedy : List (List UInt8) → List UInt8 → Bool
  | [], h => h.isEmpty
  | [p], h => Lib.hasSuffix h p
  | p :: q :: ps, h => (Lib.cut h p).2.2 && greedy (q :: ps) (Lib.cut h p).2.1
theorem suf_iff (h p : List UInt8) : Lib.hasSuffix h p = true ↔ ∃ u, h = u ++ p := by
  unfold Lib.hasSuffix
  rw [List.isSuffixOf_iff_suffix]
  constructor
  · rintro ⟨u, e⟩; exact ⟨u, e.symm⟩
  · rintro ⟨u, e⟩; exact ⟨u, e.symm⟩
theorem pre_iff (h p : List UInt8) : Lib.hasPrefix h p = true ↔ ∃ u, h = p ++ u := by
  unfold Lib.hasPrefix
  rw [List.isPrefixOf_iff_prefix]
  constructor
  · rintro ⟨u, e⟩; exact ⟨u, e.symm⟩
  · rintro ⟨u, e⟩; exact ⟨u, e.symm⟩
theorem gix_hit {s sub : List UInt8} (h : sub.isPrefixOf s = true) : Lib.index s sub = 0 := by
  cases s with
  | nil =>
    cases sub with
    | nil => rfl
    | cons => simp at h
  | cons b t => unfold Lib.index; rw [if_pos h]
theorem gix_miss {b : UInt8} {t sub : List UInt8} (h : sub.isPrefixOf (b :: t) = false) : Lib.index (b :: t) sub = if Lib.index t sub == -1 then -1 else Lib.index t sub + 1 := by
  conv => lhs; unfold Lib.index
  rw [if_neg (by simp [h])]
/-- Where a piece occurs, it is found, and no later. -/
theorem ix_occurs : ∀ (u p v : List UInt8), 0 ≤ Lib.index (u ++ p ++ v) p ∧ Lib.index (u ++ p ++ v) p ≤ u.length
  | [], p, v => by
    rw [gix_hit (by rw [List.nil_append, List.isPrefixOf_iff_prefix]; exact ⟨v, rfl⟩)]
    exact ⟨Int.le_refl _, by simp⟩
  | b :: u, p, v => by
    by_cases h : p.isPrefixOf (b :: (u ++ p ++ v)) = true
    · rw [show b :: u ++ p ++ v = b :: (u ++ p ++ v) by simp, gix_hit h]
      exact ⟨Int.le_refl _, by omega⟩
    · have hf : p.isPrefixOf (b :: (u ++ p ++ v)) = false := Bool.eq_false_iff.2 h
      obtain ⟨a1, a2⟩ := ix_occurs u p v
      rw [show b :: u ++ p ++ v = b :: (u ++ p ++ v) by simp, gix_miss hf, if_neg (by rw [beq_iff_eq]; omega)]
      exact ⟨by omega, by rw [List.length_cons]; omega⟩
theorem ix_room {p : List UInt8} : ∀ {s : List UInt8} {i : Nat}, Lib.index s p = i → s = s.take i ++ p ++ s.drop (i + p.length)
  | [], i, h => by
    cases p with
    | nil =>
      have : i = 0 := by
        have : Lib.index [] ([] : List UInt8) = 0 := rfl
        rw [this] at h; omega
      subst this; rfl
    | cons c p =>
      have : Lib.index [] (c :: p) = -1 := rfl
      rw [this] at h; omega
  | b :: t, i, h => by
    by_cases hp : p.isPrefixOf (b :: t) = true
    · rw [gix_hit hp] at h
      obtain rfl : i = 0 := by omega
      obtain ⟨u, e⟩ := List.isPrefixOf_iff_prefix.1 hp
      rw [← e]; simp
    · have hf : p.isPrefixOf (b :: t) = false := Bool.eq_false_iff.2 hp
      rw [gix_miss hf] at h
      by_cases hm : Lib.index t p = -1
      · rw [hm, if_pos (by rfl)] at h; omega
      · rw [if_neg (by rw [beq_iff_eq]; exact hm)] at h
        obtain ⟨j, rfl⟩ : ∃ j, i = j + 1 := ⟨i - 1, by have := Lib.index_ge t p; omega⟩
        have ih := ix_room (p := p) (s := t) (i := j) (by omega)
        rw [show j + 1 + p.length = (j + p.length) + 1 by omega, List.take_succ_cons, List.drop_succ_cons, List.cons_append, List.cons_append, ← ih]
theorem cut_found {h p : List UInt8} (e : (Lib.cut h p).2.2 = true) : h = (Lib.cut h p).1 ++ p ++ (Lib.cut h p).2.1 := by
  unfold Lib.cut at e ⊢
  split
  · rename_i hc
    have hg := Lib.index_ge h p
    obtain ⟨i, hi⟩ : ∃ i : Nat, Lib.index h p = i := ⟨(Lib.index h p).toNat, by omega⟩
    have := ix_room hi
    simp only [hi, Int.toNat_natCast]
    exact this
  · rename_i hc
    rw [if_neg hc] at e
    cases e
/-- Piece by piece from the left finds just what fits. -/
theorem greedy_iff : ∀ (ps : List (List UInt8)) (h : List UInt8), ps ≠ [] → (∀ p ∈ ps, (42 : UInt8) ∉ p) → (greedy ps h = true ↔ G (42 :: starJoin ps) h)
  | [], _, h0, _ => absurd rfl h0
  | [p], h, _, hp => by
    rw [greedy, suf_iff, starJoin, G_star]
    constructor
    · rintro ⟨u, rfl⟩; exact ⟨u, p, rfl, (G_lit p p (hp p (by simp))).2 rfl⟩
    · rintro ⟨u, v, rfl, g⟩; exact ⟨u, by rw [(G_lit p v (hp p (by simp))).1 g]⟩
  | p :: q :: ps, h, _, hp => by
    have ih := greedy_iff (q :: ps)
    have hq : ∀ x ∈ q :: ps, (42 : UInt8) ∉ x := fun x hx => hp x (by simp at hx ⊢; exact .inr hx)
    rw [greedy, starJoin, Bool.and_eq_true, ih _ (by simp) hq, G_star]
    constructor
    · rintro ⟨e, g⟩
      have hc := cut_found e
      refine ⟨(Lib.cut h p).1, p ++ (Lib.cut h p).2.1, by rw [← List.append_assoc]; exact hc, (G_app _ _ _).2 ⟨p, _, rfl, (G_lit p p (hp p (by simp))).2 rfl, g⟩⟩
    · rintro ⟨u, v, rfl, g⟩
      obtain ⟨a, b, rfl, g1, g2⟩ := (G_app _ _ _).1 g
      rw [(G_lit p a (hp p (by simp))).1 g1]
      obtain ⟨a1, a2⟩ := ix_occurs u p b
      rw [List.append_assoc] at a1 a2
      obtain ⟨i, hi⟩ : ∃ i : Nat, Lib.index (u ++ (p ++ b)) p = i := ⟨(Lib.index (u ++ (p ++ b)) p).toNat, by omega⟩
      have e : Lib.cut (u ++ (p ++ b)) p = ((u ++ (p ++ b)).take i, (u ++ (p ++ b)).drop (i + p.length), true) := by
        unfold Lib.cut
        rw [hi]
        simp
      rw [e]
      refine ⟨rfl, ?_⟩
      have hi2 : i ≤ u.length := by omega
      have e2 : (u ++ (p ++ b)).drop (i + p.length) = ((u ++ p).drop (i + p.length)) ++ b := by
        rw [← List.append_assoc, List.drop_append_of_le_length (by simp; omega)]
      rw [e2]
      exact G_more _ g2
/-- A row of places behind a star. -/
def starF (f : Nat → Bool) : Nat → Bool
  | 0 => f 0
  | j + 1 => f (j + 1) || starF f j
/-- A row of places behind one sign more of the pattern. -/
def stepF (h : List UInt8) (f : Nat → Bool) (c : UInt8) : Nat → Bool := fun j =>
  if c = 42 then starF f j else decide (0 < j) && (f (j - 1) && h.getD (j - 1) 0 == c)
/-- The places where the pattern may have come to. -/
def rowF (h p : List UInt8) : Nat → Bool := p.foldl (stepF h) (fun j => j == 0)
def matchR (p h : List UInt8) : Bool := rowF h p h.length
theorem rowF_snoc (h p : List UInt8) (c : UInt8) : rowF h (p ++ [c]) = stepF h (rowF h p) c := by unfold rowF; rw [List.foldl_append]; rfl
theorem starF_iff (f : Nat → Bool) : ∀ j, starF f j = true ↔ ∃ k, k ≤ j ∧ f k = true
  | 0 => by
    constructor
    · intro h; exact ⟨0, Nat.le_refl _, h⟩
    · rintro ⟨k, h1, h2⟩
      obtain rfl : k = 0 := by omega
      exact h2
  | j + 1 => by
    rw [starF, Bool.or_eq_true, starF_iff f j]
    constructor
    · rintro (h | ⟨k, h1, h2⟩)
      · exact ⟨j + 1, Nat.le_refl _, h⟩
      · exact ⟨k, by omega, h2⟩
    · rintro ⟨k, h1, h2⟩
      by_cases e : k = j + 1
      · subst e; exact .inl h2
      · exact .inr ⟨k, by omega, h2⟩
theorem rowF_len : ∀ (n : Nat) (h p : List UInt8) (j : Nat), p.length = n → j ≤ h.length → (rowF h p j = true ↔ G p (h.take j)) := by
  intro n
  induction n with
  | zero =>
    intro h p j hl hj
    obtain rfl := List.eq_nil_of_length_eq_zero hl
    show (j == 0) = true ↔ h.take j = []
    rw [beq_iff_eq, List.take_eq_nil_iff]
    constructor
    · intro e; exact .inl e
    · rintro (e | e)
      · exact e
      · subst e; simpa using hj
  | succ n ih =>
    intro h p j hl hj
    have h0 : p ≠ [] := by intro e; subst e; simp at hl
    obtain ⟨q, c, rfl⟩ : ∃ q c, p = q ++ [c] := ⟨p.dropLast, p.getLast h0, (List.dropLast_concat_getLast h0).symm⟩
    have hq : q.length = n := by simpa using hl
    rw [rowF_snoc, G_app]
    unfold stepF
    by_cases hc : c = 42
    · subst hc
      rw [if_pos rfl, starF_iff]
      constructor
      · rintro ⟨k, hk, hf⟩
        refine ⟨h.take k, (h.take j).drop k, ?_, (ih h q k hq (by omega)).1 hf, G_any _⟩
        have := (List.take_append_drop k (h.take j)).symm
        rwa [List.take_take, Nat.min_eq_left hk] at this
      · rintro ⟨u, v, e, g, _⟩
        have hl2 := congrArg List.length e
        rw [List.length_take, List.length_append] at hl2
        have hu := congrArg (List.take u.length) e
        rw [List.take_append_of_le_length (Nat.le_refl _), List.take_length, List.take_take, Nat.min_eq_left (by omega)] at hu
        exact ⟨u.length, by omega, (ih h q u.length hq (by omega)).2 (by rw [hu]; exact g)⟩
    · rw [if_neg hc]
      have hcg : ∀ v, G [c] v ↔ v = [c] := fun v => by
        rw [G_sign hc]
        constructor
        · rintro ⟨w, rfl, e⟩; obtain rfl : w = [] := e; rfl
        · rintro rfl; exact ⟨[], rfl, rfl⟩
      cases j with
      | zero =>
        constructor
        · intro e; simp at e
        · rintro ⟨u, v, e, _, g⟩
          rw [(hcg v).1 g] at e
          simp at e
      | succ j =>
        have hlt : j < h.length := by omega
        have ht : h.take (j + 1) = h.take j ++ [h[j]] := List.take_succ_eq_append_getElem hlt
        have hgd : h.getD j 0 = h[j] := by rw [List.getD_eq_getElem?_getD, List.getElem?_eq_getElem hlt]; rfl
        simp only [Nat.add_sub_cancel, hgd, Nat.zero_lt_succ, decide_true, Bool.true_and, Bool.and_eq_true, beq_iff_eq]
        rw [ih h q j hq (by omega)]
        constructor
        · rintro ⟨g, e⟩
          exact ⟨h.take j, [c], by rw [ht, e], g, (hcg _).2 rfl⟩
        · rintro ⟨u, v, e, g, g2⟩
          rw [(hcg v).1 g2, ht] at e
          obtain ⟨e1, e2⟩ := List.append_inj' e rfl
          rw [← e1] at g
          exact ⟨g, by simpa using e2⟩
theorem matchR_iff (p h : List UInt8) : matchR p h = true ↔ G p h := by
  unfold matchR
  rw [rowF_len p.length h p h.length rfl (Nat.le_refl _), List.take_length]
end Go.Proofs.YtpihpoapapfnkaaGreatDoor
