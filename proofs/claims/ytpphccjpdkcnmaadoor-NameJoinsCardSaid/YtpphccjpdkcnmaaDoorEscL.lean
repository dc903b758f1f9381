/- Escaping of commas and signs of equality, as lists: the library's two passes are one pass over the text. Nothing of the program is imported. -/
import Derived.Lib.Replace
import Derived.Lib.CountLaws
import Derived.Lib.IndexMore
namespace Go.Proofs.YtpphccjpdkcnmaaDoor
theorem ix_hit {s sub : List UInt8} (h : sub.isPrefixOf s = true) : Lib.index s sub = 0 := by
  cases s with
  | nil =>
    cases sub with
    | nil => rfl
    | cons => simp at h
  | cons b t => unfold Lib.index; rw [if_pos h]
theorem ix_miss {b : UInt8} {t sub : List UInt8} (h : sub.isPrefixOf (b :: t) = false) : Lib.index (b :: t) sub = if Lib.index t sub == -1 then -1 else Lib.index t sub + 1 := by
  conv => lhs; unfold Lib.index
  rw [if_neg (by simp [h])]
theorem ct_miss {b : UInt8} {t sub : List UInt8} (hs : sub ≠ []) (h : sub.isPrefixOf (b :: t) = false) : Lib.count (b :: t) sub = Lib.count t sub := by
  have hi := ix_miss h
  by_cases hm : Lib.index t sub = -1
  · rw [hm] at hi
    rw [Lib.count_miss hm, Lib.count_miss hi]
  · obtain ⟨i, he⟩ : ∃ i : Nat, Lib.index t sub = i := ⟨(Lib.index t sub).toNat, by have := Lib.index_ge t sub; omega⟩
    rw [if_neg (by simp [hm]), he] at hi
    rw [Lib.count_hit hs he, Lib.count_hit (i := i + 1) hs (by rw [hi]; rfl)]
    rw [show i + 1 + sub.length = (i + sub.length) + 1 by omega, List.drop_succ_cons]
theorem ct_hit {s sub : List UInt8} (hs : sub ≠ []) (h : sub.isPrefixOf s = true) : Lib.count s sub = 1 + Lib.count (s.drop sub.length) sub := by
  have := Lib.count_hit (i := 0) hs (ix_hit h)
  rwa [Nat.zero_add] at this
theorem ct_nil {sub : List UInt8} (hs : sub ≠ []) : Lib.count [] sub = 0 := by
  refine Lib.count_miss ?_
  cases sub with
  | nil => exact absurd rfl hs
  | cons => rfl
theorem rk_miss {b : UInt8} {t sub new : List UInt8} (h : sub.isPrefixOf (b :: t) = false) (k : Nat) : Lib.replaceK sub new k (b :: t) = b :: Lib.replaceK sub new k t := by
  cases k with
  | zero => rfl
  | succ k =>
    have hi := ix_miss h
    by_cases hm : Lib.index t sub = -1
    · rw [hm] at hi
      conv => lhs; unfold Lib.replaceK
      conv => rhs; unfold Lib.replaceK
      rw [hi, hm]; rfl
    · obtain ⟨i, he⟩ : ∃ i : Nat, Lib.index t sub = i := ⟨(Lib.index t sub).toNat, by have := Lib.index_ge t sub; omega⟩
      rw [if_neg (by simp [hm]), he] at hi
      rw [Lib.replaceK_hit sub new k t i he, Lib.replaceK_hit sub new k (b :: t) (i + 1) (by rw [hi]; rfl)]
      rw [show i + 1 + sub.length = (i + sub.length) + 1 by omega, List.drop_succ_cons]
      simp
/-- All instances replaced. -/
def rA (sub new s : List UInt8) : List UInt8 := Lib.replaceK sub new (Lib.count s sub) s
theorem rA_all {s sub new : List UInt8} (h : (sub == new) = false) : Lib.replaceAll s sub new = rA sub new s := by
  unfold Lib.replaceAll Lib.replace Lib.replaceNum rA
  rw [if_neg (by simp [h]), if_pos (Or.inl (by decide))]
theorem rA_nil (sub new : List UInt8) (hs : sub ≠ []) : rA sub new [] = [] := by
  unfold rA; rw [ct_nil hs]; rfl
theorem rA_miss {b : UInt8} {t sub new : List UInt8} (hs : sub ≠ []) (h : sub.isPrefixOf (b :: t) = false) : rA sub new (b :: t) = b :: rA sub new t := by
  unfold rA; rw [ct_miss hs h, rk_miss h]
theorem rA_hit {s sub new : List UInt8} (hs : sub ≠ []) (h : sub.isPrefixOf s = true) : rA sub new s = new ++ rA sub new (s.drop sub.length) := by
  unfold rA
  rw [ct_hit hs h, Nat.add_comm, Lib.replaceK_hit sub new _ s 0 (ix_hit h), List.take_zero, List.nil_append, Nat.zero_add]
/-- One pass: a comma and a sign of equality are escaped. -/
def escL : List UInt8 → List UInt8
  | [] => []
  | b :: t => (if b = 44 then [61, 50, 67] else if b = 61 then [61, 51, 68] else [b]) ++ escL t
theorem pre_one (c b : UInt8) (t : List UInt8) : ([c] : List UInt8).isPrefixOf (b :: t) = (c == b) := by simp [List.isPrefixOf]
theorem esc_two (s : List UInt8) : rA [44] [61, 50, 67] (rA [61] [61, 51, 68] s) = escL s := by
  induction s with
  | nil => rw [rA_nil _ _ (by decide), rA_nil _ _ (by decide)]; rfl
  | cons b t ih =>
    by_cases h1 : b = 61
    · subst h1
      rw [rA_hit (s := 61 :: t) (sub := [61]) (by decide) (by rw [pre_one]; rfl)]
      show rA [44] [61, 50, 67] (61 :: 51 :: 68 :: rA [61] [61, 51, 68] t) = _
      rw [rA_miss (by decide) (by simp [List.isPrefixOf]), rA_miss (by decide) (by simp [List.isPrefixOf]), rA_miss (by decide) (by simp [List.isPrefixOf]), ih]
      rfl
    · rw [rA_miss (b := b) (t := t) (by decide) (by rw [pre_one]; simpa using Ne.symm h1)]
      by_cases h2 : b = 44
      · subst h2
        rw [rA_hit (s := 44 :: rA [61] [61, 51, 68] t) (sub := [44]) (by decide) (by rw [pre_one]; rfl)]
        show [61, 50, 67] ++ rA [44] [61, 50, 67] (rA [61] [61, 51, 68] t) = _
        rw [ih]; rfl
      · rw [rA_miss (b := b) (by decide) (by rw [pre_one]; simpa using Ne.symm h2), ih]
        show _ = (if b = 44 then [61, 50, 67] else if b = 61 then [61, 51, 68] else [b]) ++ escL t
        rw [if_neg h2, if_neg h1]; rfl
/-- Back: none where a sign of equality begins no escape. -/
def unL : List UInt8 → Option (List UInt8)
  | 61 :: 50 :: 67 :: t => (unL t).map (44 :: ·)
  | 61 :: 51 :: 68 :: t => (unL t).map (61 :: ·)
  | [] => some []
  | b :: t => if b = 61 then none else (unL t).map (b :: ·)
theorem unL_other (b : UInt8) (t : List UInt8) (h : b ≠ 61) : unL (b :: t) = (unL t).map (b :: ·) := by
  rw [unL, if_neg h]
  · intro t' e; exact absurd (by cases e; rfl) h
  · intro t' e; exact absurd (by cases e; rfl) h
theorem unL_esc (s : List UInt8) : unL (escL s) = some s := by
  induction s with
  | nil => rfl
  | cons b t ih =>
    unfold escL
    by_cases h2 : b = 44
    · subst h2; rw [if_pos rfl]; show unL (61 :: 50 :: 67 :: escL t) = _; rw [unL, ih]; rfl
    · rw [if_neg h2]
      by_cases h1 : b = 61
      · subst h1; rw [if_pos rfl]; show unL (61 :: 51 :: 68 :: escL t) = _; rw [unL, ih]; rfl
      · rw [if_neg h1]; show unL (b :: escL t) = _; rw [unL_other b _ h1, ih]; rfl
theorem esc_noComma (s : List UInt8) : (44 : UInt8) ∉ escL s := by
  induction s with
  | nil => simp [escL]
  | cons b t ih =>
    unfold escL
    by_cases h2 : b = 44
    · rw [if_pos h2]; simp [ih]
    · rw [if_neg h2]
      by_cases h1 : b = 61
      · rw [if_pos h1]; simp [ih]
      · rw [if_neg h1]; simp [ih, Ne.symm h2]
/-- The three ways in which a list begins. -/
theorem unL_cases (s : List UInt8) : s = [] ∨ (∃ t, s = 61 :: 50 :: 67 :: t) ∨ (∃ t, s = 61 :: 51 :: 68 :: t) ∨ (∃ t, s = 61 :: t ∧ unL s = none ∧ ([61, 50, 67] : List UInt8).isPrefixOf s = false ∧ ([61, 51, 68] : List UInt8).isPrefixOf s = false) ∨ (∃ b t, s = b :: t ∧ b ≠ 61) := by
  cases s with
  | nil => exact .inl rfl
  | cons b t =>
    by_cases h : b = 61
    · subst h
      by_cases h1 : ([61, 50, 67] : List UInt8).isPrefixOf (61 :: t) = true
      · obtain ⟨r, hr⟩ := List.isPrefixOf_iff_prefix.1 h1
        exact .inr (.inl ⟨r, by rw [← hr]; rfl⟩)
      · by_cases h2 : ([61, 51, 68] : List UInt8).isPrefixOf (61 :: t) = true
        · obtain ⟨r, hr⟩ := List.isPrefixOf_iff_prefix.1 h2
          exact .inr (.inr (.inl ⟨r, by rw [← hr]; rfl⟩))
        · refine .inr (.inr (.inr (.inl ⟨t, rfl, ?_, by simpa only [Bool.not_eq_true] using h1, by simpa only [Bool.not_eq_true] using h2⟩)))
          rw [unL, if_pos rfl]
          · intro t' _ e; exact h1 (by rw [e]; simp [List.isPrefixOf])
          · intro t' _ e; exact h2 (by rw [e]; simp [List.isPrefixOf])
    · exact .inr (.inr (.inr (.inr ⟨b, t, rfl, h⟩)))
theorem unL_2c (t : List UInt8) : unL (61 :: 50 :: 67 :: t) = (unL t).map (44 :: ·) := by rw [unL]
theorem unL_3d (t : List UInt8) : unL (61 :: 51 :: 68 :: t) = (unL t).map (61 :: ·) := by rw [unL]
/-- What the library counts: every sign of equality begins an escape just if there is a way back. -/
theorem un_count : ∀ (n : Nat) (s : List UInt8), s.length ≤ n → Lib.count s [61, 50, 67] + Lib.count s [61, 51, 68] ≤ Lib.count s [61] ∧
    ((unL s).isSome = true ↔ Lib.count s [61] = Lib.count s [61, 50, 67] + Lib.count s [61, 51, 68]) := by
  intro n
  induction n with
  | zero =>
    intro s hs
    obtain rfl := List.eq_nil_of_length_eq_zero (Nat.le_zero.1 hs)
    rw [ct_nil (by decide), ct_nil (by decide), ct_nil (by decide)]
    exact ⟨Nat.le_refl _, fun _ => rfl, fun _ => rfl⟩
  | succ n ih =>
    intro s hs
    rcases unL_cases s with rfl | ⟨t, rfl⟩ | ⟨t, rfl⟩ | ⟨t, rfl, hu, p1, p2⟩ | ⟨b, t, rfl, hb⟩
    · rw [ct_nil (by decide), ct_nil (by decide), ct_nil (by decide)]
      exact ⟨Nat.le_refl _, fun _ => rfl, fun _ => rfl⟩
    · have h := ih t (by simp at hs; omega)
      have e1 : Lib.count (61 :: 50 :: 67 :: t) [61, 50, 67] = 1 + Lib.count t [61, 50, 67] := ct_hit (s := 61 :: 50 :: 67 :: t) (by decide) (by simp [List.isPrefixOf])
      have e2 : Lib.count (61 :: 50 :: 67 :: t) [61, 51, 68] = Lib.count t [61, 51, 68] := by
        rw [ct_miss (by decide) (by simp [List.isPrefixOf]), ct_miss (by decide) (by simp [List.isPrefixOf]), ct_miss (by decide) (by simp [List.isPrefixOf])]
      have e3 : Lib.count (61 :: 50 :: 67 :: t) [61] = 1 + Lib.count t [61] := by
        have e0 : Lib.count (61 :: 50 :: 67 :: t) [61] = 1 + Lib.count (50 :: 67 :: t) [61] := ct_hit (s := 61 :: 50 :: 67 :: t) (by decide) (by simp [List.isPrefixOf])
        rw [e0, ct_miss (by decide) (by simp [List.isPrefixOf]), ct_miss (by decide) (by simp [List.isPrefixOf])]
      rw [e1, e2, e3, unL_2c, Option.isSome_map]
      exact ⟨by omega, fun q => by have := h.2.1 q; omega, fun q => h.2.2 (by omega)⟩
    · have h := ih t (by simp at hs; omega)
      have e1 : Lib.count (61 :: 51 :: 68 :: t) [61, 51, 68] = 1 + Lib.count t [61, 51, 68] := ct_hit (s := 61 :: 51 :: 68 :: t) (by decide) (by simp [List.isPrefixOf])
      have e2 : Lib.count (61 :: 51 :: 68 :: t) [61, 50, 67] = Lib.count t [61, 50, 67] := by
        rw [ct_miss (by decide) (by simp [List.isPrefixOf]), ct_miss (by decide) (by simp [List.isPrefixOf]), ct_miss (by decide) (by simp [List.isPrefixOf])]
      have e3 : Lib.count (61 :: 51 :: 68 :: t) [61] = 1 + Lib.count t [61] := by
        have e0 : Lib.count (61 :: 51 :: 68 :: t) [61] = 1 + Lib.count (51 :: 68 :: t) [61] := ct_hit (s := 61 :: 51 :: 68 :: t) (by decide) (by simp [List.isPrefixOf])
        rw [e0, ct_miss (by decide) (by simp [List.isPrefixOf]), ct_miss (by decide) (by simp [List.isPrefixOf])]
      rw [e1, e2, e3, unL_3d, Option.isSome_map]
      exact ⟨by omega, fun q => by have := h.2.1 q; omega, fun q => h.2.2 (by omega)⟩
    · have h := ih t (by simp at hs; omega)
      have e3 : Lib.count (61 :: t) [61] = 1 + Lib.count t [61] := ct_hit (s := 61 :: t) (by decide) (by simp [List.isPrefixOf])
      rw [e3, ct_miss (by decide) p1, ct_miss (by decide) p2, hu]
      exact ⟨by omega, Iff.intro (fun q => by simp at q) (fun q => by have := h.1; exfalso; omega)⟩
    · have h := ih t (by simp at hs; omega)
      have q : ∀ l : List UInt8, (61 :: l : List UInt8).isPrefixOf (b :: t) = false := fun l => by
        have : (61 == b) = false := by simpa using Ne.symm hb
        simp only [List.isPrefixOf, this, Bool.false_and]
      rw [ct_miss (by decide) (q _), ct_miss (by decide) (q _), ct_miss (by decide) (q _), unL_other b t hb, Option.isSome_map]
      exact h
/-- The two passes back are one. -/
theorem un_two : ∀ (n : Nat) (s r : List UInt8), s.length ≤ n → unL s = some r → rA [61, 51, 68] [61] (rA [61, 50, 67] [44] s) = r := by
  intro n
  induction n with
  | zero =>
    intro s r hs h
    obtain rfl := List.eq_nil_of_length_eq_zero (Nat.le_zero.1 hs)
    cases h
    rw [rA_nil _ _ (by decide), rA_nil _ _ (by decide)]
  | succ n ih =>
    intro s r hs h
    rcases unL_cases s with rfl | ⟨t, rfl⟩ | ⟨t, rfl⟩ | ⟨t, rfl, hu, p1, p2⟩ | ⟨b, t, rfl, hb⟩
    · cases h
      rw [rA_nil _ _ (by decide), rA_nil _ _ (by decide)]
    · rw [unL_2c, Option.map_eq_some_iff] at h
      obtain ⟨r', h, rfl⟩ := h
      have := ih t r' (by simp at hs; omega) h
      have e : rA [61, 50, 67] [44] (61 :: 50 :: 67 :: t) = [44] ++ rA [61, 50, 67] [44] t := rA_hit (s := 61 :: 50 :: 67 :: t) (by decide) (by simp [List.isPrefixOf])
      rw [e]
      show rA [61, 51, 68] [61] (44 :: rA [61, 50, 67] [44] t) = _
      rw [rA_miss (by decide) (by simp [List.isPrefixOf]), this]
    · rw [unL_3d, Option.map_eq_some_iff] at h
      obtain ⟨r', h, rfl⟩ := h
      have := ih t r' (by simp at hs; omega) h
      have e : rA [61, 50, 67] [44] (61 :: 51 :: 68 :: t) = 61 :: 51 :: 68 :: rA [61, 50, 67] [44] t := by
        rw [rA_miss (by decide) (by simp [List.isPrefixOf]), rA_miss (by decide) (by simp [List.isPrefixOf]), rA_miss (by decide) (by simp [List.isPrefixOf])]
      have e2 : rA [61, 51, 68] [61] (61 :: 51 :: 68 :: rA [61, 50, 67] [44] t) = [61] ++ rA [61, 51, 68] [61] (rA [61, 50, 67] [44] t) := rA_hit (s := 61 :: 51 :: 68 :: rA [61, 50, 67] [44] t) (by decide) (by simp [List.isPrefixOf])
      rw [e, e2, this]; rfl
    · rw [hu] at h; cases h
    · rw [unL_other b t hb, Option.map_eq_some_iff] at h
      obtain ⟨r', h, rfl⟩ := h
      have := ih t r' (by simp at hs; omega) h
      have q : ∀ (l u : List UInt8), (61 :: l : List UInt8).isPrefixOf (b :: u) = false := fun l u => by
        have : (61 == b) = false := by simpa using Ne.symm hb
        simp only [List.isPrefixOf, this, Bool.false_and]
      rw [rA_miss (by decide) (q _ _), rA_miss (by decide) (q _ _), this]
/-- What comes back of a text without a comma is escaped as it was. -/
theorem esc_un : ∀ (n : Nat) (s r : List UInt8), s.length ≤ n → unL s = some r → (44 : UInt8) ∉ s → escL r = s := by
  intro n
  induction n with
  | zero =>
    intro s r hs h _
    obtain rfl := List.eq_nil_of_length_eq_zero (Nat.le_zero.1 hs)
    cases h; rfl
  | succ n ih =>
    intro s r hs h hc
    rcases unL_cases s with rfl | ⟨t, rfl⟩ | ⟨t, rfl⟩ | ⟨t, rfl, hu, p1, p2⟩ | ⟨b, t, rfl, hb⟩
    · cases h; rfl
    · rw [unL_2c, Option.map_eq_some_iff] at h
      obtain ⟨r', h, rfl⟩ := h
      show [61, 50, 67] ++ escL r' = _
      rw [ih t r' (by simp at hs; omega) h (fun e => hc (by simp [e]))]; rfl
    · rw [unL_3d, Option.map_eq_some_iff] at h
      obtain ⟨r', h, rfl⟩ := h
      show [61, 51, 68] ++ escL r' = _
      rw [ih t r' (by simp at hs; omega) h (fun e => hc (by simp [e]))]; rfl
    · rw [hu] at h; cases h
    · rw [unL_other b t hb, Option.map_eq_some_iff] at h
      obtain ⟨r', h, rfl⟩ := h
      have hb2 : b ≠ 44 := fun e => hc (by simp [e])
      show (if b = 44 then [61, 50, 67] else if b = 61 then [61, 51, 68] else [b]) ++ escL r' = _
      rw [if_neg hb2, if_neg hb, ih t r' (by simp at hs; omega) h (fun e => hc (by simp [e]))]; rfl
theorem rA_one_len (c x y z : UInt8) (s : List UInt8) : (rA [c] [x, y, z] s).length ≤ 3 * s.length := by
  induction s with
  | nil => rw [rA_nil _ _ (by simp)]; simp
  | cons b t ih =>
    by_cases h : c = b
    · subst h
      rw [rA_hit (s := c :: t) (sub := [c]) (by simp) (by rw [pre_one]; simp), List.length_append]
      simp only [List.length_cons, List.length_nil, List.drop_succ_cons, List.drop_zero]
      omega
    · rw [rA_miss (by simp) (by rw [pre_one]; simpa using h), List.length_cons, List.length_cons]
      omega
theorem rA_shrink (sub new : List UInt8) (hs : sub ≠ []) (hn : new.length ≤ sub.length) : ∀ (n : Nat) (s : List UInt8), s.length ≤ n → (rA sub new s).length ≤ s.length := by
  intro n
  induction n with
  | zero =>
    intro s h
    obtain rfl := List.eq_nil_of_length_eq_zero (Nat.le_zero.1 h)
    rw [rA_nil _ _ hs]; simp
  | succ n ih =>
    intro s h
    have hl : 1 ≤ sub.length := by cases sub with
      | nil => exact absurd rfl hs
      | cons => simp
    by_cases hp : sub.isPrefixOf s = true
    · have h2 : sub.length ≤ s.length := by
        obtain ⟨r, hr⟩ := List.isPrefixOf_iff_prefix.1 hp
        rw [← hr, List.length_append]; omega
      rw [rA_hit hs hp, List.length_append]
      have := ih (s.drop sub.length) (by rw [List.length_drop]; omega)
      rw [List.length_drop] at this
      omega
    · cases s with
      | nil => rw [rA_nil _ _ hs]; simp
      | cons b t =>
        rw [rA_miss hs (by simpa only [Bool.not_eq_true] using hp), List.length_cons, List.length_cons]
        have := ih t (by simp at h; omega)
        omega
theorem has_comma (s : List UInt8) : Lib.contains s [44] = s.contains 44 := by
  induction s with
  | nil => rfl
  | cons b t ih =>
    unfold Lib.contains at ih ⊢
    by_cases h : b = 44
    · subst h
      rw [ix_hit (s := 44 :: t) (by rw [pre_one]; rfl)]
      simp
    · have hm : ([44] : List UInt8).isPrefixOf (b :: t) = false := by rw [pre_one]; simpa using Ne.symm h
      rw [ix_miss hm]
      have hge := Lib.index_ge t [44]
      rw [List.contains_cons, show ((44 : UInt8) == b) = false by simpa using Ne.symm h, Bool.false_or, ← ih]
      split
      · rename_i e; rw [beq_iff_eq] at e; rw [e]
      · rename_i e; rw [beq_iff_eq] at e
        rw [decide_eq_decide]; omega
theorem escL_length (s : List UInt8) : (escL s).length ≤ 3 * s.length := by
  induction s with
  | nil => simp [escL]
  | cons b t ih =>
    show ((if b = 44 then [61, 50, 67] else if b = 61 then [61, 51, 68] else [b]) ++ escL t).length ≤ _
    rw [List.length_append, List.length_cons]
    split
    · simp; omega
    · split <;> (simp; omega)
end Go.Proofs.YtpphccjpdkcnmaaDoor
