/- head: what the reference reads, as lists: the same as what the program reads. -/
import Derived.Test.YtajclihnoedecaaGreatDoorHdAns
import Derived.Test.YtajclihnoedecaaGreatDoorHsTok2
import Derived.Test.YtajclihnoedecaaGreatDoorHsTrim
set_option maxRecDepth 100000
namespace Go.Proofs.YtajclihnoedecaaGreatDoor
open Go.RowKit
theorem cut_ib (s : List UInt8) (c : UInt8) : Lib.cut s [c] = if 0 ≤ Lib.indexByte s c then (s.take (Lib.indexByte s c).toNat, s.drop ((Lib.indexByte s c).toNat + 1), true) else (s, [], false) := by
  unfold Lib.cut; rw [Lib.index_one]; rfl
theorem all_dropIf (p q : UInt8 → Bool) (h : ∀ x, q x = true → p x = true) (l : List UInt8) : (l.dropWhile q).all p = l.all p := by
  induction l with
  | nil => rfl
  | cons x t ih =>
    rw [List.dropWhile_cons]
    cases hq : q x with
    | true => rw [if_pos rfl, ih, List.all_cons, h x hq, Bool.true_and]
    | false => rfl
theorem all_rev (p : UInt8 → Bool) (l : List UInt8) : l.reverse.all p = l.all p := by
  rw [Bool.eq_iff_iff, List.all_eq_true, List.all_eq_true]; simp
theorem dropWhile_stays (p : UInt8 → Bool) (x : UInt8) (t : List UInt8) (h : p x = false) : (x :: t).dropWhile p = x :: t := by rw [List.dropWhile_cons, h]; rfl
/-- The two ends may be trimmed in either order. -/
theorem trim_swap (p : UInt8 → Bool) (l : List UInt8) : ((l.reverse.dropWhile p).reverse).dropWhile p = ((l.dropWhile p).reverse.dropWhile p).reverse := by
  have hsplit : l = l.takeWhile p ++ l.dropWhile p := (List.takeWhile_append_dropWhile).symm
  have ha : ∀ x ∈ l.takeWhile p, p x = true := fun x hx => by
    have := List.all_takeWhile (p := p) (l := l)
    exact List.all_eq_true.1 this x hx
  obtain ⟨a, ha'⟩ : ∃ a, a = l.takeWhile p := ⟨_, rfl⟩
  rw [← ha'] at hsplit ha
  cases hf : l.dropWhile p with
  | nil =>
    rw [hf, List.append_nil] at hsplit
    have : l.reverse.dropWhile p = [] := by
      rw [dropWhile_all]; rw [all_rev, hsplit]; exact List.all_eq_true.2 ha
    rw [this]; rfl
  | cons x t =>
    have hx : p x = false := by
      have := List.head?_dropWhile_not p l
      rw [hf] at this
      simpa using this
    rw [hf] at hsplit
    have e1 : l.reverse.dropWhile p = (x :: t).reverse.dropWhile p ++ a.reverse := by
      rw [hsplit, List.reverse_append, List.dropWhile_append]
      have hne : ((x :: t).reverse.dropWhile p).isEmpty = false := by
        cases he : (x :: t).reverse.dropWhile p with
        | nil =>
          rw [dropWhile_all, all_rev, List.all_cons, hx] at he
          simp at he
        | cons _ _ => rfl
      rw [hne]; rfl
    rw [e1, List.reverse_append, List.reverse_reverse]
    have e2 : ∃ u, ((x :: t).reverse.dropWhile p).reverse = x :: u := by
      rw [List.reverse_cons, List.dropWhile_append]
      split
      · rw [dropWhile_stays p x [] hx]; exact ⟨[], rfl⟩
      · exact ⟨(t.reverse.dropWhile p).reverse, by simp⟩
    obtain ⟨u, hu⟩ := e2
    rw [hu, List.dropWhile_append]
    have hae : (a.dropWhile p).isEmpty = true := by
      have : a.dropWhile p = [] := by rw [dropWhile_all]; exact List.all_eq_true.2 ha
      rw [this]; rfl
    rw [if_pos hae, dropWhile_stays p x u hx]
theorem bl_contains (c : UInt8) : ([32, 9] : List UInt8).contains c = blB c := by
  unfold blB
  by_cases e1 : c = 32 <;> by_cases e2 : c = 9 <;> simp [e1, e2]
theorem trimS_R (v : List UInt8) : Lib.trimS v [32, 9] = trimR v := by
  have e : ([32, 9] : List UInt8).contains = blB := funext bl_contains
  unfold trimR backL Lib.trimS Lib.trimLeftS Lib.trimRightS
  rw [← trim_swap blB v, ← e]
theorem bl_tx (c : UInt8) (h : blB c = true) : txC c = true := by
  unfold blB at h
  simp only [Bool.or_eq_true, beq_iff_eq] at h
  rcases h with rfl | rfl <;> decide
theorem txt_trim (v : List UInt8) : txtB (Lib.trimS v [32, 9]) = txtB v := by
  rw [trimS_R]
  unfold trimR backL txtB
  rw [all_rev, all_dropIf txC blB bl_tx, all_rev, all_dropIf txC blB bl_tx]
/-- A field line, as the reference reads it. -/
theorem fieldL_ref (x : List UInt8) : fieldL x = if 0 ≤ Lib.indexByte x 58 ∧ tokB (x.take (Lib.indexByte x 58).toNat) = true ∧ txtB (x.drop ((Lib.indexByte x 58).toNat + 1)) = true
    then some (x.take (Lib.indexByte x 58).toNat, trimR (x.drop ((Lib.indexByte x 58).toNat + 1))) else none := by
  unfold fieldL
  rw [cut_ib]
  by_cases h : 0 ≤ Lib.indexByte x 58
  · rw [if_pos h]
    simp only [txt_trim]
    simp only [trimS_R, h, true_and]
  · rw [if_neg h, if_neg (by simp), if_neg (by simp [h])]
theorem has_any_bl (s : List UInt8) : Lib.containsAny s [32, 9] = s.any blB := by
  unfold Lib.containsAny
  induction s with
  | nil => rfl
  | cons b l ih =>
    have hge := Lib.indexAny_ge [32, 9] l
    rw [List.any_cons, Lib.indexAny, bl_contains]
    cases hb : blB b with
    | true => simp
    | false =>
      rw [← ih]
      by_cases h1 : Lib.indexAny l [32, 9] = -1
      · simp [h1]
      · have h2 : 0 ≤ Lib.indexAny l [32, 9] := by omega
        have h3 : 0 ≤ Lib.indexAny l [32, 9] + 1 := by omega
        simp [h1, h2, h3]
theorem se_of (c : UInt8) : (txC c && !blB c) = seB c := by
  rw [txC_se]; unfold blB
  have h32 : seB 32 = false := by decide
  have h9 : seB 9 = false := by decide
  by_cases e1 : c = 32
  · subst e1; simp [h32]
  · by_cases e2 : c = 9
    · subst e2; simp [h9]
    · have b1 : (c == 32) = false := beq_eq_false_iff_ne.2 e1
      have b2 : (c == 9) = false := beq_eq_false_iff_ne.2 e2
      rw [b1, b2]; simp
theorem tgt_se (s : List UInt8) : tgtB s = (!s.isEmpty && s.all seB) := by
  unfold tgtB txtB
  rw [has_any_bl, Bool.and_assoc]
  congr 1
  induction s with
  | nil => rfl
  | cons c t ih =>
    rw [List.all_cons, List.all_cons, List.any_cons, ← ih, ← se_of]
    cases txC c <;> cases blB c <;> simp
/-- A request's line, as the reference reads it. -/
theorem reqT_ref (l : List UInt8) : reqT l = if 0 ≤ Lib.indexByte l 32 ∧ 0 ≤ Lib.indexByte (l.drop ((Lib.indexByte l 32).toNat + 1)) 32 ∧
      (l.drop ((Lib.indexByte l 32).toNat + 1)).drop ((Lib.indexByte (l.drop ((Lib.indexByte l 32).toNat + 1)) 32).toNat + 1) = verS ∧
      tokB (l.take (Lib.indexByte l 32).toNat) = true ∧ tgtB ((l.drop ((Lib.indexByte l 32).toNat + 1)).take (Lib.indexByte (l.drop ((Lib.indexByte l 32).toNat + 1)) 32).toNat) = true
    then (l.take (Lib.indexByte l 32).toNat, (l.drop ((Lib.indexByte l 32).toNat + 1)).take (Lib.indexByte (l.drop ((Lib.indexByte l 32).toNat + 1)) 32).toNat, true) else ([], [], false) := by
  have hd : reqT l = if tokB (Lib.cut l [32]).1 = true ∧ tgtB (Lib.cut (Lib.cut l [32]).2.1 [32]).1 = true ∧ (Lib.cut (Lib.cut l [32]).2.1 [32]).2.1 = verS
      then ((Lib.cut l [32]).1, (Lib.cut (Lib.cut l [32]).2.1 [32]).1, true) else ([], [], false) := by
    unfold reqT reqL
    split <;> (rename_i h; split at h <;> simp_all)
  rw [hd]
  by_cases h1 : 0 ≤ Lib.indexByte l 32
  · have e1 : Lib.cut l [32] = (l.take (Lib.indexByte l 32).toNat, l.drop ((Lib.indexByte l 32).toNat + 1), true) := by rw [cut_ib, if_pos h1]
    rw [e1]
    simp only
    obtain ⟨R, hR⟩ : ∃ R, R = l.drop ((Lib.indexByte l 32).toNat + 1) := ⟨_, rfl⟩
    rw [← hR]
    by_cases h2 : 0 ≤ Lib.indexByte R 32
    · have e2 : Lib.cut R [32] = (R.take (Lib.indexByte R 32).toNat, R.drop ((Lib.indexByte R 32).toNat + 1), true) := by rw [cut_ib, if_pos h2]
      rw [e2]
      simp only [h1, h2, true_and]
      congr 1
      exact propext ⟨fun h => ⟨h.2.2, h.1, h.2.1⟩, fun h => ⟨h.2.1, h.2.2, h.1⟩⟩
    · have e2 : Lib.cut R [32] = (R, [], false) := by rw [cut_ib, if_neg h2]
      rw [e2, if_neg (fun h => by have h3 : ([] : List UInt8) = verS := h.2.2; exact absurd h3 (by decide)), if_neg (fun h => h2 h.2.1)]
  · have e1 : Lib.cut l [32] = (l, [], false) := by rw [cut_ib, if_neg h1]
    have e2 : Lib.cut ([] : List UInt8) [32] = ([], [], false) := by rw [cut_ib]; rfl
    rw [e1, if_neg (fun h => by have := h.2.2; simp only [e2] at this; exact absurd this (by decide)), if_neg (fun h => h1 h.1)]
theorem ib_at : ∀ (s : List UInt8) (c : UInt8) (i : Nat), Lib.indexByte s c = i → s[i]? = some c
  | [], c, i, h => by simp [Lib.indexByte] at h
  | b :: t, c, i, h => by
    have hge := Lib.indexByte_ge t c
    unfold Lib.indexByte at h
    by_cases hb : b = c
    · subst hb
      simp at h
      obtain rfl : i = 0 := by omega
      rfl
    · have hb2 : (b == c) = false := beq_eq_false_iff_ne.2 hb
      by_cases h1 : Lib.indexByte t c = -1
      · simp [hb2, h1] at h
      · simp [hb2, h1] at h
        obtain ⟨k, rfl⟩ : ∃ k, i = k + 1 := ⟨i - 1, by omega⟩
        rw [List.getElem?_cons_succ]
        exact ib_at t c k (by omega)
theorem cut_some (s : List UInt8) (c : UInt8) (h : (Lib.cut s [c]).2.2 = true) : s = (Lib.cut s [c]).1 ++ c :: (Lib.cut s [c]).2.1 := by
  rw [cut_ib] at h ⊢
  by_cases h1 : 0 ≤ Lib.indexByte s c
  · rw [if_pos h1]
    obtain ⟨i, hi⟩ : ∃ i : Nat, Lib.indexByte s c = i := ⟨(Lib.indexByte s c).toNat, by omega⟩
    have hr := Lib.index_room s [c] (by rw [Lib.index_one]; omega)
    rw [Lib.index_one, hi] at hr
    rw [hi]
    have hil : i < s.length := by simp at hr; omega
    have hx : s[i] = c := by
      have := ib_at s c i hi
      rw [List.getElem?_eq_getElem hil] at this
      exact Option.some.inj this
    show s = s.take i ++ c :: s.drop (i + 1)
    rw [← hx, ← List.drop_eq_getElem_cons hil, List.take_append_drop]
  · rw [if_neg h1] at h
    exact Bool.noConfusion h
theorem cut_of (a r : List UInt8) (c : UInt8) (h : ∀ x ∈ a, x ≠ c) : Lib.cut (a ++ c :: r) [c] = (a, r, true) := by
  have hib : Lib.indexByte (a ++ c :: r) c = a.length := by
    refine ib_hit _ c a.length (fun j hj e => ?_) ?_
    · rw [List.getElem?_append_left hj] at e
      exact h c (List.mem_of_getElem? e) rfl
    · rw [List.getElem?_append_right (Nat.le_refl _)]; simp
  rw [cut_ib, hib, if_pos (by omega)]
  simp
def ver9 : List UInt8 := [72, 84, 84, 80, 47, 49, 46, 49, 32]
def dg (x : UInt8) : Nat := x.toNat - 48
def stN (l : List UInt8) : Nat := 10 * (10 * (10 * 0 + dg (l.getD 9 0)) + dg (l.getD 10 0)) + dg (l.getD 11 0)
/-- What an answer's line must be, place by place. -/
def stP (l : List UInt8) : Prop := 13 ≤ l.length ∧ l.take 9 = ver9 ∧ l.getD 12 0 = 32 ∧ (isD (l.getD 9 0) = true ∧ isD (l.getD 10 0) = true ∧ isD (l.getD 11 0) = true) ∧ 100 ≤ stN l ∧ txtB (l.drop 13) = true
theorem valD_from2 : ∀ (l : List UInt8) (acc : Nat), l.all isD = true → l.foldl (fun n c => 10 * n + (c.toNat - 48)) acc + 1 ≤ (acc + 1) * 10 ^ l.length
  | [], acc, _ => by simp
  | b :: r, acc, h => by
    rw [List.all_cons, Bool.and_eq_true] at h
    have hc := h.1
    unfold isD at hc
    simp only [Bool.and_eq_true, decide_eq_true_eq] at hc
    have h1 := valD_from2 r (10 * acc + (b.toNat - 48)) h.2
    have h2 : (10 * acc + (b.toNat - 48) + 1) * 10 ^ r.length ≤ ((acc + 1) * 10) * 10 ^ r.length := Nat.mul_le_mul_right _ (by omega)
    rw [List.foldl_cons, List.length_cons, Nat.pow_succ, Nat.mul_comm (10 ^ r.length) 10, ← Nat.mul_assoc]
    exact Nat.le_trans h1 h2
theorem valD_lt2 (l : List UInt8) (h : l.all isD = true) : valD l < 10 ^ l.length := by
  have := valD_from2 l 0 h
  unfold valD
  omega
theorem decP_100 (s : List UInt8) : decP s 100 999 = if s.length ≤ 3 ∧ s.all isD = true ∧ 100 ≤ valD s ∧ valD s ≤ 999 then (((valD s : Nat) : Int), true) else (0, false) := by
  have h1 : decP s 1 999 = portP s 2 999 := decP_port s 2 999 (by decide) (by decide)
  have h2 : decP s 100 999 = if (decP s 1 999).2 = true ∧ 100 ≤ (decP s 1 999).1 then decP s 1 999 else (0, false) := by
    unfold decP
    rcases ends (Lib.atoiAll s) with ⟨v, hat⟩ | hat | hat
    · rw [hat]
      by_cases a : Lib.itoa v = s ∧ 1 ≤ v ∧ v ≤ 999
      · simp only [if_pos a]
        by_cases b : 100 ≤ v
        · rw [if_pos ⟨a.1, b, a.2.2⟩, if_pos ⟨trivial, b⟩]
        · rw [if_neg (fun h => b h.2.1), if_neg (fun h => b h.2)]
      · simp only [if_neg a]
        rw [if_neg (fun h => a ⟨h.1, by omega, h.2.2⟩), if_neg (by simp)]
    · rw [hat]; simp
    · rw [hat]; simp
  rw [h2, h1]
  unfold portP
  by_cases a : 1 ≤ s.length ∧ s.length ≤ 2 + 1 ∧ s.head? ≠ some 48 ∧ s.all isD = true ∧ valD s ≤ 999
  · rw [if_pos a]
    by_cases b : 100 ≤ valD s
    · rw [if_pos ⟨rfl, by show (100 : Int) ≤ ((valD s : Nat) : Int); omega⟩, if_pos ⟨by omega, a.2.2.2.1, b, a.2.2.2.2⟩]
    · rw [if_neg (fun h => b (by have : (100 : Int) ≤ ((valD s : Nat) : Int) := h.2; omega)), if_neg (fun h => b h.2.2.1)]
  · rw [if_neg a, if_neg (by simp)]
    rw [if_neg]
    rintro ⟨b1, b2, b3, b4⟩
    apply a
    have hne : s ≠ [] := by intro e; subst e; exact absurd b3 (by decide)
    refine ⟨List.length_pos_iff.2 hne, by omega, ?_, b2, b4⟩
    intro e
    obtain ⟨x, t, rfl⟩ : ∃ x t, s = x :: t := by cases s; exact absurd rfl hne; exact ⟨_, _, rfl⟩
    simp at e
    subst e
    have h3 : valD (48 :: t) = valD t := rfl
    rw [List.all_cons, Bool.and_eq_true] at b2
    have h4 := valD_lt2 t b2.2
    have h5 : 10 ^ t.length ≤ 10 ^ 2 := Nat.pow_le_pow_right (by decide) (by simp at b1; omega)
    rw [h3] at b3
    omega
theorem three (D : List UInt8) (h1 : D.length ≤ 3) (h2 : D.all isD = true) (h3 : 100 ≤ valD D) : ∃ a b c, D = [a, b, c] := by
  have h4 := valD_lt2 D h2
  have h5 : ¬ D.length ≤ 2 := fun h => by
    have : 10 ^ D.length ≤ 10 ^ 2 := Nat.pow_le_pow_right (by decide) h
    omega
  match D, h1, h5 with
  | [a, b, c], _, _ => exact ⟨a, b, c, rfl⟩
  | [], _, h => simp at h
  | [_], _, h => simp at h
  | [_, _], _, h => simp at h
  | _ :: _ :: _ :: _ :: _, h, _ => simp at h
theorem d_ne32 (x : UInt8) (h : isD x = true) : x ≠ 32 := fun e => by subst e; exact absurd h (by decide)
theorem ansT_ref (l : List UInt8) : (stP l → ansT l = ((stN l : Int), l.drop 13, true)) ∧ (¬ stP l → ansT l = (0, [], false)) := by
  refine ⟨fun h => ?_, fun h => ?_⟩
  · obtain ⟨h1, h2, h3, ⟨d1, d2, d3⟩, h4, h5⟩ := h
    obtain ⟨a, b, c, r, hl⟩ : ∃ a b c r, l = verS ++ 32 :: ([a, b, c] ++ 32 :: r) := by
      refine ⟨l.getD 9 0, l.getD 10 0, l.getD 11 0, l.drop 13, ?_⟩
      have e0 : l = l.take 9 ++ l.drop 9 := (List.take_append_drop 9 l).symm
      have g : ∀ k, k < l.length → l.drop k = l.getD k 0 :: l.drop (k + 1) := fun k hk => by
        rw [List.drop_eq_getElem_cons hk, List.getD_eq_getElem?_getD, List.getElem?_eq_getElem hk]; rfl
      have e1 : l.drop 9 = [l.getD 9 0, l.getD 10 0, l.getD 11 0] ++ 32 :: l.drop 13 := by
        rw [g 9 (by omega), g 10 (by omega), g 11 (by omega), g 12 (by omega), h3]; rfl
      rw [h2, e1] at e0
      exact e0
    subst hl
    have c1 : Lib.cut (verS ++ 32 :: ([a, b, c] ++ 32 :: r)) [32] = (verS, [a, b, c] ++ 32 :: r, true) := cut_of verS _ 32 (by decide)
    have hd1 : isD a = true := d1
    have hd2 : isD b = true := d2
    have hd3 : isD c = true := d3
    have c2 : Lib.cut ([a, b, c] ++ 32 :: r) [32] = ([a, b, c], r, true) := cut_of [a, b, c] r 32 (by
      intro x hx
      simp at hx
      rcases hx with rfl | rfl | rfl
      · exact d_ne32 _ hd1
      · exact d_ne32 _ hd2
      · exact d_ne32 _ hd3)
    have hv : valD [a, b, c] = stN (verS ++ 32 :: ([a, b, c] ++ 32 :: r)) := rfl
    have hall : [a, b, c].all isD = true := by simp [hd1, hd2, hd3]
    have hlt := valD_lt2 [a, b, c] hall
    have c3 : decP [a, b, c] 100 999 = (((valD [a, b, c] : Nat) : Int), true) := by
      rw [decP_100, if_pos ⟨by simp, hall, by rw [hv]; exact h4, by simp at hlt; omega⟩]
    have h6 : txtB r = true := h5
    unfold ansT
    rw [c1]
    simp only
    rw [c2]
    simp only
    rw [c3, if_pos ⟨by first | rfl | trivial, by first | rfl | trivial, by first | rfl | trivial, h6⟩, hv]
    rfl
  · unfold ansT
    rw [if_neg]
    rintro ⟨c1, c2, c3, c4⟩
    apply h
    have hb1 : (Lib.cut l [32]).2.2 = true := by
      cases e : (Lib.cut l [32]).2.2 with
      | true => rfl
      | false =>
        have : (Lib.cut l [32]).2.1 = [] := by
          rw [cut_ib] at e ⊢
          by_cases h1 : 0 ≤ Lib.indexByte l 32
          · rw [if_pos h1] at e; cases e
          · rw [if_neg h1]
        rw [this] at c2
        exact absurd c2 (by decide)
    have e1 := cut_some l 32 hb1
    have e2 := cut_some (Lib.cut l [32]).2.1 32 c2
    obtain ⟨R, hR⟩ : ∃ R, R = (Lib.cut l [32]).2.1 := ⟨_, rfl⟩
    rw [c1, ← hR] at e1
    rw [← hR] at e2 c3 c4
    obtain ⟨D, X, hDX⟩ : ∃ D X, D = (Lib.cut R [32]).1 ∧ X = (Lib.cut R [32]).2.1 := ⟨_, _, rfl, rfl⟩
    rw [← hDX.1, ← hDX.2] at e2
    rw [← hDX.1] at c3
    rw [← hDX.2] at c4
    rw [decP_100] at c3
    by_cases hc : D.length ≤ 3 ∧ D.all isD = true ∧ 100 ≤ valD D ∧ valD D ≤ 999
    · obtain ⟨a, b, c, rfl⟩ := three D hc.1 hc.2.1 hc.2.2.1
      have hall := hc.2.1
      simp at hall
      rw [e2] at e1
      subst e1
      exact ⟨by simp [verS], rfl, rfl, ⟨hall.1, hall.2.1, hall.2.2⟩, hc.2.2.1, c4⟩
    · rw [if_neg hc] at c3; cases c3
end Go.Proofs.YtajclihnoedecaaGreatDoor
