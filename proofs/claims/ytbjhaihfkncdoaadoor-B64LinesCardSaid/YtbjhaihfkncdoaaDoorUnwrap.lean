/- b64.Unwrap. -/
import Derived.Test.YtbjhaihfkncdoaaDoorWrap
import Derived.Test.YtbjhaihfkncdoaaDoorShelf
import Derived.Test.YtbjhaihfkncdoaaDoorShelf2
import Derived.Shelf.Strings.SlTrimAscii
namespace Go.Proofs.YtbjhaihfkncdoaaDoor
open Go.RowKit Go.Shelf
theorem replaceK_cons (b : UInt8) (hb : b ≠ 10) (k : Nat) (t : List UInt8) : Lib.replaceK [10] [] k (b :: t) = b :: Lib.replaceK [10] [] k t := by
  cases k with
  | zero => rfl
  | succ k =>
    have h : Lib.index (b :: t) [10] = if Lib.index t [10] = -1 then -1 else Lib.index t [10] + 1 := by
      rw [Lib.index_one, Lib.index_one]
      simp [Lib.indexByte, hb]
    have hge := Lib.indexByte_ge t 10
    rw [← Lib.index_one] at hge
    by_cases hi : Lib.index t [10] = -1
    · rw [if_pos hi] at h
      unfold Lib.replaceK
      rw [h, hi]; rfl
    · rw [if_neg hi] at h
      obtain ⟨i, hi2⟩ : ∃ i : Nat, Lib.index t [10] = i := ⟨(Lib.index t [10]).toNat, by omega⟩
      rw [hi2] at h
      rw [Lib.replaceK_hit [10] [] k t i hi2, Lib.replaceK_hit [10] [] k (b :: t) (i + 1) (by rw [h]; rfl)]
      simp
theorem replaceK_all (s : List UInt8) : Lib.replaceK [10] [] (s.count 10) s = s.filter (· != 10) := by
  induction s with
  | nil => rfl
  | cons b t ih =>
    by_cases hb : b = 10
    · subst hb
      rw [List.count_cons_self, Lib.replaceK_hit [10] [] (t.count 10) (10 :: t) 0 (by rw [Lib.index_one]; rfl)]
      simp [ih]
    · rw [replaceK_cons b hb, List.count_cons_of_ne (Ne.symm (Ne.symm hb)), ih, List.filter_cons_of_pos (by simpa using hb)]
theorem replaceAll_nl (s : List UInt8) : Lib.replaceAll s [10] [] = s.filter (· != 10) := by
  unfold Lib.replaceAll Lib.replace Lib.replaceNum
  rw [if_neg (by decide), if_pos (Or.inl (by decide)), Lib.count_one]
  exact replaceK_all s
/-- The signs of letters, with the filler. -/
def alF : List UInt8 := alS ++ [61]
theorem trim_all (t : List UInt8) : Lib.trimLeftS t alF = [] ↔ t.all (alF.contains ·) = true := by
  unfold Lib.trimLeftS
  induction t with
  | nil => simp
  | cons b t ih =>
    rw [List.dropWhile_cons, List.all_cons]
    by_cases h : alF.contains b = true
    · rw [if_pos h, h, Bool.true_and]; exact ih
    · rw [if_neg h]
      simp only [Bool.not_eq_true] at h
      rw [h, Bool.false_and]
      simp
theorem filter_le (s : List UInt8) : (s.filter (· != 10)).length ≤ s.length := List.length_filter_le _ _
theorem ascii_alF : ∀ (j : Nat) b, alF[j]? = some b → b.toNat < 128 := ascii_of_all (by decide)
/-- A world in which strings.Replace can look: the one variable that it reads holds a number. -/
def Looks (w : World) : Prop := ∃ m, w.cell? ⟨2, 0, none⟩ = some (.int .i64 m)
theorem Looks.below {w w' : World} (h : Looks w) (hb : Below w.heap.size w w') : Looks w' := by
  obtain ⟨m, h⟩ := h
  exact ⟨m, (hb.cell (p := ⟨2, 0, none⟩) (World.block_lt_of_cell? w _ h)).trans h⟩
theorem drop_nl (s : List UInt8) (w : World) (hs : s.length ≤ 1000) (h : Looks w) :
    Calls Tryd.prog 39 #[str s, .string { data := #[10] }, .string { data := #[] }] w fun e w' => e = .returned (str (s.filter (· != 10))) ∧ Below w.heap.size w w' := by
  obtain ⟨m, hm⟩ := h
  refine (Tryd.strings_ReplaceAll ⟨s.toArray⟩ ⟨#[10]⟩ ⟨#[]⟩ m w (by show s.toArray.size < _; simp; omega) hm (by decide) (by show s.toArray.size + _ * 0 ≤ _; simp; omega)).mono ?_
  rintro e w' ⟨rfl, hb⟩
  exact ⟨by show Ending.returned (str (Lib.replaceAll s [10] [])) = _; rw [replaceAll_nl], hb⟩
theorem trim_any (t : List UInt8) (w : World) :
    Calls Tryd.prog 40 #[str t, .string ⟨alF.toArray⟩] w fun e w' => e = .returned (str (Lib.trimLeftS t alF)) ∧ Below w.heap.size w w' :=
  Any.strings_TrimLeft_laid Tryd.lays161 (by kernel_rfl) ⟨t.toArray⟩ ⟨alF.toArray⟩ w (by decide) ascii_alF
set_option maxRecDepth 100000 in
set_option maxHeartbeats 1000000 in
theorem unwrap_small (s : List UInt8) (sz : Int) (w : World) (h : sz < 1) :
    Calls Tryd.prog 12 #[str s, .int .i64 sz] w fun e w' => e = .returned (.tuple #[str [], .int .i64 1]) ∧ w = w' := by
  go_enter Tryd.func12, Tryd.ntmps12
  go_wp2_with fail
  go_ret2
  exact ⟨rfl, rfl⟩
set_option maxRecDepth 100000 in
set_option maxHeartbeats 1000000 in
theorem unwrap_any (s : List UInt8) (sz : Int) (w : World) (hl : s.length ≤ 1000) (h : 1 ≤ sz) (h2 : sz ≤ 9223372036854775807) (hL : Looks w) :
    Calls Tryd.prog 12 #[str s, .int .i64 sz] w fun e w' => Below w.heap.size w w' ∧ ∃ k, Has (npc sz (s.filter (· != 10))) (s.filter (· != 10)) k ∧
      e = .returned (if (s.filter (· != 10)).all (alF.contains ·) = true ∧ wrapT (pieces (npc sz (s.filter (· != 10))) (s.filter (· != 10)) k) = s then .tuple #[str (s.filter (· != 10)), .int .i64 0] else .tuple #[str [], .int .i64 4]) := by
  obtain ⟨t, ht⟩ : ∃ t, t = s.filter (· != 10) := ⟨_, rfl⟩
  have htl : t.length ≤ 1000 := by rw [ht]; exact Nat.le_trans (filter_le s) hl
  rw [← ht]
  have Ht := Lib.hid ht; clear ht
  go_enter Tryd.func12, Tryd.ntmps12
  go_wp2_with fail
  refine (drop_nl s w hl hL).mono ?_
  rintro e w1 ⟨rfl, hb⟩
  rw [← Ht.out]
  have HB1 := Lib.hid hb; clear hb
  go_wp2_with fail
  refine (trim_any t w1).mono ?_
  rintro e w2 ⟨rfl, hb⟩
  have HB2 := Lib.hid (HB1.out.trans (hb.mono HB1.out.size)); clear hb HB1
  obtain ⟨r, hr⟩ : ∃ r, r = Lib.trimLeftS t alF := ⟨_, rfl⟩
  have hra := trim_all t
  rw [← hr] at hra ⊢
  clear hr
  by_cases h0 : r = []
  · have hall := hra.1 h0
    subst h0
    clear hra
    go_wp2_with fail
    refine (wrap_any t sz w2 htl h2 (by omega)).mono ?_
    rintro e w3 ⟨k, hH, rfl, hb⟩
    have HB3 := Lib.hid (HB2.out.trans (hb.mono HB2.out.size)); clear hb HB2
    obtain ⟨y, hy⟩ : ∃ y, y = wrapT (pieces (npc sz t) t k) := ⟨_, rfl⟩
    rw [← hy]
    by_cases he : y = s
    · have HR : Hid ((if t.all (alF.contains ·) = true ∧ wrapT (pieces (npc sz t) t k) = s then Value.tuple #[str t, .int .i64 0] else .tuple #[str [], .int .i64 4]) = .tuple #[str t, .int .i64 0]) := Lib.hid (if_pos ⟨hall, by rw [← hy]; exact he⟩)
      have hH := Lib.hid hH
      clear hy hall
      subst he
      go_wp2_with fail
      go_ret2
      exact ⟨HB3.out, k, hH.out, by rw [HR.out]; rfl⟩
    · have HR : Hid ((if t.all (alF.contains ·) = true ∧ wrapT (pieces (npc sz t) t k) = s then Value.tuple #[str t, .int .i64 0] else .tuple #[str [], .int .i64 4]) = .tuple #[str [], .int .i64 4]) := Lib.hid (if_neg fun h => he (by rw [hy]; exact h.2))
      have hH := Lib.hid hH
      have hne : (y == s) = false := beq_eq_false_iff_ne.2 he
      clear hy hall
      go_wp2_with fail
      go_ret2
      exact ⟨HB3.out, k, hH.out, by rw [HR.out]; rfl⟩
  · have hall : ¬ t.all (alF.contains ·) = true := fun e => h0 (hra.2 e)
    obtain ⟨k, hk⟩ := has_exists t (npc_pos sz t)
    have HR : Hid ((if t.all (alF.contains ·) = true ∧ wrapT (pieces (npc sz t) t k) = s then Value.tuple #[str t, .int .i64 0] else .tuple #[str [], .int .i64 4]) = .tuple #[str [], .int .i64 4]) := Lib.hid (if_neg fun h => hall h.1)
    have hH := Lib.hid hk; clear hk hall hra
    have hne : r.isEmpty = false := by
      cases r
      · exact absurd rfl h0
      · rfl
    clear h0
    go_wp2_with fail
    go_ret2
    exact ⟨HB2.out, k, hH.out, by rw [HR.out]; rfl⟩
end Go.Proofs.YtbjhaihfkncdoaaDoor
