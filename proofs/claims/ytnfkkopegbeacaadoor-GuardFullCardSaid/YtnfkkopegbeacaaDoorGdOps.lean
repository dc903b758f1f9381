/- guard: Locked, Enter (where there is room, or who is tracked), Good, Clear, Len. -/
import Derived.Test.YtnfkkopegbeacaaDoorGdFns
set_option maxRecDepth 100000
namespace Go.Proofs.YtnfkkopegbeacaaDoor
open Go.RowKit Go.Shelf
section
variable {w w1 w' : World} {base G T m cap : Nat} {b mo ho : Int} {l : List (List UInt8 × VT)}
def lockedL (l : List (List UInt8 × VT)) (s : List UInt8) (now : Int) : Bool := match getL l s with
  | some v => decide (now < v.u)
  | none => false
theorem getd_tb (h : TB w base T m cap l) (k : List UInt8) (hk : k.length ≤ 100000) {v : VT} (hv : getL l k = some v) :
    Calls Tryd.prog 20 #[tP T, strT k] w fun e w' => e = .returned (.tuple #[.agg #[strT v.s, .int .i64 v.f, .int .u64 v.a, .int .u64 v.u], .bool true]) ∧ Below w.heap.size w w' := by
  refine (get_tb h k hk).mono ?_
  rintro e w1 ⟨rfl, _, hb⟩
  rw [hv]
  exact ⟨rfl, hb⟩
theorem getn_tb (h : TB w base T m cap l) (k : List UInt8) (hk : k.length ≤ 100000) (hv : getL l k = none) :
    Calls Tryd.prog 20 #[tP T, strT k] w fun e w' => e = .returned (.tuple #[.agg #[.string ⟨#[]⟩, .int .i64 0, .int .u64 0, .int .u64 0], .bool false]) ∧ Below w.heap.size w w' := by
  refine (get_tb h k hk).mono ?_
  rintro e w1 ⟨rfl, _, hb⟩
  rw [hv]
  exact ⟨rfl, hb⟩
theorem locked_gd (h : GD w base G T m cap b mo ho l) (s : List UInt8) (now : Int) (hs : s.length ≤ 600) :
    Calls Tryd.prog 13 #[tP G, strT s, u64v now] w fun e w' => e = .returned (.bool (lockedL l s now)) ∧ Below w.heap.size w w' := by
  have c3 : w.cell? ⟨G, 3, none⟩ = some (tP T) := h.blk.at rfl
  unfold lockedL
  cases hg : getL l s with
  | none =>
    have HC := Lib.hid (getn_tb h.tb s (by omega) hg)
    clear h
    go_enter Tryd.func13, Tryd.ntmps13
    go_wp2_with fail
    refine HC.out.mono ?_
    rintro e w1 ⟨rfl, hB⟩
    have HB := Lib.hid hB; clear hB HC
    go_wp2_with fail
    go_ret
    exact ⟨by first | rfl | simp_all, HB.out.alloc HB.out.size _⟩
  | some v =>
    have HC := Lib.hid (getd_tb h.tb s (by omega) hg)
    clear h
    obtain ⟨vs, vf, va, vu⟩ := v
    simp only at HC ⊢
    by_cases hlt : now < vu
    all_goals
      go_enter Tryd.func13, Tryd.ntmps13
      go_wp2_with fail
      refine HC.out.mono ?_
      rintro e w1 ⟨rfl, hB⟩
      have HB := Lib.hid hB; clear hB HC
      go_wp2_with fail
      go_ret
      exact ⟨by first | rfl | simp_all, HB.out.alloc HB.out.size _⟩
theorem len_gd (h : GD w base G T m cap b mo ho l) : Calls Tryd.prog 15 #[tP G] w fun e w' => e = .returned (.int .i64 (l.length : Int)) ∧ w = w' := by
  have c3 : w.cell? ⟨G, 3, none⟩ = some (tP T) := h.blk.at rfl
  have HC := Lib.hid (len_tb h.tb)
  clear h
  go_enter Tryd.func15, Tryd.ntmps15
  go_wp2_with fail
  refine HC.out.mono ?_
  rintro e w1 ⟨rfl, rfl⟩
  go_wp2_with fail
  go_ret
  exact ⟨rfl, rfl⟩
def goodL (l : List (List UInt8 × VT)) (s : List UInt8) : Int × List (List UInt8 × VT) := if srcB s then dropL l s else (4, l)
theorem clear_gd (h : GD w base G T m cap b mo ho l) (s : List UInt8) (hs : s.length ≤ 600) (hT : Lib.Utf8Tabs 0 1 w) :
    Calls Tryd.prog 31 #[tP G, strT s] w fun e w' => e = .returned (.int .i64 (goodL l s).1) ∧ GD w' base G T m cap b mo ho (goodL l s).2 ∧ Below base w w' := by
  have HI := Lib.hid (isSource_any s w hs hT)
  have H := Lib.hid h
  have HBL := Lib.hid h.tb.base_le
  clear h hT
  unfold goodL
  cases hb : srcB s with
  | true =>
    rw [if_pos rfl]
    rw [hb] at HI
    go_enter Tryd.func31, Tryd.ntmps31
    go_wp2_with fail
    refine HI.out.mono ?_
    rintro e w1 ⟨rfl, hB⟩
    have h1 := H.out.keep hB
    have H1 := Lib.hid h1
    have c3 : w1.cell? ⟨G, 3, none⟩ = some (tP T) := h1.blk.at rfl
    have HB := Lib.hid hB
    clear hB h1 HI
    go_wp2_with fail
    refine (drop_tb H1.out.tb s (by omega)).mono ?_
    rintro e w2 ⟨rfl, h2, f2⟩
    have H2 := Lib.hid (H1.out.to f2 h2)
    have HB2 := Lib.hid ((HB.out.mono HBL.out).trans f2.low)
    clear h2 f2
    go_wp2_with fail
    go_ret
    exact ⟨rfl, H2.out, HB2.out⟩
  | false =>
    rw [if_neg (by simp)]
    rw [hb] at HI
    go_enter Tryd.func31, Tryd.ntmps31
    go_wp2_with fail
    refine HI.out.mono ?_
    rintro e w1 ⟨rfl, hB⟩
    have H1 := Lib.hid (H.out.keep hB)
    have HB := Lib.hid (hB.mono HBL.out)
    clear hB HI
    go_wp2_with fail
    go_ret
    exact ⟨rfl, H1.out, HB.out⟩
theorem good_gd (h : GD w base G T m cap b mo ho l) (s : List UInt8) (now : Int) (hs : s.length ≤ 600) (hT : Lib.Utf8Tabs 0 1 w) :
    Calls Tryd.prog 16 #[tP G, strT s, u64v now] w fun e w' => e = .returned (.int .i64 (goodL l s).1) ∧ GD w' base G T m cap b mo ho (goodL l s).2 ∧ Below base w w' := by
  have HC := Lib.hid (clear_gd h s hs hT)
  clear h hT
  go_enter Tryd.func16, Tryd.ntmps16
  go_wp2_with fail
  refine HC.out.mono ?_
  rintro e w1 ⟨rfl, h1⟩
  have H1 := Lib.hid h1
  clear h1
  go_wp2_with fail
  go_ret
  exact ⟨rfl, H1.out⟩
/-- What Enter answers and leaves, where who isn't tracked finds room. -/
def enterL (l : List (List UInt8 × VT)) (s : List UInt8) (now : Int) : Int × List (List UInt8 × VT) :=
  if srcB s then (match getL l s with
    | some v => (if now < v.u then 11 else 0, l)
    | none => (0, l ++ [(s, ⟨s, 0, now, now⟩)]))
  else (4, l)
theorem getL_has (l : List (List UInt8 × VT)) (s : List UInt8) (h : getL l s = none) : hasL l s = false := by
  unfold getL at h
  rw [Option.map_eq_none_iff, List.find?_eq_none] at h
  unfold hasL
  rw [List.any_eq_false]
  exact h
theorem enter_gd (h : GD w base G T m cap b mo ho l) (s : List UInt8) (now : Int) (hs : s.length ≤ 600) (hT : Lib.Utf8Tabs 0 1 w) (hroom : getL l s = none → l.length ≠ cap) :
    Calls Tryd.prog 9 #[tP G, strT s, u64v now] w fun e w' => e = .returned (.int .i64 (enterL l s now).1) ∧ GD w' base G T m cap b mo ho (enterL l s now).2 ∧ Below base w w' := by
  have HI := Lib.hid (isSource_any s w hs hT)
  have H := Lib.hid h
  have HBL := Lib.hid h.tb.base_le
  clear h hT
  unfold enterL
  cases hb : srcB s with
  | false =>
    rw [if_neg (by simp)]
    rw [hb] at HI
    go_enter Tryd.func9, Tryd.ntmps9
    go_wp2_with fail
    refine HI.out.mono ?_
    rintro e w1 ⟨rfl, hB⟩
    have H1 := Lib.hid (H.out.keep hB)
    have HB := Lib.hid (hB.mono HBL.out)
    clear hB HI
    go_wp2_with fail
    go_ret
    exact ⟨rfl, H1.out, HB.out⟩
  | true =>
    rw [if_pos rfl]
    rw [hb] at HI
    cases hg : getL l s with
    | some v =>
      have hlk : lockedL l s now = decide (now < v.u) := by unfold lockedL; rw [hg]
      by_cases hlt : now < v.u
      · rw [decide_eq_true hlt] at hlk
        simp only [if_pos hlt]
        clear hg hroom
        go_enter Tryd.func9, Tryd.ntmps9
        go_wp2_with fail
        refine HI.out.mono ?_
        rintro e w1 ⟨rfl, hB⟩
        have H1 := Lib.hid (H.out.keep hB)
        have HB := Lib.hid (hB.mono HBL.out)
        have HBL1 := Lib.hid H1.out.tb.base_le
        clear hB HI
        go_wp2_with fail
        refine (locked_gd H1.out s now hs).mono ?_
        rintro e w2 ⟨rfl, hB2⟩
        rw [hlk]
        have H2 := Lib.hid (H1.out.keep hB2)
        have HB2 := Lib.hid (HB.out.trans (hB2.mono HBL1.out))
        clear hB2
        go_wp2_with fail
        go_ret
        exact ⟨rfl, H2.out, HB2.out⟩
      · rw [decide_eq_false hlt] at hlk
        simp only [if_neg hlt]
        clear hroom
        have hgv := hg
        have HG := Lib.hid hg; clear hg hgv
        go_enter Tryd.func9, Tryd.ntmps9
        go_wp2_with fail
        refine HI.out.mono ?_
        rintro e w1 ⟨rfl, hB⟩
        have H1 := Lib.hid (H.out.keep hB)
        have HB := Lib.hid (hB.mono HBL.out)
        have HBL1 := Lib.hid H1.out.tb.base_le
        clear hB HI
        go_wp2_with fail
        refine (locked_gd H1.out s now hs).mono ?_
        rintro e w2 ⟨rfl, hB2⟩
        rw [hlk]
        have h2 := H1.out.keep hB2
        have H2 := Lib.hid h2
        have c3 : w2.cell? ⟨G, 3, none⟩ = some (tP T) := h2.blk.at rfl
        have HB2 := Lib.hid (HB.out.trans (hB2.mono HBL1.out))
        clear hB2 h2
        go_wp2_with fail
        refine (getd_tb H2.out.tb s (by omega) HG.out).mono ?_
        rintro e w3 ⟨rfl, hB3⟩
        have H3 := Lib.hid (H2.out.keep hB3)
        have HB3 := Lib.hid (HB2.out.trans (hB3.mono H2.out.tb.base_le))
        clear hB3 c3
        go_wp2_with fail
        go_ret
        exact ⟨rfl, H3.out.keep ((Below.refl _ _).alloc (Nat.le_refl _) _), HB3.out.alloc (H3.out.tb.base_le) _⟩
    | none =>
      have hlk : lockedL l s now = false := by unfold lockedL; rw [hg]
      have hlen : (l.length == cap) = false := by rw [beq_eq_false_iff_ne]; exact hroom hg
      have hput : putL cap l s ⟨s, 0, now, now⟩ = (0, l ++ [(s, ⟨s, 0, now, now⟩)]) := by
        unfold putL
        rw [getL_has l s hg, if_neg (by simp), if_neg (hroom hg)]
      have HG := Lib.hid hg; clear hg hroom
      go_enter Tryd.func9, Tryd.ntmps9
      go_wp2_with fail
      refine HI.out.mono ?_
      rintro e w1 ⟨rfl, hB⟩
      have H1 := Lib.hid (H.out.keep hB)
      have HB := Lib.hid (hB.mono HBL.out)
      have HBL1 := Lib.hid H1.out.tb.base_le
      clear hB HI
      go_wp2_with fail
      refine (locked_gd H1.out s now hs).mono ?_
      rintro e w2 ⟨rfl, hB2⟩
      rw [hlk]
      have h2 := H1.out.keep hB2
      have H2 := Lib.hid h2
      have c3 : w2.cell? ⟨G, 3, none⟩ = some (tP T) := h2.blk.at rfl
      have HB2 := Lib.hid (HB.out.trans (hB2.mono HBL1.out))
      clear hB2 h2
      go_wp2_with fail
      refine (getn_tb H2.out.tb s (by omega) HG.out).mono ?_
      rintro e w3 ⟨rfl, hB3⟩
      obtain ⟨W4, hW4⟩ : ∃ W4, W4 = w3.alloc (.cells #[.string ⟨#[]⟩, .int .i64 0, .int .u64 0, .int .u64 0] 51) := ⟨_, rfl⟩
      have h3 := H2.out.keep hB3
      have h4 : GD W4 base G T m cap b mo ho l := by rw [hW4]; exact h3.keep ((Below.refl _ _).alloc (Nat.le_refl _) _)
      have hB4 : Below base w W4 := by rw [hW4]; exact (HB2.out.trans (hB3.mono H2.out.tb.base_le)).alloc h3.tb.base_le _
      have c4 : (w3.alloc (.cells #[.string ⟨#[]⟩, .int .i64 0, .int .u64 0, .int .u64 0] 51)).cell? ⟨G, 3, none⟩ = some (tP T) := by rw [← hW4]; exact h4.blk.at rfl
      have H4 := Lib.hid h4
      have HB4 := Lib.hid hB4
      clear hB3 h3 h4 hB4 c3
      go_wp2_with fail
      rw [← hW4]
      refine (full_tb H4.out.tb).mono ?_
      rintro e w5 ⟨rfl, h5, b5⟩
      rw [hlen]
      have h5' := H4.out.keep b5
      have H5 := Lib.hid h5'
      have c5 : w5.cell? ⟨G, 3, none⟩ = some (tP T) := h5'.blk.at rfl
      have HB5 := Lib.hid (HB4.out.trans (b5.mono H4.out.tb.base_le))
      clear h5 b5 h5' c4 hW4
      go_wp2_with fail
      refine (put_tb H5.out.tb s ⟨s, 0, now, now⟩ (by omega)).mono ?_
      rintro e w6 ⟨rfl, h6, f6⟩
      have H6 := Lib.hid (H5.out.to f6 h6)
      have HB6 := Lib.hid (HB5.out.trans f6.low)
      clear h6 f6
      rw [hput] at H6
      rw [hput]
      clear hput
      go_wp2_with fail
      go_ret
      exact ⟨rfl, H6.out, HB6.out⟩
end
end Go.Proofs.YtnfkkopegbeacaaDoor
