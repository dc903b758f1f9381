/- guard: one source alone; awake. -/
import Derived.Test.YtnfkkopegbeacaaDoorGdFail
import Derived.Deep.DeepCutAuto
set_option maxRecDepth 100000
namespace Go.Proofs.YtnfkkopegbeacaaDoor
open Go.RowKit Go.Shelf
abbrev tabsOK (w : World) : Prop := Lib.Utf8Tabs 0 1 w
abbrev sS : List UInt8 := [115]
theorem src_s : srcB sS = true := by decide +kernel
section
variable (s : List UInt8) (v : VT) (now b mo : Int)
theorem getL_one : getL [(s, v)] s = some v := by unfold getL; rw [List.find?_cons, beq_self_eq_true]; rfl
theorem hasL_one : hasL [(s, v)] s = true := by unfold hasL; rw [List.any_cons, beq_self_eq_true]; rfl
theorem enterL_nil (h : srcB s = true) : enterL [] s now = (0, [(s, ⟨s, 0, now, now⟩)]) := by unfold enterL; rw [h]; rfl
theorem enterL_one (h : srcB s = true) : enterL [(s, v)] s now = (if now < v.u then 11 else 0, [(s, v)]) := by unfold enterL; rw [h, getL_one]; rfl
theorem setL_one (v' : VT) : setL [(s, v)] s v' = (0, [(s, v')]) := by
  unfold setL
  rw [hasL_one, List.map_cons, beq_self_eq_true]; rfl
theorem failL_one (h : srcB s = true) : failL b mo [(s, v)] s now = (0, [(s, fe b mo v now)]) := by unfold failL; rw [h, getL_one, ← setL_one]; rfl
theorem goodL_one (h : srcB s = true) : goodL [(s, v)] s = (0, []) := by
  unfold goodL dropL
  rw [h, hasL_one, List.filter_cons, beq_self_eq_true]; rfl
theorem goodL_nil (h : srcB s = true) : goodL [] s = (6, []) := by unfold goodL; rw [h]; rfl
theorem lockedL_one : lockedL [(s, v)] s now = decide (now < v.u) := by unfold lockedL; rw [getL_one]
theorem fe_f : (fe b mo v now).f = min (v.f + 1) 60 := rfl
theorem fe_u : (fe b mo v now).u = aftL now (wI b (tI mo) (exN (min (v.f + 1) 60))) := rfl
theorem aftL_small {now wt : Int} (h0 : 0 ≤ now) (h1 : now ≤ 9223372036854775807) (h2 : wt ≤ 1099511627776) : aftL now wt = now + wt := by unfold aftL; omega
end
theorem enter_s {w : World} {base G T m cap : Nat} {b mo ho : Int} {l : List (List UInt8 × VT)} (h : GD w base G T m cap b mo ho l) (s : List UInt8) (now : Int) (hs : s.length ≤ 600) (hT : tabsOK w) (hroom : getL l s = none → l.length ≠ cap) {r : Int} {l2 : List (List UInt8 × VT)} (he : enterL l s now = (r, l2)) :
    Calls Tryd.prog 9 #[tP G, strT s, u64v now] w fun e w' => e = .returned (.int .i64 r) ∧ GD w' base G T m cap b mo ho l2 ∧ Below base w w' := by
  have := enter_gd h s now hs hT hroom
  rw [he] at this
  exact this
theorem fail_s {w : World} {base G T m cap : Nat} {b mo ho : Int} {v : VT} {s : List UInt8} (h : GD w base G T m cap b mo ho [(s, v)]) (hsrc : srcB s = true) (now : Int) (hs : s.length ≤ 600) (hT : tabsOK w)
    (b0 : 0 ≤ b) (b1 : b < 18446744073709551616) (m0 : 0 ≤ mo) (m1 : mo < 18446744073709551616) (n0 : 0 ≤ now) (n1 : now ≤ 18446744073709551615) (hf0 : 0 ≤ v.f) (hf1 : v.f ≤ 60) :
    Calls Tryd.prog 10 #[tP G, strT s, u64v now] w fun e w' => e = .returned (.int .i64 0) ∧ GD w' base G T m cap b mo ho [(s, fe b mo v now)] ∧ Below base w w' := by
  have := fail_gd h s now hs hT b0 b1 m0 m1 n0 n1 (by intro x hx; rw [getL_one] at hx; cases hx; exact ⟨hf0, hf1⟩)
  rw [failL_one _ _ _ _ _ hsrc] at this
  exact this
theorem locked_s {w : World} {base G T m cap : Nat} {b mo ho : Int} {v : VT} {s : List UInt8} (h : GD w base G T m cap b mo ho [(s, v)]) (now : Int) (hs : s.length ≤ 600) {r : Bool} (hr : decide (now < v.u) = r) :
    Calls Tryd.prog 13 #[tP G, strT s, u64v now] w fun e w' => e = .returned (.bool r) ∧ GD w' base G T m cap b mo ho [(s, v)] ∧ Below base w w' := by
  refine (locked_gd h s now hs).mono ?_
  rintro e w1 ⟨rfl, hb⟩
  rw [lockedL_one, hr]
  exact ⟨rfl, h.keep hb, hb.mono h.tb.base_le⟩
set_option maxHeartbeats 1000000 in
theorem awake13 (w : World) (hT : tabsOK w) : Calls Tryd.prog 7 #[] w fun e w' => e = .returned (.bool true) ∧ Below w.heap.size w w' := by
  have HT := Lib.hid hT; clear hT
  go_enter Tryd.func7, Tryd.ntmps7
  go_wp2_with fail
  refine (new_gd 2 2 100 9 w (by omega) (by omega) (by omega) (by omega) (by omega) (by omega) (by omega) (by omega)).mono ?_
  rintro e w1 ⟨G, T, m, rfl, h1, hb1⟩
  have H1 := Lib.hid h1; have HB1 := Lib.hid hb1; clear h1 hb1
  go_wp2_with fail
  refine (enter_s H1.out sS 0 (by simp) (Utf8Tabs_below HT.out HB1.out) (by simp) (enterL_nil _ _ src_s)).mono ?_
  rintro e w2 ⟨rfl, h2, b2⟩
  have H2 := Lib.hid h2; have HB2 := Lib.hid (HB1.out.trans b2); clear h2 b2
  go_wp2_with fail
  refine (fail_s H2.out src_s 0 (by simp) (Utf8Tabs_below HT.out HB2.out) (by omega) (by omega) (by omega) (by omega) (by omega) (by omega) (by simp) (by simp)).mono ?_
  rintro e w3 ⟨rfl, h3, b3⟩
  have H3 := Lib.hid h3; have HB3 := Lib.hid (HB2.out.trans b3); clear h3 b3
  obtain ⟨v3, hv3⟩ : ∃ v3, v3 = fe 2 100 ⟨sS, 0, 0, 0⟩ 0 := ⟨_, rfl⟩
  rw [← hv3] at H3
  have hf3 : v3.f = 1 := by rw [hv3]; rfl
  have hu3 : v3.u = 4 := by rw [hv3, fe_u]; decide +kernel
  clear hv3
  go_wp2_with fail
  refine (enter_s H3.out sS 3 (by simp) (Utf8Tabs_below HT.out HB3.out) (by intro h; rw [getL_one] at h; cases h) (enterL_one _ _ _ src_s)).mono ?_
  rintro e w4 ⟨rfl, h4, b4⟩
  rw [if_pos (by omega)]
  have H4 := Lib.hid h4; have HB4 := Lib.hid (HB3.out.trans b4); clear h4 b4
  go_wp2_with fail
  refine (enter_s H4.out sS 4 (by simp) (Utf8Tabs_below HT.out HB4.out) (by intro h; rw [getL_one] at h; cases h) (enterL_one _ _ _ src_s)).mono ?_
  rintro e w5 ⟨rfl, h5, b5⟩
  rw [if_neg (by omega)]
  have H5 := Lib.hid h5; have HB5 := Lib.hid (HB4.out.trans b5); clear h5 b5
  go_wp2_with fail
  refine (fail_s H5.out src_s 4 (by simp) (Utf8Tabs_below HT.out HB5.out) (by omega) (by omega) (by omega) (by omega) (by omega) (by omega) (by omega) (by omega)).mono ?_
  rintro e w6 ⟨rfl, h6, b6⟩
  have H6 := Lib.hid h6; have HB6 := Lib.hid (HB5.out.trans b6); clear h6 b6
  obtain ⟨v6, hv6⟩ : ∃ v6, v6 = fe 2 100 v3 4 := ⟨_, rfl⟩
  rw [← hv6] at H6
  have hu6 : v6.u = 12 := by rw [hv6, fe_u, hf3]; decide +kernel
  clear hv6
  go_wp2_with fail
  refine (locked_s H6.out 11 (by simp) (r := true) (by rw [hu6]; rfl)).mono ?_
  rintro e w7 ⟨rfl, h7, b7⟩
  have H7 := Lib.hid h7; have HB7 := Lib.hid (HB6.out.trans b7); clear h7 b7
  go_wp2_with fail
  refine (locked_s H7.out 12 (by simp) (r := false) (by rw [hu6]; rfl)).mono ?_
  rintro e w8 ⟨rfl, h8, b8⟩
  have HB8 := Lib.hid (HB7.out.trans b8); clear h8 b8
  go_wp2_with fail
  go_ret
  exact ⟨rfl, HB8.out⟩
end Go.Proofs.YtnfkkopegbeacaaDoor
