/- guard: the statement GuardGood's own text, walked. -/
import Derived.Test.YtnfkkopegbeacaaDoorGdAwake
set_option maxRecDepth 100000
namespace Go.Proofs.YtnfkkopegbeacaaDoor
open Go.RowKit Go.Shelf
/-- Behind j failures one by one: nobody, or the one source, whose lock is over. -/
def gl (j : Nat) (nw : Int) (l : List (List UInt8 × VT)) : Prop := (j = 0 ∧ l = []) ∨ (1 ≤ j ∧ ∃ v, l = [(sS, v)] ∧ 0 ≤ v.f ∧ v.f ≤ 60 ∧ v.u ≤ nw)
theorem gl_enter {j : Nat} {nw : Int} {l : List (List UInt8 × VT)} (h : gl j nw l) : ∃ v, enterL l sS nw = (0, [(sS, v)]) ∧ 0 ≤ v.f ∧ v.f ≤ 60 ∧ (getL l sS = none → l.length ≠ 3) := by
  rcases h with ⟨_, rfl⟩ | ⟨_, v, rfl, h1, h2, h3⟩
  · exact ⟨_, enterL_nil _ _ src_s, by simp, by simp, by simp⟩
  · refine ⟨v, ?_, h1, h2, fun h => by rw [getL_one] at h; cases h⟩
    rw [enterL_one _ _ _ src_s, if_neg (by omega)]
set_option maxHeartbeats 2000000 in
theorem guardGood_law (u1 u2 : Int) (w : World) (h1 : 0 ≤ u1 ∧ u1 ≤ 255) (h2 : 0 ≤ u2 ∧ u2 ≤ 255) (hT : tabsOK w) :
    Calls Tryd.prog 6 #[.int .u8 u1, .int .u8 u2] w fun e w' => e = .returned (.bool true) ∧ Below w.heap.size w w' := by
  have HT := Lib.hid hT; clear hT
  obtain ⟨N, hN⟩ : ∃ N : Nat, (N : Int) = 1 + u1 % 9 := ⟨(1 + u1 % 9).toNat, by omega⟩
  obtain ⟨M, hM⟩ : ∃ M : Nat, (M : Int) = 1 + u2 % 3 := ⟨(1 + u2 % 3).toNat, by omega⟩
  have hN1 : 1 ≤ N := by omega
  have hN2 : N ≤ 9 := by omega
  have hM2 : M ≤ 3 := by omega
  have hm1 : 0 ≤ u1 % 9 ∧ u1 % 9 < 9 := by omega
  have hm2 : 0 ≤ u2 % 3 ∧ u2 % 3 < 3 := by omega
  have HN := Lib.hid hN; clear hN
  have HM := Lib.hid hM; clear hM
  go_enter Tryd.func6, Tryd.ntmps6
  go_wp2_with fail
  refine (awake13 w HT.out).mono ?_
  rintro e w1 ⟨rfl, hB1⟩
  have HB1 := Lib.hid hB1; clear hB1
  go_wp2_with fail
  refine (new_gd 3 1 1000 1099511627776 w1 (by omega) (by omega) (by omega) (by omega) (by omega) (by omega) (by omega) (by omega)).mono ?_
  rintro e w2 ⟨G, T, m, rfl, h2, b2⟩
  have H2 := Lib.hid h2; have HB2 := Lib.hid (HB1.out.trans (b2.mono HB1.out.size)); clear h2 b2
  have HW1 := Lib.hid HB1.out.size
  go_wp2_with fail
  rw [← HM.out]
  go_loopw [7, 21] (fun nv i wr => ∃ (q : Nat) (nw : Int), q ≤ M ∧ i = .int .i64 (q : Int) ∧ nv = u64v nw ∧ 0 ≤ nw ∧ nw ≤ 9000 * (q : Int) ∧ GD wr w1.heap.size G T m 3 1 1000 1099511627776 [] ∧ Below w.heap.size w wr) (fun _ i _ => M - (intOf i).toNat)
  case atStart => exact ⟨0, 0, by omega, rfl, rfl, by omega, by omega, H2.out, HB2.out⟩
  case round =>
    obtain ⟨q, nw, hq, rfl, rfl, hn0, hn1, hg, hb⟩ := hrel
    have HG := Lib.hid hg
    have HB := Lib.hid hb
    clear hg hb
    by_cases hlt : q < M
    · obtain ⟨wo, hwo⟩ : ∃ wo, wo = wr := ⟨_, rfl⟩
      subst hwo
      go_wp2_with fail
      rw [← HN.out]
      go_loopw [7, 27] (fun nv i wr => ∃ (j : Nat) (nj : Int) (l : List (List UInt8 × VT)), j ≤ N ∧ i = .int .i64 (j : Int) ∧ nv = u64v nj ∧ nj = nw + 1000 * (j : Int) ∧ gl j nj l ∧ GD wr w1.heap.size G T m 3 1 1000 1099511627776 l ∧ Below w.heap.size w wr) (fun _ i _ => N - (intOf i).toNat)
      case atStart => exact ⟨0, nw, [], by omega, rfl, rfl, by omega, .inl ⟨rfl, rfl⟩, HG.out, HB.out⟩
      case round =>
        obtain ⟨j, nj, l, hj, rfl, rfl, hnj, hl, hg, hb⟩ := hrel
        have HGG := Lib.hid hg
        have HBB := Lib.hid hb
        clear hg hb
        by_cases hlt2 : j < N
        · obtain ⟨v, hen, hf0, hf1, hroom⟩ := gl_enter hl
          have HNJ := Lib.hid hnj
          have hnj0 : 0 ≤ nj := by omega
          have hnj1 : nj ≤ 100000 := by omega
          clear hnj hl
          go_wp2_with fail
          refine (enter_s HGG.out sS nj (by simp) (Utf8Tabs_below HT.out HBB.out) hroom hen).mono ?_
          rintro e w4 ⟨rfl, h4, b4⟩
          have H4 := Lib.hid h4; have HB4 := Lib.hid (HBB.out.trans (b4.mono HW1.out)); clear h4 b4
          go_wp2_with fail
          refine (fail_s H4.out src_s nj (by simp) (Utf8Tabs_below HT.out HB4.out) (by omega) (by omega) (by omega) (by omega) hnj0 (by omega) hf0 hf1).mono ?_
          rintro e w5 ⟨rfl, h5, b5⟩
          have H5 := Lib.hid h5; have HB5 := Lib.hid (HB4.out.trans (b5.mono HW1.out)); clear h5 b5
          go_wp2_with fail
          go_roundw
          case rel =>
            refine ⟨j + 1, nj + 1000, _, by omega, by go_num, rfl, by have := HNJ.out; omega, .inr ⟨by omega, _, rfl, ?_, ?_, ?_⟩, H5.out, HB5.out⟩
            · rw [fe_f]; omega
            · rw [fe_f]; omega
            · rw [fe_u]
              have := wI_le (b := 1) (m := tI 1000) (exN (min (v.f + 1) 60))
              have e1 : tI 1000 = 1000 := tI_id (by omega)
              rw [e1] at this ⊢
              rw [aftL_small hnj0 (by omega) (by omega)]
              omega
          case measure => simp [intOf]; omega
        · have hjN : j = N := by omega
          subst hjN
          obtain ⟨v, rfl⟩ : ∃ v, l = [(sS, v)] := by
            rcases hl with ⟨h, _⟩ | ⟨_, v, h, _⟩
            · omega
            · exact ⟨v, h⟩
          have HNJ := Lib.hid hnj
          have hnj0 : 0 ≤ nj := by omega
          have hnj1 : nj ≤ 100000 := by omega
          clear hnj hl
          go_wp2_with fail
          have g1 := good_gd HGG.out sS nj (by simp) (Utf8Tabs_below HT.out HBB.out)
          rw [goodL_one _ _ src_s] at g1
          refine g1.mono ?_
          clear g1
          rintro e w4 ⟨rfl, h4, b4⟩
          have H4 := Lib.hid h4; have HB4 := Lib.hid (HBB.out.trans (b4.mono HW1.out)); clear h4 b4
          go_wp2_with fail
          have g1 := good_gd H4.out sS nj (by simp) (Utf8Tabs_below HT.out HB4.out)
          rw [goodL_nil _ src_s] at g1
          refine g1.mono ?_
          clear g1
          rintro e w5 ⟨rfl, h5, b5⟩
          have H5 := Lib.hid h5; have HB5 := Lib.hid (HB4.out.trans (b5.mono HW1.out)); clear h5 b5
          go_wp2_with fail
          refine (len_gd H5.out).mono ?_
          rintro e w6 ⟨rfl, rfl⟩
          go_wp2_with fail
          go_roundw
          case rel => exact ⟨q + 1, nj, by omega, by go_num, rfl, hnj0, by have := HNJ.out; omega, H5.out, HB5.out⟩
          case measure => simp [intOf]; omega
    · have hn9 : nw ≤ 100000 := by omega
      go_wp2_with fail
      refine (enter_s HG.out sS nw (by simp) (Utf8Tabs_below HT.out HB.out) (by simp) (enterL_nil _ _ src_s)).mono ?_
      rintro e w4 ⟨rfl, h4, b4⟩
      have H4 := Lib.hid h4; have HB4 := Lib.hid (HB.out.trans (b4.mono HW1.out)); clear h4 b4
      go_wp2_with fail
      refine (fail_s H4.out src_s nw (by simp) (Utf8Tabs_below HT.out HB4.out) (by omega) (by omega) (by omega) (by omega) hn0 (by omega) (by simp) (by simp)).mono ?_
      rintro e w5 ⟨rfl, h5, b5⟩
      have H5 := Lib.hid h5; have HB5 := Lib.hid (HB4.out.trans (b5.mono HW1.out)); clear h5 b5
      obtain ⟨v5, hv5⟩ : ∃ v5, v5 = fe 1 1000 ⟨sS, 0, nw, nw⟩ nw := ⟨_, rfl⟩
      rw [← hv5] at H5
      have hu5 : v5.u = nw + 2 := by
        rw [hv5, fe_u, show wI 1 (tI 1000) (exN (min ((⟨sS, 0, nw, nw⟩ : VT).f + 1) 60)) = 2 by show wI 1 (tI 1000) (exN (min ((0 : Int) + 1) 60)) = 2; decide +kernel]
        exact aftL_small hn0 (by omega) (by omega)
      clear hv5
      have HU := Lib.hid hu5; clear hu5
      go_wp2_with fail
      refine (locked_s H5.out (nw + 1) (by simp) (r := true) (by rw [HU.out]; exact decide_eq_true (by omega))).mono ?_
      rintro e w6 ⟨rfl, h6, b6⟩
      have H6 := Lib.hid h6; have HB6 := Lib.hid (HB5.out.trans (b6.mono HW1.out)); clear h6 b6
      go_wp2_with fail
      refine (locked_s H6.out (nw + 2) (by simp) (r := false) (by rw [HU.out]; exact decide_eq_false (by omega))).mono ?_
      rintro e w7 ⟨rfl, h7, b7⟩
      have HB7 := Lib.hid (HB6.out.trans (b7.mono HW1.out)); clear h7 b7
      go_wp2_with fail
      go_ret
      exact ⟨rfl, HB7.out⟩
end Go.Proofs.YtnfkkopegbeacaaDoor
