/- guard: the statement GuardBounds' own text, walked. -/
import Derived.Test.YtnfkkopegbeacaaDoorGdAwake
import Derived.Test.YtnfkkopegbeacaaDoorSpBound
set_option maxRecDepth 100000
namespace Go.Proofs.YtnfkkopegbeacaaDoor
open Go.RowKit Go.Shelf
/-- Behind n failures: nobody, or the one source; their waits but the last are over, the last one isn't told yet. -/
def bst (b m : Int) (n : Nat) (now : Int) (l : List (List UInt8 × VT)) : Prop := (n = 0 ∧ l = []) ∨ (1 ≤ n ∧ sI b m (n - 1) ≤ now ∧ ∃ v, l = [(sS, v)] ∧ v.f = min (n : Int) 60 ∧ sI b m n ≤ v.u)
theorem wI_sixty {b m : Int} (hb : 1 ≤ b) (hm : 1 ≤ m) (hm2 : m ≤ 1099511627776) (n : Nat) : wI b m (exN (min ((n : Int) + 1) 60)) = wI b m (n + 1) := by
  rcases Nat.lt_or_ge 60 (n + 1) with h | h
  · rw [wI_big hb (by omega) hm2 (show 40 ≤ n + 1 by omega), wI_big hb (by omega) hm2 (show 40 ≤ exN (min ((n : Int) + 1) 60) by unfold exN; omega)]
  · rw [show exN (min ((n : Int) + 1) 60) = n + 1 by unfold exN; omega]
theorem bst_step {b m now x : Int} {n : Nat} {l : List (List UInt8 × VT)} (h : bst b m n now l) (hx : now ≤ x) (hx0 : 0 ≤ x) (hx1 : x ≤ 100000) (hb : 1 ≤ b) (hm : 1 ≤ m) (hm2 : m ≤ 1000) :
    ∃ v r, enterL l sS x = (r, [(sS, v)]) ∧ 0 ≤ v.f ∧ v.f ≤ 60 ∧ (getL l sS = none → l.length ≠ 3) ∧ ((r = 11 ∧ 1 ≤ n ∧ bst b m n x [(sS, v)]) ∨ (r = 0 ∧ bst b m (n + 1) x [(sS, fe b m v x)])) := by
  have htm : tI m = m := tI_id (by omega)
  rcases h with ⟨rfl, rfl⟩ | ⟨hn, hs, v, rfl, hf, hu⟩
  · refine ⟨_, _, enterL_nil _ _ src_s, by simp, by simp, by simp, .inr ⟨rfl, .inr ⟨by omega, ?_, _, rfl, ?_, ?_⟩⟩⟩
    · rw [show 0 + 1 - 1 = 0 from rfl, sI_zero]; exact hx0
    · rw [fe_f]; rfl
    · rw [fe_u, htm, sI_succ, sI_zero]
      have h1 := wI_le (b := b) (m := m) (0 + 1)
      have e1 : wI b m (exN (min ((⟨sS, 0, x, x⟩ : VT).f + 1) 60)) = wI b m (0 + 1) := rfl
      rw [e1, aftL_small hx0 (by omega) (by omega)]
      omega
  · refine ⟨v, if x < v.u then 11 else 0, enterL_one _ _ _ src_s, by omega, by omega, (fun h => by rw [getL_one] at h; cases h), ?_⟩
    by_cases hlt : x < v.u
    · rw [if_pos hlt]
      exact .inl ⟨rfl, hn, .inr ⟨hn, by omega, v, rfl, hf, hu⟩⟩
    · rw [if_neg hlt]
      refine .inr ⟨rfl, .inr ⟨by omega, ?_, _, rfl, ?_, ?_⟩⟩
      · rw [Nat.add_sub_cancel]; omega
      · rw [fe_f, hf]; omega
      · have e1 : min (min (n : Int) 60 + 1) 60 = min ((n : Int) + 1) 60 := by omega
        have h1 := wI_le (b := b) (m := m) (n + 1)
        rw [fe_u, htm, hf, e1, wI_sixty hb hm (by omega), aftL_small hx0 (by omega) (by omega), sI_succ]
        omega
theorem bst_bound {b m x : Int} {n k : Nat} {l : List (List UInt8 × VT)} (h : bst b m n x l) (hn : 1 ≤ n) (hb : 1 ≤ b) (hm : 1 ≤ m) (hm2 : m ≤ 1000) (hx0 : 0 ≤ x) (hx1 : x ≤ 100000) (hk : BoundIs (max b 1) (tI (max m 1)) (tI (x + 1)) k) : n ≤ k := by
  rw [show max b 1 = b by omega, show max m 1 = m by omega, tI_id (show m ≤ 1099511627776 by omega), tI_id (show x + 1 ≤ 1099511627776 by omega)] at hk
  rcases h with ⟨rfl, _⟩ | ⟨_, hs, _⟩
  · omega
  · rcases Nat.lt_or_ge k n with hl | hl
    · have h1 := sI_mono (b := b) (m := m) (by omega) (by omega) k (n - 1 - k)
      rw [show k + (n - 1 - k) = n - 1 by omega] at h1
      have := hk.2.2
      omega
    · exact hl
set_option maxHeartbeats 4000000 in
theorem guardBounds_law (B : Nat) (u1 u2 : Int) (v : Value) (l : List UInt8) (w : World) (h1 : 0 ≤ u1 ∧ u1 ≤ 255) (h2 : 0 ≤ u2 ∧ u2 ≤ 255) (hs : Sl w B v l) (hB : B ≤ w.heap.size) (hT : tabsOK w) :
    Calls Tryd.prog 4 #[.int .u8 u1, .int .u8 u2, v] w fun e w' => e = .returned (.bool true) ∧ Below w.heap.size w w' := by
  have HT := Lib.hid hT; clear hT
  obtain ⟨A, c, rfl, _, hl1, hl2, hl3⟩ := hs
  have HL := Lib.hid hl3; clear hl3
  obtain ⟨b, hb⟩ : ∃ b, b = 1 + u1 % 20 := ⟨_, rfl⟩
  obtain ⟨m, hm⟩ : ∃ m, m = 1 + u2 := ⟨_, rfl⟩
  have hb1 : 1 ≤ b := by omega
  have hb2 : b ≤ 20 := by omega
  have hm1 : 1 ≤ m := by omega
  have hm2 : m ≤ 256 := by omega
  have hr1 : 0 ≤ u1 % 20 ∧ u1 % 20 < 20 := by omega
  have HB := Lib.hid hb; clear hb
  have HM := Lib.hid hm; clear hm
  go_enter Tryd.func4, Tryd.ntmps4
  go_wp2_with fail
  refine (awake13 w HT.out).mono ?_
  rintro e w1 ⟨rfl, hB1⟩
  have HB1 := Lib.hid hB1; clear hB1
  go_wp2_with fail
  rw [← HB.out, ← HM.out]
  refine (new_gd 3 b m 1099511627776 w1 (by omega) (by omega) (by omega) (by omega) (by omega) (by omega) (by omega) (by omega)).mono ?_
  rintro e w2 ⟨G, T, mm, rfl, h2, b2⟩
  have H2 := Lib.hid h2; have HB2 := Lib.hid (HB1.out.trans (b2.mono HB1.out.size)); clear h2 b2
  have HW1 := Lib.hid HB1.out.size
  go_wp2_with fail
  go_loopw [11, 12, 36] (fun nv cv i wr => ∃ (j n : Nat) (nw : Int) (q : List (List UInt8 × VT)), j ≤ l.length ∧ j ≤ 200 ∧ n ≤ j ∧ i = .int .i64 (j : Int) ∧ nv = u64v nw ∧ cv = u64v (n : Int) ∧ 0 ≤ nw ∧ nw ≤ 255 * (j : Int) ∧ bst b m n nw q ∧ GD wr w1.heap.size G T mm 3 b m 1099511627776 q ∧ Below w.heap.size w wr) (fun _ _ i _ => l.length - (intOf i).toNat)
  case atStart => exact ⟨0, 0, 0, [], by omega, by omega, by omega, rfl, rfl, rfl, by omega, by omega, .inl ⟨rfl, rfl⟩, H2.out, HB2.out⟩
  case round =>
    obtain ⟨j, n, nw, q, hj, hj2, hnj, rfl, rfl, rfl, hn0, hn1, hst, hg, hbw⟩ := hrel
    have HG := Lib.hid hg
    have HBW := Lib.hid hbw
    clear hg hbw
    by_cases hlt : j < l.length
    · obtain ⟨bb, o, rfl, hbb, hbs⟩ := HL.out (by omega)
      have hc := (hbs.below HBW.out (by omega)).getD hlt
      obtain ⟨d, hd⟩ : ∃ d, d = bn (l.getD j 0) := ⟨_, rfl⟩
      have hdr := bn_range (l.getD j 0)
      have hvb : vb (l.getD j 0) = .int .u8 d := by rw [hd]
      rw [hvb] at hc
      rw [← hd] at hdr
      clear hd hvb hbs
      by_cases hj3 : j < 200
      · by_cases hj0 : 0 < j
        · obtain ⟨x, hx⟩ : ∃ x, x = nw + d := ⟨_, rfl⟩
          have hx0 : 0 ≤ x := by omega
          have hx1 : x ≤ 255 * ((j : Int) + 1) := by omega
          obtain ⟨v, r, hen, hf0, hf1, hroom, hcase⟩ := bst_step hst (show nw ≤ x by omega) hx0 (by omega) hb1 hm1 (by omega)
          have HX := Lib.hid hx
          clear hx hst
          go_wp2_with fail
          rw [← HX.out]
          refine (enter_s HG.out sS x (by simp) (Utf8Tabs_below HT.out HBW.out) hroom hen).mono ?_
          rintro e w4 ⟨rfl, h4, b4⟩
          have H4 := Lib.hid h4; have HB4 := Lib.hid (HBW.out.trans (b4.mono HW1.out)); clear h4 b4 hroom hen
          rcases hcase with ⟨rfl, hn, hst2⟩ | ⟨rfl, hst2⟩
          · go_wp2_with fail
            have hle : ∀ k : Nat, BoundIs (max b 1) (tI (max m 1)) (tI (x + 1)) k → (n : Nat) ≤ k := fun k hk => bst_bound hst2 (by omega) hb1 hm1 (by omega) hx0 (by omega) hk
            have HLE := Lib.hid hle; clear hle
            have HST := Lib.hid hst2; clear hst2
            refine (bound_core (x + 1) b m w4 (by omega) (by omega) (by omega) (by omega) (by omega) (by omega)).mono ?_
            rintro e w7 ⟨k, rfl, hbk, b7⟩
            have hkn := HLE.out k hbk
            have H7 := Lib.hid (H4.out.keep b7)
            have HB7 := Lib.hid (HB4.out.trans (b7.mono (by have := HB4.out.size; omega)))
            clear hbk b7 HLE
            go_wp2_with fail
            go_roundw
            case rel => exact ⟨j + 1, n, x, _, by omega, by omega, by omega, by go_num, rfl, by first | rfl | go_num, hx0, by omega, HST.out, H7.out, HB7.out⟩
            case measure => simp [intOf]; omega
          · go_wp2_with fail
            refine (fail_s H4.out src_s x (by simp) (Utf8Tabs_below HT.out HB4.out) (by omega) (by omega) (by omega) (by omega) hx0 (by omega) hf0 hf1).mono ?_
            rintro e w5 ⟨rfl, h5, b5⟩
            have H5 := Lib.hid h5; have HB5 := Lib.hid (HB4.out.trans (b5.mono HW1.out)); clear h5 b5
            go_wp2_with fail
            have hle : ∀ k : Nat, BoundIs (max b 1) (tI (max m 1)) (tI (x + 1)) k → (n + 1 : Nat) ≤ k := fun k hk => bst_bound hst2 (by omega) hb1 hm1 (by omega) hx0 (by omega) hk
            have HLE := Lib.hid hle; clear hle
            have HST := Lib.hid hst2; clear hst2
            refine (bound_core (x + 1) b m w5 (by omega) (by omega) (by omega) (by omega) (by omega) (by omega)).mono ?_
            rintro e w7 ⟨k, rfl, hbk, b7⟩
            have hkn := HLE.out k hbk
            have H7 := Lib.hid (H5.out.keep b7)
            have HB7 := Lib.hid (HB5.out.trans (b7.mono (by have := HB5.out.size; omega)))
            clear hbk b7 HLE
            go_wp2_with fail
            go_roundw
            case rel => exact ⟨j + 1, n + 1, x, _, by omega, by omega, by omega, by go_num, rfl, by first | rfl | go_num, hx0, by omega, HST.out, H7.out, HB7.out⟩
            case measure => simp [intOf]; omega
        · obtain ⟨x, hx⟩ : ∃ x, x = nw := ⟨_, rfl⟩
          have hx0 : 0 ≤ x := by omega
          have hx1 : x ≤ 255 * ((j : Int) + 1) := by omega
          obtain ⟨v, r, hen, hf0, hf1, hroom, hcase⟩ := bst_step hst (show nw ≤ x by omega) hx0 (by omega) hb1 hm1 (by omega)
          subst hx
          clear hst
          go_wp2_with fail
          refine (enter_s HG.out sS x (by simp) (Utf8Tabs_below HT.out HBW.out) hroom hen).mono ?_
          rintro e w4 ⟨rfl, h4, b4⟩
          have H4 := Lib.hid h4; have HB4 := Lib.hid (HBW.out.trans (b4.mono HW1.out)); clear h4 b4 hroom hen
          rcases hcase with ⟨rfl, hn, hst2⟩ | ⟨rfl, hst2⟩
          · exact absurd hn (by omega)
          · go_wp2_with fail
            refine (fail_s H4.out src_s x (by simp) (Utf8Tabs_below HT.out HB4.out) (by omega) (by omega) (by omega) (by omega) hx0 (by omega) hf0 hf1).mono ?_
            rintro e w5 ⟨rfl, h5, b5⟩
            have H5 := Lib.hid h5; have HB5 := Lib.hid (HB4.out.trans (b5.mono HW1.out)); clear h5 b5
            go_wp2_with fail
            have hle : ∀ k : Nat, BoundIs (max b 1) (tI (max m 1)) (tI (x + 1)) k → (n + 1 : Nat) ≤ k := fun k hk => bst_bound hst2 (by omega) hb1 hm1 (by omega) hx0 (by omega) hk
            have HLE := Lib.hid hle; clear hle
            have HST := Lib.hid hst2; clear hst2
            refine (bound_core (x + 1) b m w5 (by omega) (by omega) (by omega) (by omega) (by omega) (by omega)).mono ?_
            rintro e w7 ⟨k, rfl, hbk, b7⟩
            have hkn := HLE.out k hbk
            have H7 := Lib.hid (H5.out.keep b7)
            have HB7 := Lib.hid (HB5.out.trans (b7.mono (by have := HB5.out.size; omega)))
            clear hbk b7 HLE
            go_wp2_with fail
            go_roundw
            case rel => exact ⟨j + 1, n + 1, x, _, by omega, by omega, by omega, by go_num, rfl, by first | rfl | go_num, hx0, by omega, HST.out, H7.out, HB7.out⟩
            case measure => simp [intOf]; omega
      · go_wp2_with fail
        go_ret
        exact ⟨rfl, HBW.out⟩
    · go_wp2_with fail
      go_ret
      exact ⟨rfl, HBW.out⟩
end Go.Proofs.YtnfkkopegbeacaaDoor
