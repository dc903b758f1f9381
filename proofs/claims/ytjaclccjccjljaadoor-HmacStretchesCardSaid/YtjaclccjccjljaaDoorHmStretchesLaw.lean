/- The statement HmacStretches' own text, walked. -/
import Derived.Test.YtjaclccjccjljaaDoorHmRefS
import Derived.Deep.DeepCutAuto
namespace Go.Proofs.YtjaclccjccjljaaDoor
open Go.RowKit
set_option maxRecDepth 100000 in
theorem refStretch_bad (vp vs : Value) (R S : Int) (w : World) (hbad : R < 1 ∨ 64 < R ∨ S < 1 ∨ 128 < S) :
    Calls Tryd.prog 20 #[vp, vs, .int .i64 R, .int .i64 S] w fun e w' => e = .returned (.slice none 0 0) ∧ Below w.heap.size w w' := by
  by_cases h1 : R < 1
  · go_enter Tryd.func20, Tryd.ntmps20
    go_wp2_with fail
    go_ret
    exact ⟨rfl, Below.refl _ _⟩
  · by_cases h2 : 64 < R
    · go_enter Tryd.func20, Tryd.ntmps20
      go_wp2_with fail
      go_ret
      exact ⟨rfl, Below.refl _ _⟩
    · by_cases h3 : S < 1
      · go_enter Tryd.func20, Tryd.ntmps20
        go_wp2_with fail
        go_ret
        exact ⟨rfl, Below.refl _ _⟩
      · have h4 : 128 < S := by omega
        go_enter Tryd.func20, Tryd.ntmps20
        go_wp2_with fail
        go_ret
        exact ⟨rfl, Below.refl _ _⟩
set_option maxRecDepth 100000 in
set_option maxHeartbeats 2000000 in
theorem hmacStretches_law (B : Nat) (v1 v2 : Value) (l1 l2 : List UInt8) (R S : Int) (w : World) (h1 : Sl w B v1 l1) (h2 : Sl w B v2 l2) (hB : B ≤ w.heap.size) (r0 : -9223372036854775808 ≤ R) (r1 : R ≤ 9223372036854775807) (s0 : -9223372036854775808 ≤ S) (s1 : S ≤ 9223372036854775807) (hT : TabA w) (hU : TabB w) :
    Calls Tryd.prog 5 #[v1, v2, .int .i64 R, .int .i64 S] w fun e w' => e = .returned (.bool true) ∧ Below w.heap.size w w' := by
  have hG := tab_lt hT
  have hG2 : 1 < w.heap.size := World.block_lt_of_cell? w _ (hU 0 (by decide))
  have HT := Lib.hid hT; clear hT
  have HU := Lib.hid hU; clear hU
  have H1 := Lib.hid h1; clear h1
  have H2 := Lib.hid h2; clear h2
  go_enter Tryd.func5, Tryd.ntmps5
  go_wp2_with fail
  refine (awake2 w HT.out).mono ?_
  rintro e w1 ⟨rfl, hB1⟩
  have HB1 := Lib.hid hB1; clear hB1
  have hz1 := HB1.out.size
  go_wp2_with fail
  refine (cut_any B v1 l1 100 w1 (H1.out.below HB1.out hB) (by omega) (by omega) (by omega)).mono ?_
  rintro e w2 ⟨v3, rfl, hO, hB2⟩
  obtain ⟨a, ha⟩ : ∃ a, a = l1.take (100 : Int).toNat := ⟨_, rfl⟩
  rw [← ha] at hO
  have hla : a.length ≤ 100 := by rw [ha, List.length_take]; omega
  clear ha
  have HA := Lib.hid hO.sl; clear hO
  have HB2 := Lib.hid (HB1.out.trans (hB2.mono hz1)); clear hB2
  have hz2 := HB2.out.size
  go_wp2_with fail
  refine (cut_any B v2 l2 60 w2 (H2.out.below HB2.out hB) (by omega) (by omega) (by omega)).mono ?_
  rintro e w3 ⟨v4, rfl, hO, hB3⟩
  obtain ⟨b, hb⟩ : ∃ a, a = l2.take (60 : Int).toNat := ⟨_, rfl⟩
  rw [← hb] at hO
  have hlb : b.length ≤ 60 := by rw [hb, List.length_take]; omega
  clear hb
  have HBb := Lib.hid hO.sl; clear hO
  have HA3 := Lib.hid (HA.out.fwd hB3)
  have HB3 := Lib.hid (HB2.out.trans (hB3.mono hz2)); clear hB3
  have hz3 := HB3.out.size
  go_upto_if 19 with fail
  go_cut [2] (fun s2 wx => w3 = wx ∧ ∃ Q : Int, s2 = .int .i64 Q ∧ -9223372036854775808 ≤ Q ∧ Q ≤ 9223372036854775807)
  case first =>
    by_cases h8 : 8 < R
    · obtain ⟨q, hq⟩ : ∃ q, q = R / 8 := ⟨_, rfl⟩
      go_wp2_with fail
      all_goals
        go_meet
        case rel => exact ⟨rfl, _, rfl, by omega, by omega⟩
    · go_wp2_with fail
      go_meet
      case rel => exact ⟨rfl, _, rfl, r0, r1⟩
  case rest =>
  obtain ⟨rfl, Q, rfl, q0, q1⟩ := hcut
  by_cases hv : 1 ≤ Q ∧ Q ≤ 64 ∧ 1 ≤ S ∧ S ≤ 128
  · obtain ⟨hv1, hv2, hv3, hv4⟩ := hv
    obtain ⟨r, hr⟩ : ∃ r : Nat, Q = (r : Int) := ⟨Q.toNat, (Int.toNat_of_nonneg (by omega)).symm⟩
    obtain ⟨n, hn⟩ : ∃ n : Nat, S = (n : Int) := ⟨S.toNat, (Int.toNat_of_nonneg (by omega)).symm⟩
    have hst := fun W h3 h4 h5 => hmStretch_any v3 v4 a b r n Q S W h3 h4 (by omega) (by omega) h5 hr hn (by omega) (by omega) (by omega) (by omega)
    have hrf := fun W h3 h4 h5 h6 => refStretch_any W.heap.size v3 v4 a b r n Q S W h3 h4 (Nat.le_refl _) (by omega) (by omega) h5 h6 hr hn (by omega) (by omega) (by omega) (by omega)
    have HST := Lib.hid hst; clear hst
    have HRF := Lib.hid hrf; clear hrf
    have hkl := keyS_len a b r n (by omega)
    obtain ⟨q, hq⟩ : ∃ q, q = keyS a b r n := ⟨_, rfl⟩
    rw [← hq] at HST HRF hkl
    have hnn : 1 ≤ n := by omega
    have HKL := Lib.hid hkl; clear hkl hq
    clear hr hn
    go_wp2_with fail
    refine (HST.out w3 HA3.out HBb.out (HT.out.below HB3.out hG)).mono ?_
    rintro e w4 ⟨v5, rfl, hO5, hB4⟩
    have HO5 := Lib.hid hO5; clear hO5
    have HA4 := Lib.hid (HA3.out.fwd hB4)
    have HBb4 := Lib.hid (HBb.out.fwd hB4)
    have HB4 := Lib.hid (HB3.out.trans (hB4.mono hz3)); clear hB4
    have hz4 := HB4.out.size
    go_wp2_with fail
    refine (HRF.out w4 HA4.out HBb4.out (HU.out.below HB4.out hG2) (by show _ < w4.heap.size; omega)).mono ?_
    rintro e w5 ⟨v6, rfl, hS6, hB5⟩
    obtain ⟨A6, c6, rfl, _⟩ := id hS6
    rw [HKL.out] at hS6 ⊢
    have HS6 := Lib.hid hS6; clear hS6
    have HO55 := Lib.hid (HO5.out.sl.fwd hB5)
    have HB5 := Lib.hid (HB4.out.trans (hB5.mono hz4)); clear hB5
    have hne : ¬ (n : Int) = 0 := by omega
    go_wp2_with fail
    refine (same_true _ _ _ _ q w5 HO55.out HS6.out).mono ?_
    rintro e w6 ⟨rfl, rfl⟩
    go_wp2_with fail
    go_ret
    exact ⟨rfl, HB5.out⟩
  · have hbad : Q < 1 ∨ 64 < Q ∨ S < 1 ∨ 128 < S := by omega
    have HBAD := Lib.hid hbad; clear hbad hv
    go_wp2_with fail
    refine (hmStretch_bad v3 v4 Q S w3 HBAD.out).mono ?_
    rintro e w4 ⟨rfl, hB4⟩
    have HB4 := Lib.hid (HB3.out.trans (hB4.mono hz3)); clear hB4
    have hz4 := HB4.out.size
    go_wp2_with fail
    refine (refStretch_bad v3 v4 Q S w4 HBAD.out).mono ?_
    rintro e w5 ⟨rfl, hB5⟩
    have HB5 := Lib.hid (HB4.out.trans (hB5.mono hz4)); clear hB5
    go_wp2_with fail
    go_ret
    exact ⟨rfl, HB5.out⟩
theorem hmacStretches_wf (B : Nat) (v1 : Value) (l1 : List UInt8) (v2 : Value) (l2 : List UInt8) (R S : Int) (w : World) (h1 : Sl w B v1 l1) (h2 : Sl w B v2 l2) (h3 : (Lit.int .i64 R).wf = true) (h4 : (Lit.int .i64 S).wf = true) (hB : B ≤ w.heap.size) (hT : TabA w) (hU : TabB w) :
    Calls Tryd.prog 5 #[v1, v2, .int .i64 R, .int .i64 S] w fun e w' => e = .returned (.bool true) ∧ Below w.heap.size w w' := by
  have k : ∀ n : Int, (Lit.int .i64 n).wf = true → -9223372036854775808 ≤ n ∧ n ≤ 9223372036854775807 := fun n h => by
    unfold Lit.wf at h
    simp only [Bool.and_eq_true, decide_eq_true_eq] at h
    have a : IntKind.i64.min = -9223372036854775808 := by decide
    have b : IntKind.i64.max = 9223372036854775807 := by decide
    omega
  exact hmacStretches_law B v1 v2 l1 l2 R S w h1 h2 hB (k R h3).1 (k R h3).2 (k S h4).1 (k S h4).2 hT hU
end Go.Proofs.YtjaclccjccjljaaDoor
