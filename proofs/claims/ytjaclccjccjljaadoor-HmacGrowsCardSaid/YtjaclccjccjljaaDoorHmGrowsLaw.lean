/- The statement HmacGrows' own text, walked. -/
import Derived.Test.YtjaclccjccjljaaDoorHmRefS
import Derived.Deep.DeepCutAuto
namespace Go.Proofs.YtjaclccjccjljaaDoor
open Go.RowKit
set_option maxRecDepth 100000 in
theorem refExpand_bad (vp vs : Value) (S : Int) (w : World) (hbad : S < 1 ∨ 128 < S) :
    Calls Tryd.prog 23 #[vp, vs, .int .i64 S] w fun e w' => e = .returned (.slice none 0 0) ∧ Below w.heap.size w w' := by
  by_cases h3 : S < 1
  · go_enter Tryd.func23, Tryd.ntmps23
    go_wp2_with fail
    go_ret
    exact ⟨rfl, Below.refl _ _⟩
  · have h4 : 128 < S := by omega
    go_enter Tryd.func23, Tryd.ntmps23
    go_wp2_with fail
    go_ret
    exact ⟨rfl, Below.refl _ _⟩
/-- No salt is thirty-two noughts. -/
theorem hm_nosalt (secret : List UInt8) : hm (List.replicate 32 0) secret = hm [] secret := by
  have h : padK (List.replicate 32 0) = padK [] := by
    rw [padK_def, padK_def, keyK_short (by simp), keyK_short (by simp)]
    decide
  rw [hm_def, hm_def, h]
theorem keyE_short (key info : List UInt8) (n m : Nat) (h : m ≤ n) : (keyE key info n).take m = keyE key info m := by
  unfold keyE
  rw [List.take_take, Nat.min_eq_left h]
set_option maxRecDepth 100000 in
set_option maxHeartbeats 2000000 in
theorem hmacGrows_law (B : Nat) (v1 v2 v3 : Value) (l1 l2 l3 : List UInt8) (S L : Int) (w : World) (h1 : Sl w B v1 l1) (h2 : Sl w B v2 l2) (h3 : Sl w B v3 l3) (hB : B ≤ w.heap.size) (s0 : -9223372036854775808 ≤ S) (s1 : S ≤ 9223372036854775807) (t0 : -9223372036854775808 ≤ L) (t1 : L ≤ 9223372036854775807) (hT : TabA w) (hU : TabB w) :
    Calls Tryd.prog 6 #[v1, v2, v3, .int .i64 S, .int .i64 L] w fun e w' => e = .returned (.bool true) ∧ Below w.heap.size w w' := by
  have hG := tab_lt hT
  have hG2 : 1 < w.heap.size := World.block_lt_of_cell? w _ (hU 0 (by decide))
  have HT := Lib.hid hT; clear hT
  have HU := Lib.hid hU; clear hU
  have H1 := Lib.hid h1; clear h1
  have H2 := Lib.hid h2; clear h2
  have H3 := Lib.hid h3; clear h3
  have hmk : ∀ W : World, (Instr.makeSlice 22 (.int .i64 32) (.int .i64 32)).run Tryd.prog W = .ok (.slice (some ⟨W.heap.size, 0, none⟩) 32 32) (W.alloc (.cells (noughts 32) 5)) := fun W => make_bytes 32 32 (by omega) (by omega) W
  have HMK := Lib.hid hmk; clear hmk
  go_enter Tryd.func6, Tryd.ntmps6
  go_wp2_with fail
  refine (awake2 w HT.out).mono ?_
  rintro e w1 ⟨rfl, hB1⟩
  have HB1 := Lib.hid hB1; clear hB1
  have hz1 := HB1.out.size
  go_wp2_with fail
  refine (cut_any B v1 l1 100 w1 (H1.out.below HB1.out hB) (by omega) (by omega) (by omega)).mono ?_
  rintro e w2 ⟨a1, rfl, hO, hB2⟩
  obtain ⟨a, ha⟩ : ∃ a, a = l1.take (100 : Int).toNat := ⟨_, rfl⟩
  rw [← ha] at hO
  have hla : a.length ≤ 100 := by rw [ha, List.length_take]; omega
  clear ha
  have HA := Lib.hid hO.sl; clear hO
  have HB2 := Lib.hid (HB1.out.trans (hB2.mono hz1)); clear hB2
  have hz2 := HB2.out.size
  go_wp2_with fail
  refine (cut_any B v2 l2 100 w2 (H2.out.below HB2.out hB) (by omega) (by omega) (by omega)).mono ?_
  rintro e w3 ⟨a2, rfl, hO, hB3⟩
  obtain ⟨b, hb⟩ : ∃ a, a = l2.take (100 : Int).toNat := ⟨_, rfl⟩
  rw [← hb] at hO
  have hlb : b.length ≤ 100 := by rw [hb, List.length_take]; omega
  clear hb
  have HBb := Lib.hid hO.sl; clear hO
  have HA3 := Lib.hid (HA.out.fwd hB3)
  have HB3 := Lib.hid (HB2.out.trans (hB3.mono hz2)); clear hB3
  have hz3 := HB3.out.size
  go_wp2_with fail
  refine (cut_any B v3 l3 60 w3 (H3.out.below HB3.out hB) (by omega) (by omega) (by omega)).mono ?_
  rintro e w4 ⟨a3, rfl, hO, hB4⟩
  obtain ⟨c, hc⟩ : ∃ a, a = l3.take (60 : Int).toNat := ⟨_, rfl⟩
  rw [← hc] at hO
  have hlc : c.length ≤ 60 := by rw [hc, List.length_take]; omega
  clear hc
  have HC := Lib.hid hO.sl; clear hO
  have HA4 := Lib.hid (HA3.out.fwd hB4)
  have HBb4 := Lib.hid (HBb.out.fwd hB4)
  have HB4 := Lib.hid (HB3.out.trans (hB4.mono hz3)); clear hB4
  have hz4 := HB4.out.size
  go_wp2_with fail
  refine (hmExtract_any a1 a2 a b w4 HA4.out HBb4.out (by omega) (by omega) (HT.out.below HB4.out hG)).mono ?_
  rintro e w5 ⟨k1, rfl, hO, hB5⟩
  obtain ⟨key, hkey⟩ : ∃ k, k = hm a b := ⟨_, rfl⟩
  have hkl : key.length = 32 := by rw [hkey, hm_length]
  rw [← hkey] at hO
  have HKE := Lib.hid hkey; clear hkey
  have HKL := Lib.hid hkl; clear hkl
  have HK := Lib.hid hO.sl; clear hO
  have HA5 := Lib.hid (HA4.out.fwd hB5)
  have HBb5 := Lib.hid (HBb4.out.fwd hB5)
  have HC5 := Lib.hid (HC.out.fwd hB5)
  have HB5 := Lib.hid (HB4.out.trans (hB5.mono hz4)); clear hB5
  have hz5 := HB5.out.size
  obtain ⟨A1, c1, e1, _⟩ := id HA5.out
  subst e1
  go_upto_if 32 with fail
  go_cut [12] (fun s12 wx => Below w5.heap.size w5 wx ∧ ∃ f, Sl wx wx.heap.size s12 f ∧ f.length ≤ 100 ∧ hm f b = key)
  case first =>
    by_cases h0 : a.length = 0
    · have hmk := HMK.out w5
      have hz0 : (a.length : Int) = 0 := by omega
      have hx : hm (List.replicate 32 0) b = key := by
        rw [hm_nosalt, HKE.out, List.eq_nil_of_length_eq_zero h0]
      have HX := Lib.hid hx; clear hx h0
      go_wp2_with fail
      go_meet
      case rel =>
        refine ⟨(Below.refl _ _).alloc (Nat.le_refl _) _, List.replicate 32 0, ?_, by simp, HX.out⟩
        rw [World.size_alloc]
        exact Sl.of_new w5 (List.replicate 32 0) (noughts 32) (by apply Array.toList_inj.1; rw [noughts_list, List.map_replicate]) (0, 0) 32 (by simp) (by omega)
    · have hz0 : ¬ (a.length : Int) = 0 := by omega
      have HX := Lib.hid HKE.out.symm
      clear h0
      go_wp2_with fail
      go_meet
      case rel => exact ⟨Below.refl _ _, a, HA5.out, by omega, HX.out⟩
  case rest =>
  obtain ⟨hBc, f, hSf, hlf, hfk⟩ := hcut
  have HF := Lib.hid hSf; clear hSf
  have HFK := Lib.hid hfk; clear hfk
  have HBb6 := Lib.hid (HBb5.out.fwd hBc)
  have HC6 := Lib.hid (HC5.out.fwd hBc)
  have HK6 := Lib.hid (HK.out.fwd hBc)
  have HB6 := Lib.hid (HB5.out.trans (hBc.mono hz5)); clear hBc
  have hz6 := HB6.out.size
  go_wp2_with fail
  refine (refHm_any wc.heap.size _ a2 f b wc (HU.out.below HB6.out hG2) (by show _ < wc.heap.size; omega) HF.out HBb6.out (Nat.le_refl _) (by omega) (by omega)).mono ?_
  rintro e w7 ⟨k2, rfl, hO, hB7⟩
  rw [HFK.out] at hO
  have HK2 := Lib.hid hO.sl; clear hO
  have HC7 := Lib.hid (HC6.out.fwd hB7)
  have HK7 := Lib.hid (HK6.out.fwd hB7)
  have HB7 := Lib.hid (HB6.out.trans (hB7.mono hz6)); clear hB7
  have hz7 := HB7.out.size
  go_wp2_with fail
  refine (same_true _ _ _ _ key w7 HK7.out HK2.out).mono ?_
  rintro e w8 ⟨rfl, rfl⟩
  by_cases hv : 1 ≤ S ∧ S ≤ 128
  · obtain ⟨hv1, hv2⟩ := hv
    obtain ⟨n, hn⟩ : ∃ n : Nat, S = (n : Int) := ⟨S.toNat, (Int.toNat_of_nonneg (by omega)).symm⟩
    have hex := hmExpand_any k1 a3 key c n S w7 HK7.out HC7.out (by have := HKL.out; omega) (by omega) (HT.out.below HB7.out hG) hn (by omega) (by omega)
    have hrf := fun W h3 h4 h5 h6 => refExpand_any W.heap.size k1 a3 key c n S W h3 h4 (Nat.le_refl _) (by have := HKL.out; omega) (by omega) h5 h6 hn (by omega) (by omega)
    have HEX := Lib.hid hex; clear hex
    have HRF := Lib.hid hrf; clear hrf
    have hkl := keyE_len key c n (by omega)
    obtain ⟨q, hq⟩ : ∃ q, q = keyE key c n := ⟨_, rfl⟩
    have hsh : ∀ m, m ≤ n → q.take m = keyE key c m := fun m hm => by rw [hq]; exact keyE_short key c n m hm
    rw [← hq] at HEX HRF hkl
    have HSH := Lib.hid hsh; clear hsh
    have HQL := Lib.hid hkl; clear hkl hq
    have hnn : 1 ≤ n := by omega
    have HN := Lib.hid hn; clear hn
    go_wp2_with fail
    refine HEX.out.mono ?_
    rintro e w9 ⟨g1, rfl, hO, hB9⟩
    obtain ⟨A9, c9, rfl, _⟩ := id hO.sl
    rw [HQL.out] at hO ⊢
    have HG := Lib.hid hO.sl; clear hO
    have HC9 := Lib.hid (HC7.out.fwd hB9)
    have HK9 := Lib.hid (HK7.out.fwd hB9)
    have HB9 := Lib.hid (HB7.out.trans (hB9.mono hz7)); clear hB9
    have hz9 := HB9.out.size
    go_wp2_with fail
    refine (HRF.out w9 HK9.out HC9.out (HU.out.below HB9.out hG2) (by show _ < w9.heap.size; omega)).mono ?_
    rintro e w10 ⟨g2, rfl, hS2, hB10⟩
    obtain ⟨A10, c10, rfl, _⟩ := id hS2
    rw [HQL.out] at hS2 ⊢
    have HG2 := Lib.hid hS2; clear hS2
    have HG10 := Lib.hid (HG.out.fwd hB10)
    have HC10 := Lib.hid (HC9.out.fwd hB10)
    have HK10 := Lib.hid (HK9.out.fwd hB10)
    have HB10 := Lib.hid (HB9.out.trans (hB10.mono hz9)); clear hB10
    have hz10 := HB10.out.size
    have hne : ¬ (n : Int) = 0 := by omega
    go_wp2_with fail
    refine (same_true _ _ _ _ q w10 HG10.out HG2.out).mono ?_
    rintro e w11 ⟨rfl, rfl⟩
    by_cases hl : L < 1 ∨ S < L
    · have HLc := Lib.hid hl
      by_cases hl1 : L < 1
      · clear hl
        go_wp2_with fail
        go_ret
        exact ⟨rfl, HB10.out⟩
      · have hl2 : S < L := by omega
        clear hl
        go_wp2_with fail
        go_ret
        exact ⟨rfl, HB10.out⟩
    · have hl1 : ¬ L < 1 := by omega
      have hl2 : ¬ S < L := by omega
      clear hl
      obtain ⟨m, hm⟩ : ∃ m : Nat, L = (m : Int) := ⟨L.toNat, (Int.toNat_of_nonneg (by omega)).symm⟩
      have hmn : m ≤ n := by have := HN.out; omega
      have hex := hmExpand_any k1 a3 key c m L w10 HK10.out HC10.out (by have := HKL.out; omega) (by omega) (HT.out.below HB10.out hG) hm (by omega) (by omega)
      rw [← HSH.out m hmn] at hex
      have HEX2 := Lib.hid hex; clear hex
      have hLC : m ≤ c9 := by obtain ⟨_, _, e, _, h5, _⟩ := HG10.out; injection e with _ e1 e2; omega
      have hr9 : ∀ W, (Instr.slice 22 (.slice A9 n c9) none (some (.int .i64 L)) none).run Tryd.prog W = .ok (.slice A9 m c9) W := fun W => by rw [hm]; exact slice_hB A9 n c9 m hLC W
      have htk := HG10.out.take m (by rw [HQL.out]; exact hmn)
      obtain ⟨A', c', e', _, _, _, hst⟩ := htk
      rw [HQL.out] at e'
      obtain ⟨rfl, rfl⟩ : A9 = A' ∧ c9 = c' := by injection e' with a b c; exact ⟨a, c⟩
      have HST := Lib.hid hst; clear hst e' hm hLC
      go_wp2_with fail
      refine HEX2.out.mono ?_
      rintro e w12 ⟨g3, rfl, hO, hB12⟩
      have HG3 := Lib.hid hO.sl; clear hO
      have HST2 := Lib.hid (HST.out.fwd hB12)
      have HB12 := Lib.hid (HB10.out.trans (hB12.mono hz10)); clear hB12
      go_wp2_with fail
      refine (same_true _ _ _ _ _ w12 HG3.out HST2.out).mono ?_
      rintro e w13 ⟨rfl, rfl⟩
      go_wp2_with fail
      go_ret
      exact ⟨rfl, HB12.out⟩
  · have hbad : S < 1 ∨ 128 < S := by omega
    have HBAD := Lib.hid hbad; clear hbad hv
    go_wp2_with fail
    refine (hmExpand_bad k1 a3 S w7 HBAD.out).mono ?_
    rintro e w9 ⟨rfl, hB9⟩
    have HB9 := Lib.hid (HB7.out.trans (hB9.mono hz7)); clear hB9
    have hz9 := HB9.out.size
    go_wp2_with fail
    refine (refExpand_bad k1 a3 S w9 HBAD.out).mono ?_
    rintro e w10 ⟨rfl, hB10⟩
    have HB10 := Lib.hid (HB9.out.trans (hB10.mono hz9)); clear hB10
    go_wp2_with fail
    go_ret
    exact ⟨rfl, HB10.out⟩
theorem hmacGrows_wf (B : Nat) (v1 : Value) (l1 : List UInt8) (v2 : Value) (l2 : List UInt8) (v3 : Value) (l3 : List UInt8) (S L : Int) (w : World) (h1 : Sl w B v1 l1) (h2 : Sl w B v2 l2) (h5 : Sl w B v3 l3) (h3 : (Lit.int .i64 S).wf = true) (h4 : (Lit.int .i64 L).wf = true) (hB : B ≤ w.heap.size) (hT : TabA w) (hU : TabB w) :
    Calls Tryd.prog 6 #[v1, v2, v3, .int .i64 S, .int .i64 L] w fun e w' => e = .returned (.bool true) ∧ Below w.heap.size w w' := by
  have k : ∀ n : Int, (Lit.int .i64 n).wf = true → -9223372036854775808 ≤ n ∧ n ≤ 9223372036854775807 := fun n h => by
    unfold Lit.wf at h
    simp only [Bool.and_eq_true, decide_eq_true_eq] at h
    have a : IntKind.i64.min = -9223372036854775808 := by decide
    have b : IntKind.i64.max = 9223372036854775807 := by decide
    omega
  exact hmacGrows_law B v1 v2 v3 l1 l2 l3 S L w h1 h2 h5 hB (k S h3).1 (k S h3).2 (k L h4).1 (k L h4).2 hT hU
end Go.Proofs.YtjaclccjccjljaaDoor
