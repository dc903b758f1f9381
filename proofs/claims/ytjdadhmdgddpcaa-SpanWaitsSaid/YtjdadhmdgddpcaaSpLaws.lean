/- The statements SpanAdds, SpanBounds and SpanGreat, walked. -/
import Derived.Test.YtjdadhmdgddpcaaSpAwake
namespace Go.Proofs.Ytjdadhmdgddpcaa
open Go.RowKit
set_option maxRecDepth 100000 in
set_option maxHeartbeats 1000000 in
theorem spanAdds_law (a b : Int) (w : World) (a0 : 0 ≤ a) (a1 : a < 18446744073709551616) (b0 : 0 ≤ b) (b1 : b < 18446744073709551616) :
    Calls Try.prog 3 #[u64v a, u64v b] w fun e w' => e = .returned (.bool true) ∧ Below w.heap.size w w' := by
  obtain ⟨s, hs⟩ : ∃ s, s = tI (tI a + tI b) := ⟨_, rfl⟩
  obtain ⟨d, hd⟩ : ∃ d, d = max (tI a - tI b) 0 := ⟨_, rfl⟩
  have h1 : s ≤ 1099511627776 := by rw [hs, tI_def]; omega
  have h2 : d ≤ s := by rw [hs, hd, tI_def, tI_def, tI_def]; omega
  have h3 : tI (tI b + tI a) = s := by rw [hs, Int.add_comm]
  have HS := Lib.hid hs; clear hs
  have HD := Lib.hid hd; clear hd
  have H3 := Lib.hid h3; clear h3
  go_enter Try.func3, Try.ntmps3
  go_wp2_with fail
  refine (awake_any w).mono ?_
  rintro e w1 ⟨rfl, hb⟩
  go_wp2_with fail
  refine (add_any a b w1 a0 a1 b0 b1).mono ?_
  rintro e w2 ⟨rfl, rfl⟩
  rw [← HS.out]
  go_wp2_with fail
  refine (sub_any a b w2 a0 a1 b0 b1).mono ?_
  rintro e w3 ⟨rfl, rfl⟩
  rw [← HD.out]
  go_wp2_with fail
  refine (refAdd_any a b w3 a0 a1 b0 b1).mono ?_
  rintro e w4 ⟨rfl, rfl⟩
  rw [← HS.out]
  go_wp2_with fail
  refine (refSub_any a b w4 a0 a1 b0 b1).mono ?_
  rintro e w5 ⟨rfl, rfl⟩
  rw [← HD.out]
  go_wp2_with fail
  refine (add_any b a w5 b0 b1 a0 a1).mono ?_
  rintro e w6 ⟨rfl, rfl⟩
  rw [H3.out]
  go_wp2_with fail
  go_ret
  exact ⟨rfl, hb⟩
set_option maxRecDepth 100000 in
set_option maxHeartbeats 1000000 in
theorem spanBounds_law (tk bs ms : Int) (w : World) (t0 : 0 ≤ tk) (t1 : tk < 4294967296) (b0 : 0 ≤ bs) (b1 : bs < 65536) (m0 : 0 ≤ ms) (m1 : ms < 65536) :
    Calls Try.prog 5 #[.int .u32 tk, .int .u16 bs, .int .u16 ms] w fun e w' => e = .returned (.bool true) ∧ Below w.heap.size w w' := by
  obtain ⟨t, ht⟩ : ∃ t, t = tk % 3000 := ⟨_, rfl⟩
  obtain ⟨mm, hmm⟩ : ∃ m, m = ms % 700 := ⟨_, rfl⟩
  have ht0 : 0 ≤ t ∧ t < 3000 := by omega
  have hm0 : 0 ≤ mm ∧ mm < 700 := by omega
  have etk := ht.symm
  have ems := hmm.symm
  clear ht hmm
  have eT := tI_id (n := t) (by omega)
  have eM := tI_id (n := max mm 1) (by omega)
  by_cases hz : t = 0
  · subst hz
    go_enter Try.func5, Try.ntmps5
    go_wp2_with fail
    refine (awake_any w).mono ?_
    rintro e w1 ⟨rfl, hb⟩
    go_wp2_with fail
    refine (bound_any 0 bs mm w1 (by omega) (by omega) (by omega) (by omega) (by omega) (by omega)).mono ?_
    rintro e w2 ⟨n, rfl, ⟨_, hn, _⟩, hb2⟩
    obtain rfl := hn (by rw [tI_def]; omega)
    have HB := Lib.hid (hb.trans (hb2.mono hb.size)); clear hb hb2 hn
    go_wp2_with fail
    all_goals
      go_ret
      exact ⟨rfl, HB.out⟩
  · have HT := Lib.hid eT; clear eT
    have HM := Lib.hid eM; clear eM
    go_enter Try.func5, Try.ntmps5
    go_wp2_with fail
    refine (awake_any w).mono ?_
    rintro e w1 ⟨rfl, hb⟩
    have HB1 := Lib.hid hb; clear hb
    go_wp2_with fail
    refine (bound_any t bs mm w1 (by omega) (by omega) (by omega) (by omega) (by omega) (by omega)).mono ?_
    rintro e w2 ⟨n, rfl, ⟨_, _, hn⟩, hb2⟩
    obtain ⟨k, rfl, hk⟩ := hn (by rw [HT.out]; omega)
    clear hn
    rw [HT.out, HM.out] at hk
    have HB := Lib.hid (HB1.out.trans (hb2.mono HB1.out.size)); clear HB1 hb2
    obtain ⟨b, hbd⟩ : ∃ b, b = max bs 1 := ⟨_, rfl⟩
    obtain ⟨m, hmd⟩ : ∃ m, m = max mm 1 := ⟨_, rfl⟩
    rw [← hbd, ← hmd] at hk
    have hk1 := hk.1
    have hkt := hk.most (by omega) (by omega)
    have hs1 := hk.2.1
    have hs2 := hk.2.2
    have e1 : tI (sI b m (k - 1)) < t := by rw [tI_def]; omega
    have e2 : t ≤ tI (sI b m k) := by rw [tI_def]; omega
    obtain ⟨x, hx⟩ : ∃ x, x = tI (sI b m (k - 1)) := ⟨_, rfl⟩
    obtain ⟨y, hy⟩ : ∃ y, y = tI (sI b m k) := ⟨_, rfl⟩
    rw [← hx] at e1
    rw [← hy] at e2
    have r1 := fun W => together_any b m (k : Int) W (by omega) (by omega) (by omega) (by omega) (by omega) (by omega)
    have r2 := fun W => together_any b m ((k : Int) + 1) W (by omega) (by omega) (by omega) (by omega) (by omega) (by omega)
    rw [show ((k : Int)).toNat - 1 = k - 1 by omega, ← hx] at r1
    rw [show ((k : Int) + 1).toNat - 1 = k by omega, ← hy] at r2
    have R1 := Lib.hid r1; clear r1 hx
    have R2 := Lib.hid r2; clear r2 hy
    clear hs1 hs2 hk
    obtain ⟨K, hK⟩ : ∃ K : Int, K = (k : Int) := ⟨_, rfl⟩
    rw [← hK] at R1 R2 hkt ⊢
    have hK1 : 1 ≤ K := by omega
    clear hK hk1
    have hbb : (bs < 1 ∧ b = 1) ∨ (1 ≤ bs ∧ b = bs) := by omega
    have hmm : (mm < 1 ∧ m = 1) ∨ (1 ≤ mm ∧ m = mm) := by omega
    clear hbd hmd HT HM
    rcases hmm with ⟨hms, rfl⟩ | ⟨hms, rfl⟩ <;> rcases hbb with ⟨hbs, rfl⟩ | ⟨hbs, rfl⟩
    all_goals
      go_wp2_with fail
      refine (R1.out _).mono ?_
      rintro e w3 ⟨rfl, rfl⟩
      go_wp2_with fail
      refine (R2.out _).mono ?_
      rintro e w4 ⟨rfl, rfl⟩
      go_wp2_with fail
      go_ret
      exact ⟨rfl, HB.out⟩
set_option maxRecDepth 100000 in
set_option maxHeartbeats 1000000 in
theorem spanGreat_law (tk bs ms mo : Int) (w : World) (t0 : 0 ≤ tk) (t1 : tk < 18446744073709551616) (b0 : 0 ≤ bs) (b1 : bs < 18446744073709551616) (m0 : 0 ≤ ms) (m1 : ms < 18446744073709551616) (o0 : 0 ≤ mo) (o1 : mo < 18446744073709551616) :
    Calls Try.prog 6 #[u64v tk, u64v bs, u64v ms, u64v mo] w fun e w' => e = .returned (.bool true) ∧ Below w.heap.size w w' := by
  obtain ⟨t, ht⟩ : ∃ t, t = tI tk := ⟨_, rfl⟩
  have ht0 : 0 ≤ t ∧ t ≤ 1099511627776 := by rw [ht, tI_def]; omega
  obtain ⟨mt, hmt⟩ : ∃ m, m = tI ms := ⟨_, rfl⟩
  have hmt0 : 0 ≤ mt ∧ mt ≤ 1099511627776 := by rw [hmt, tI_def]; omega
  obtain ⟨m, hm⟩ : ∃ m, m = max mt 1 := ⟨_, rfl⟩
  have hm0 : 1 ≤ m ∧ m ≤ 1099511627776 := by omega
  have hm2 : tI (max ms 1) = m := by rw [hm, hmt, tI_def, tI_def]; omega
  have hmc : (mt < 1 ∧ m = 1) ∨ (1 ≤ mt ∧ m = mt) := by omega
  have rT := fun W => refTick_any tk W t0 t1
  rw [← ht] at rT
  have rM := fun W => refTick_any ms W m0 m1
  rw [← hmt] at rM
  obtain ⟨t2, ht2⟩ : ∃ t2, t2 = tI (tI tk + tI mo) := ⟨_, rfl⟩
  have rA := fun W => add_any tk mo W t0 t1 o0 o1
  rw [← ht2] at rA
  have ht22 : t ≤ t2 ∧ t2 ≤ 1099511627776 := by
    have := tI_range o0
    rw [ht2, tI_def (tI tk + tI mo), ← ht]; omega
  have ht2t : tI t2 = t2 := tI_id ht22.2
  obtain ⟨q, hqq⟩ : ∃ q, q = (t - 1) / m := ⟨_, rfl⟩
  have HQ0 : Hid (1 ≤ t → 0 ≤ q ∧ q ≤ 1099511627776) := Lib.hid fun h => by rw [hqq]; exact quo_u64 (by omega) (by omega) hm0.1
  have HQW : Hid (1 ≤ t → IntKind.u64.wrap ((t - 1).tdiv m) = q) := Lib.hid fun h => by rw [hqq]; exact quo_wrap (by omega) (by omega) hm0.1
  have HQ := Lib.hid hqq; clear hqq
  have HT := Lib.hid ht; clear ht
  have HM2 := Lib.hid hm2; clear hm2
  have HT2 := Lib.hid ht2t; clear ht2t
  have RT := Lib.hid rT; clear rT
  have RM := Lib.hid rM; clear rM
  have RA := Lib.hid rA; clear rA
  clear hmt hm ht2
  rcases hmc with ⟨hmc, rfl⟩ | ⟨hmc, rfl⟩
  all_goals
    go_enter Try.func6, Try.ntmps6
    go_wp2_with fail
    refine (awake_any w).mono ?_
    rintro e w1 ⟨rfl, hb⟩
    have HB1 := Lib.hid hb; clear hb
    go_wp2_with fail
    refine (RT.out _).mono ?_
    rintro e w2 ⟨rfl, rfl⟩
    go_wp2_with fail
    refine (RM.out _).mono ?_
    rintro e w3 ⟨rfl, rfl⟩
    go_wp2_with fail
    refine (bound_any tk bs ms w3 (by omega) (by omega) (by omega) (by omega) (by omega) (by omega)).mono ?_
    rintro e w4 ⟨n, rfl, ⟨_, hn0, hn⟩, hb2⟩
    rw [← HT.out, HM2.out] at hn
    rw [← HT.out] at hn0
    have HB := Lib.hid (HB1.out.trans (hb2.mono HB1.out.size)); clear HB1 hb2
    by_cases hz : t = 0
    · obtain rfl := hn0 hz
      clear hn hn0
      go_wp2_with fail
      go_ret
      exact ⟨rfl, HB.out⟩
    · clear hn0
      obtain ⟨k, rfl, hk⟩ := hn (by omega)
      clear hn
      have hl := hk.least (by omega)
      have hu := hk.most2 (by omega) (by omega) (by omega)
      have hkt := hk.most (by omega) (by omega)
      rw [← HQ.out] at hl hu
      have hq := HQ0.out (by omega)
      have hqw := HQW.out (by omega)
      try (have hq1 : 1 + (t - 1) ≤ (k : Int) ∧ (k : Int) ≤ 41 + (t - 1) := by have := HQ.out; omega)
      have HK := Lib.hid hk; clear hk
      obtain ⟨K, hK⟩ : ∃ K : Int, K = (k : Int) := ⟨_, rfl⟩
      rw [← hK] at hl hu hkt ⊢
      try rw [← hK] at hq1
      have HKK := Lib.hid hK; clear hK
      go_wp2_with fail
      refine (RA.out _).mono ?_
      rintro e w5 ⟨rfl, rfl⟩
      go_wp2_with fail
      refine (bound_any t2 bs ms w5 (by omega) (by omega) (by omega) (by omega) (by omega) (by omega)).mono ?_
      rintro e w6 ⟨n2, rfl, ⟨_, _, hn⟩, hb2⟩
      rw [HT2.out, HM2.out] at hn
      obtain ⟨k2, rfl, hk2⟩ := hn (by omega)
      clear hn
      have hle := HK.out.mono hk2 (by omega) (by omega) ht22.1
      have hle2 : K ≤ (k2 : Int) := by rw [HKK.out]; omega
      have hk2t := hk2.most (by omega) (by omega)
      clear hle hk2
      have HB2 := Lib.hid (HB.out.trans (hb2.mono HB.out.size)); clear HB hb2
      obtain ⟨K2, hK2⟩ : ∃ K : Int, K = (k2 : Int) := ⟨_, rfl⟩
      rw [← hK2] at hle2 hk2t ⊢
      clear hK2
      go_wp2_with fail
      go_ret
      exact ⟨by first | rfl | (have h1 := HQ.out; simp; omega), HB2.out⟩
end Go.Proofs.Ytjdadhmdgddpcaa
