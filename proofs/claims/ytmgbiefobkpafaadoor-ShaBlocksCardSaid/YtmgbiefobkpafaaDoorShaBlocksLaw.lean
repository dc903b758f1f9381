/- The statement ShaBlocks' own text, walked. -/
import Derived.Test.YtmgbiefobkpafaaDoorShaJoin2
import Derived.Test.YtmgbiefobkpafaaDoorShaAwake
import Derived.Test.YtmgbiefobkpafaaDoorRefTail
import Derived.Test.YtmgbiefobkpafaaDoorSame
import Derived.Test.YtmgbiefobkpafaaDoorSlH
namespace Go.Proofs.YtmgbiefobkpafaaDoor
open Go.RowKit Go.Shelf
set_option maxRecDepth 100000 in
set_option maxHeartbeats 2000000 in
theorem shaBlocks_law (B : Nat) (v : Value) (l : List UInt8) (n : Nat) (w : World) (hs : Sl w B v l) (hn : n ≤ 255) (hB : B ≤ w.heap.size) (hT : TabA w) :
    Calls Tryd.prog 3 #[v, .int .u8 (n : Int)] w fun e w' => e = .returned (.bool true) ∧ Below w.heap.size w w' := by
  have HS := Lib.hid hs; clear hs
  have HT := Lib.hid hT; clear hT
  go_enter Tryd.func3, Tryd.ntmps3
  go_wp2_with fail
  refine (awake1 w HT.out).mono ?_
  rintro e w1 ⟨rfl, hB1⟩
  have HB1 := Lib.hid hB1; clear hB1
  have hz1 := HB1.out.size
  go_wp2_with fail
  refine (cut_any B v l 300 w1 (HS.out.below HB1.out hB) (by omega) (by omega) (by omega)).mono ?_
  rintro e w2 ⟨v2, rfl, hO, hB2⟩
  obtain ⟨m, hm⟩ : ∃ m, m = l.take (300 : Int).toNat := ⟨_, rfl⟩
  rw [← hm] at hO
  have hml : m.length ≤ 300 := by rw [hm, List.length_take]; omega
  clear hm
  have hM := hO.sl
  have HM := Lib.hid hM
  have HB2 := Lib.hid (HB1.out.trans (hB2.mono hz1)); clear hB2 hO
  have hz2 := HB2.out.size
  obtain ⟨Am, cm, rfl, _⟩ := hM
  go_wp2_with fail
  refine (copy_any w2.heap.size _ m w2 HM.out (Nat.le_refl _) (by omega)).mono ?_
  rintro e w3 ⟨v3, rfl, hO3, hB3⟩
  have HM3 := Lib.hid ((HM.out.below hB3 (Nat.le_refl _)).more hB3.size)
  have HO3 := Lib.hid hO3; clear hO3
  have HB3 := Lib.hid (HB2.out.trans (hB3.mono hz2))
  have hz3 := hB3.size
  have HB23 := Lib.hid hB3; clear hB3
  have hun : un m.length = (m.length : Int) := un_lt _ (by omega)
  have htl := fun W => refTail_any m.length W
  rw [hun] at htl
  have HTL := Lib.hid htl; clear htl hun
  go_wp2_with fail
  refine (HTL.out w3).mono ?_
  rintro e w4 ⟨v4, rfl, hO4, hB4⟩
  have HM4 := Lib.hid ((HM3.out.below hB4 (Nat.le_refl _)).more hB4.size)
  have HO34 := Lib.hid (HO3.out.below hB4)
  have HO4 := Lib.hid hO4.sl
  have HB4 := Lib.hid (HB3.out.trans (hB4.mono HB3.out.size))
  have hz4 := hB4.size
  have HB24 := Lib.hid (HB23.out.trans (hB4.mono hz3)); clear hB4
  obtain ⟨A4, c4, rfl, _⟩ := hO4.sl
  clear hO4
  have hpl : (padl m.length).length ≤ 200 := by rw [padl_length]; omega
  have hq0 : (m ++ padl m.length).length = m.length + ((119 - m.length % 64) % 64 + 9) := by rw [List.length_append, padl_length]
  obtain ⟨N, hN1, hN2⟩ : ∃ N, (m ++ padl m.length).length = 64 * N ∧ N ≤ 8 := ⟨(m ++ padl m.length).length / 64, by omega, by omega⟩
  have hdiv : (m ++ padl m.length).length / 64 = N := by omega
  obtain ⟨K, hK⟩ : ∃ K, K = 1 + n % 6 := ⟨_, rfl⟩
  have hj1 := fun W h => join_any W.heap.size (.slice Am m.length cm) m K W h (Nat.le_refl _) (by omega) (by omega) (by omega)
  have hj2 := fun W h => join_any W.heap.size (.slice Am m.length cm) m 1000 W h (Nat.le_refl _) (by omega) (by omega) (by omega)
  rw [hdiv] at hj1 hj2
  rw [show min 1000 N = N by omega] at hj2
  obtain ⟨q, hq⟩ : ∃ q, q = m ++ padl m.length := ⟨_, rfl⟩
  rw [← hq] at hj1 hj2 hN1
  have hqt : q.take (64 * N) = q := by rw [← hN1, List.take_length]
  rw [hqt] at hj2
  obtain ⟨cnt, hcnt⟩ : ∃ cnt, cnt = min K N := ⟨_, rfl⟩
  rw [← hcnt] at hj1
  rw [show ((1000 : Nat) : Int) = 1000 from rfl] at hj2
  have HJ1 := Lib.hid hj1; clear hj1
  have HJ2 := Lib.hid hj2; clear hj2 hqt hdiv hq0
  have HQ := Lib.hid hq; clear hq
  have hcN : cnt ≤ N := by omega
  have HC := Lib.hid hcnt; clear hcnt
  have HK := Lib.hid hK
  have hK1 : 1 ≤ K ∧ K ≤ 6 := by omega
  have hKi : (1 : Int) + (n : Int) % 6 = (K : Int) := by omega
  clear hK
  go_wp2_with (at_builtin; ((with_reducible refine wpList_app_sl ?f1 (.tmp 16) (.tmp 20) ?f2 w2.heap.size v3 m (padl m.length) ?f3 HO34.out w4.heap.size (.slice A4 (padl m.length).length c4) ?f5 HO4.out ?f7 ?f8 ?_); (case f1 => rfl); (case f2 => rfl); (case f3 => rfl); (case f5 => rfl); (case f7 => omega); (case f8 => omega); intro v5 w5 hO5 hg5; rw [← HQ.out] at hO5; have HB5 := Lib.hid (HB4.out.trans ((HO34.out.belowBase hg5 (by omega)).mono hz2)); have hb25 := HB24.out.trans (HO34.out.belowBase hg5 (by omega)); have HM5 := Lib.hid ((HM.out.below hb25 (Nat.le_refl _)).more hb25.size); clear hb25; obtain ⟨A5, c5, rfl, _⟩ := hO5.sl; have HO5 := Lib.hid hO5.sl; clear hO5 hg5))
  refine (HJ1.out w5 HM5.out).mono ?_
  rintro e w6 ⟨v6, rfl, hO6, hB6⟩
  have HO6 := Lib.hid hO6.sl; clear hO6
  have HM6 := Lib.hid (HM5.out.fwd hB6)
  have HO56 := Lib.hid (HO5.out.fwd hB6)
  have HB6 := Lib.hid (HB5.out.trans (hB6.mono HB5.out.size)); clear hB6
  go_wp2_with fail
  refine (HJ2.out w6 HM6.out).mono ?_
  rintro e w7 ⟨v7, rfl, hO7, hB7⟩
  have HO7 := Lib.hid hO7.sl; clear hO7
  have HO67 := Lib.hid (HO6.out.fwd hB7)
  have HO57 := Lib.hid (HO56.out.fwd hB7)
  have HB7 := Lib.hid (HB6.out.trans (hB7.mono HB6.out.size)); clear hB7
  go_wp2_with fail
  have hst : ∃ A c, Value.slice A5 (64 * N) c5 = .slice A (64 * N) c ∧ 64 * cnt ≤ c5 ∧ Sl w7 w7.heap.size (.slice A5 (64 * cnt) c5) (q.take (64 * cnt)) := by
    obtain ⟨A', c', e', h1, _, _, h4⟩ := HO57.out.take (64 * cnt) (by omega)
    obtain ⟨rfl, rfl⟩ : A5 = A' ∧ c5 = c' := by injection e' with a b c; exact ⟨a, c⟩
    exact ⟨_, _, rfl, h1, h4⟩
  obtain ⟨_, _, _, hcc, hst⟩ := hst
  have HST := Lib.hid hst; clear hst
  have hr9 : ∀ W, (Instr.slice 22 (.slice A5 (64 * N) c5) none (some (.int .i64 (64 * (cnt : Int)))) none).run Tryd.prog W = .ok (.slice A5 (64 * cnt) c5) W := fun W => by
    have := slice_hB A5 (64 * N) c5 (64 * cnt) hcc W
    rwa [show ((64 * cnt : Nat) : Int) = 64 * (cnt : Int) by omega] at this
  have hr := hr9 w7
  clear hr9
  have HS7 := Lib.hid (show Sl w7 w7.heap.size (.slice A5 (64 * N) c5) q by have h := HO57.out; rw [hN1] at h; exact h)
  have hcase : (K ≤ N ∧ cnt = K) ∨ (N ≤ K ∧ ¬ K ≤ N ∧ cnt = N) := by have := HC.out; omega
  rcases hcase with ⟨hk1, rfl⟩ | ⟨hk1, hk2, rfl⟩
  · have hk3 : (cnt : Int) ≤ (N : Int) := by omega
    refine (same_true _ _ v7 _ q w7 HO7.out HS7.out).mono ?_
    rintro e w8 ⟨rfl, rfl⟩
    go_wp2_with fail
    refine (same_true _ _ v6 _ _ w7 HO67.out HST.out).mono ?_
    rintro e w8 ⟨rfl, rfl⟩
    go_wp2_with fail
    go_ret
    exact ⟨rfl, HB7.out⟩
  · have hk3 : (cnt : Int) ≤ (K : Int) := by omega
    have hk4 : ¬ (K : Int) ≤ (cnt : Int) := by omega
    refine (same_true _ _ v7 _ q w7 HO7.out HS7.out).mono ?_
    rintro e w8 ⟨rfl, rfl⟩
    go_wp2_with fail
    refine (same_true _ _ v6 _ _ w7 HO67.out HST.out).mono ?_
    rintro e w8 ⟨rfl, rfl⟩
    go_wp2_with fail
    go_ret
    exact ⟨rfl, HB7.out⟩
theorem shaBlocks_wf (B : Nat) (v : Value) (l : List UInt8) (n : Int) (w : World) (h1 : Sl w B v l) (h2 : (Lit.int .u8 n).wf = true) (hB : B ≤ w.heap.size) (hT : TabA w) :
    Calls Tryd.prog 3 #[v, .int .u8 n] w fun e w' => e = .returned (.bool true) ∧ Below w.heap.size w w' := by
  have k : 0 ≤ n ∧ n ≤ 255 := by
    unfold Lit.wf at h2
    simp only [Bool.and_eq_true, decide_eq_true_eq] at h2
    have a : IntKind.u8.min = 0 := by decide
    have b : IntKind.u8.max = 255 := by decide
    omega
  obtain ⟨m, rfl⟩ := Int.eq_ofNat_of_zero_le k.1
  exact shaBlocks_law B v l m w h1 (by omega) hB hT
end Go.Proofs.YtmgbiefobkpafaaDoor
