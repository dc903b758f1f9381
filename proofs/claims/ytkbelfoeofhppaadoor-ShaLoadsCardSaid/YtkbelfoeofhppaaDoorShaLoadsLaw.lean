/- The statement ShaLoads' own text, walked. -/
import Derived.Test.YtkbelfoeofhppaaDoorShaLoadM
import Derived.Test.YtkbelfoeofhppaaDoorShaAwake
import Derived.Test.YtkbelfoeofhppaaDoorCut2
namespace Go.Proofs.YtkbelfoeofhppaaDoor
open Go.RowKit
theorem run_mid (pb po plen pcap : Nat) (h : 40 ≤ plen) (hc : plen ≤ pcap) (W : World) : (Instr.sliceAt 24 (.slice (some ⟨pb, po, none⟩) plen pcap) (some (.int .i64 32)) (some (.int .i64 40)) none).run Tryd.prog W = .ok (.slice (some ⟨pb, po + 32, none⟩) 8 (pcap - 32)) W := by
  have h1 : (40 : Int) ≤ (pcap : Int) := by omega
  have h2 : pcap ≠ 32 := by omega
  simp [go_sem, h1, h2]
theorem num_of {w : World} {b o c : Nat} {q : List UInt8} (h : Bs w b o q) (hl : 40 ≤ q.length) (K : Int) (hK : K = (cntB q : Int)) : Hid (Calls Tryd.prog 28 #[.slice (some ⟨b, o + 32, none⟩) 8 c] w fun e w' => e = .returned (.int .u64 K) ∧ w = w') := Lib.hid (by
  have hb := num_any b (o + 32) c 8 ((q.drop 32).take 8) w (by rw [List.length_take, List.length_drop]; omega) ((h.drop 32).take 8) (by omega)
  have e : un (num ((q.drop 32).take 8)) = K := by
    rw [hK, show num ((q.drop 32).take 8) = cntB q by unfold cntB; rfl, un_lt _ (cnt_lt q hl)]
  rw [e] at hb
  exact hb)
set_option maxRecDepth 100000 in
set_option maxHeartbeats 1000000 in
theorem shaLoads_A (B : Nat) (v : Value) (l q : List UInt8) (w : World) (hs : Sl w B v l) (hB : B ≤ w.heap.size) (hT : TabA w) (hq : q = l.take (150 : Int).toNat) (hA : q.length < 40) :
    Calls Tryd.prog 6 #[v] w fun e w' => e = .returned (.bool true) ∧ Below w.heap.size w w' := by
  have HS := Lib.hid hs; clear hs
  have hG := tab_lt hT
  have HT := Lib.hid hT; clear hT
  have hql : q.length ≤ 150 := by rw [hq]; exact List.length_take_le _ _
  have HQ := Lib.hid hq; clear hq
  have hA' : (q.length : Int) < 40 := by omega
  go_enter Tryd.func6, Tryd.ntmps6
  go_wp2_with fail
  refine (awake1 w HT.out).mono ?_
  rintro e w1 ⟨rfl, hB1⟩
  have HB1 := Lib.hid hB1; clear hB1
  go_wp2_with fail
  refine (cut_any B v l 150 w1 (HS.out.below HB1.out hB) (by have := HB1.out.size; omega) (by omega) (by omega)).mono ?_
  rintro e w2 ⟨v2, rfl, hO, hB2⟩
  rw [← HQ.out] at hO
  obtain ⟨A, c, rfl, _, k1, k2, k3⟩ := hO.sl
  have HO := Lib.hid hO; clear hO
  have K3 := Lib.hid k3; clear k3
  have HB2 := Lib.hid (HB1.out.trans (hB2.mono HB1.out.size)); clear hB2
  go_wp2_with fail
  refine (copy_any w2.heap.size (.slice A q.length c) q w2 HO.out.sl (Nat.le_refl _) (by omega)).mono ?_
  rintro e w3 ⟨v3, rfl, hO3, hB3⟩
  have HO3 := Lib.hid hO3.sl; clear hO3
  have HP3 := Lib.hid (HO.out.below hB3)
  have HB3 := Lib.hid (HB2.out.trans (hB3.mono HB2.out.size))
  have HZ3 := Lib.hid hB3.size
  have HC3 : Hid (0 < q.length → ∃ b o, A = some ⟨b, o, none⟩ ∧ b < w3.heap.size ∧ Bs w3 b o q) := Lib.hid fun hp => by
    obtain ⟨b, o, e, h1, h2⟩ := K3.out hp
    exact ⟨b, o, e, Nat.lt_of_lt_of_le h1 hB3.size, h2.below hB3 h1⟩
  clear hB3
  go_wp2_with fail
  refine (load_short w3.heap.size v3 q w3 HO3.out hA).mono ?_
  rintro e w4 ⟨rfl, rfl⟩
  go_wp2_with fail
  go_ret
  exact ⟨rfl, HB3.out⟩
set_option maxRecDepth 100000 in
set_option maxHeartbeats 1000000 in
theorem shaLoads_B (B : Nat) (v : Value) (l q : List UInt8) (w : World) (hs : Sl w B v l) (hB : B ≤ w.heap.size) (hT : TabA w) (hq : q = l.take (150 : Int).toNat) (hA : 40 ≤ q.length) (hN : 2305843009213693952 ≤ cntB q) :
    Calls Tryd.prog 6 #[v] w fun e w' => e = .returned (.bool true) ∧ Below w.heap.size w w' := by
  have HS := Lib.hid hs; clear hs
  have hG := tab_lt hT
  have HT := Lib.hid hT; clear hT
  have hql : q.length ≤ 150 := by rw [hq]; exact List.length_take_le _ _
  have HQ := Lib.hid hq; clear hq
  obtain ⟨K, hK⟩ : ∃ K : Int, K = (cntB q : Int) := ⟨_, rfl⟩
  obtain ⟨M, hM⟩ : ∃ M, M = q.length - 40 := ⟨_, rfl⟩
  obtain ⟨R, hR⟩ : ∃ R, R = cntB q % 64 := ⟨_, rfl⟩
  have hA' : ¬ (q.length : Int) < 40 := by omega
  have hM1 : (q.length : Int) - 40 = (M : Int) := by omega
  have hR1 : K % 64 = (R : Int) := by omega
  have hK0 : 0 ≤ K ∧ K < 18446744073709551616 := by have := cnt_lt q hA; omega
  have hN1 : 2305843009213693952 ≤ K := by omega
  have HK := Lib.hid hK; clear hK
  have HN := Lib.hid hN; clear hN
  clear hM hR
  go_enter Tryd.func6, Tryd.ntmps6
  go_wp2_with fail
  refine (awake1 w HT.out).mono ?_
  rintro e w1 ⟨rfl, hB1⟩
  have HB1 := Lib.hid hB1; clear hB1
  go_wp2_with fail
  refine (cut_any B v l 150 w1 (HS.out.below HB1.out hB) (by have := HB1.out.size; omega) (by omega) (by omega)).mono ?_
  rintro e w2 ⟨v2, rfl, hO, hB2⟩
  rw [← HQ.out] at hO
  obtain ⟨A, c, rfl, _, k1, k2, k3⟩ := hO.sl
  have HO := Lib.hid hO; clear hO
  have K3 := Lib.hid k3; clear k3
  have HB2 := Lib.hid (HB1.out.trans (hB2.mono HB1.out.size)); clear hB2
  go_wp2_with fail
  refine (copy_any w2.heap.size (.slice A q.length c) q w2 HO.out.sl (Nat.le_refl _) (by omega)).mono ?_
  rintro e w3 ⟨v3, rfl, hO3, hB3⟩
  have HO3 := Lib.hid hO3.sl; clear hO3
  have HP3 := Lib.hid (HO.out.below hB3)
  have HB3 := Lib.hid (HB2.out.trans (hB3.mono HB2.out.size))
  have HZ3 := Lib.hid hB3.size
  have HC3 : Hid (0 < q.length → ∃ b o, A = some ⟨b, o, none⟩ ∧ b < w3.heap.size ∧ Bs w3 b o q) := Lib.hid fun hp => by
    obtain ⟨b, o, e, h1, h2⟩ := K3.out hp
    exact ⟨b, o, e, Nat.lt_of_lt_of_le h1 hB3.size, h2.below hB3 h1⟩
  clear hB3
  go_wp2_with fail
  refine (load_long w3.heap.size v3 q w3 HO3.out hA HN.out).mono ?_
  rintro e w4 ⟨rfl, hB4⟩
  obtain ⟨b, o, rfl, hb, hbs⟩ := HC3.out (by omega)
  have hnum := num_of (c := c - 32) (hbs.below hB4 hb) hA K HK.out
  have HB4 := Lib.hid (HB3.out.trans (hB4.mono HB3.out.size)); clear hB4 hbs
  have hmid := run_mid b o q.length c hA k1
  go_wp2_with fail
  refine hnum.out.mono ?_
  rintro e w5 ⟨rfl, rfl⟩
  clear hmid
  go_wp2_with fail
  go_ret
  exact ⟨rfl, HB4.out⟩
set_option maxRecDepth 100000 in
set_option maxHeartbeats 1000000 in
theorem shaLoads_C (B : Nat) (v : Value) (l q : List UInt8) (w : World) (hs : Sl w B v l) (hB : B ≤ w.heap.size) (hT : TabA w) (hq : q = l.take (150 : Int).toNat) (hA : 40 ≤ q.length) (hN : cntB q < 2305843009213693952) (hlt : q.length - 40 < cntB q % 64) :
    Calls Tryd.prog 6 #[v] w fun e w' => e = .returned (.bool true) ∧ Below w.heap.size w w' := by
  have HS := Lib.hid hs; clear hs
  have hG := tab_lt hT
  have HT := Lib.hid hT; clear hT
  have hql : q.length ≤ 150 := by rw [hq]; exact List.length_take_le _ _
  have HQ := Lib.hid hq; clear hq
  obtain ⟨K, hK⟩ : ∃ K : Int, K = (cntB q : Int) := ⟨_, rfl⟩
  obtain ⟨M, hM⟩ : ∃ M, M = q.length - 40 := ⟨_, rfl⟩
  obtain ⟨R, hR⟩ : ∃ R, R = cntB q % 64 := ⟨_, rfl⟩
  have hA' : ¬ (q.length : Int) < 40 := by omega
  have hM1 : (q.length : Int) - 40 = (M : Int) := by omega
  have hR1 : K % 64 = (R : Int) := by omega
  have hK0 : 0 ≤ K ∧ K < 18446744073709551616 := by have := cnt_lt q hA; omega
  have hMR : (M : Int) < (R : Int) := by omega
  have hN1 : K < 2305843009213693952 := by omega
  have HK := Lib.hid hK; clear hK
  have HN := Lib.hid hN; clear hN
  have HNE : Hid (q.length - 40 ≠ cntB q % 64) := Lib.hid (by omega)
  have HLT := Lib.hid hlt; clear hlt
  clear hM hR
  go_enter Tryd.func6, Tryd.ntmps6
  go_wp2_with fail
  refine (awake1 w HT.out).mono ?_
  rintro e w1 ⟨rfl, hB1⟩
  have HB1 := Lib.hid hB1; clear hB1
  go_wp2_with fail
  refine (cut_any B v l 150 w1 (HS.out.below HB1.out hB) (by have := HB1.out.size; omega) (by omega) (by omega)).mono ?_
  rintro e w2 ⟨v2, rfl, hO, hB2⟩
  rw [← HQ.out] at hO
  obtain ⟨A, c, rfl, _, k1, k2, k3⟩ := hO.sl
  have HO := Lib.hid hO; clear hO
  have K3 := Lib.hid k3; clear k3
  have HB2 := Lib.hid (HB1.out.trans (hB2.mono HB1.out.size)); clear hB2
  go_wp2_with fail
  refine (copy_any w2.heap.size (.slice A q.length c) q w2 HO.out.sl (Nat.le_refl _) (by omega)).mono ?_
  rintro e w3 ⟨v3, rfl, hO3, hB3⟩
  have HO3 := Lib.hid hO3.sl; clear hO3
  have HP3 := Lib.hid (HO.out.below hB3)
  have HB3 := Lib.hid (HB2.out.trans (hB3.mono HB2.out.size))
  have HZ3 := Lib.hid hB3.size
  have HC3 : Hid (0 < q.length → ∃ b o, A = some ⟨b, o, none⟩ ∧ b < w3.heap.size ∧ Bs w3 b o q) := Lib.hid fun hp => by
    obtain ⟨b, o, e, h1, h2⟩ := K3.out hp
    exact ⟨b, o, e, Nat.lt_of_lt_of_le h1 hB3.size, h2.below hB3 h1⟩
  clear hB3
  go_wp2_with fail
  have hload := load_few w3.heap.size v3 q w3 HO3.out hA HN.out HNE.out
  rw [if_pos HLT.out] at hload
  refine hload.mono ?_
  rintro e w4 ⟨rfl, hB4⟩
  obtain ⟨b, o, rfl, hb, hbs⟩ := HC3.out (by omega)
  have hnum := num_of (c := c - 32) (hbs.below hB4 hb) hA K HK.out
  have HB4 := Lib.hid (HB3.out.trans (hB4.mono HB3.out.size)); clear hB4 hbs hload
  have hmid := run_mid b o q.length c hA k1
  go_wp2_with fail
  refine hnum.out.mono ?_
  rintro e w5 ⟨rfl, rfl⟩
  clear hmid
  go_wp2_with fail
  go_ret
  exact ⟨rfl, HB4.out⟩
set_option maxRecDepth 100000 in
set_option maxHeartbeats 1000000 in
theorem shaLoads_D (B : Nat) (v : Value) (l q : List UInt8) (w : World) (hs : Sl w B v l) (hB : B ≤ w.heap.size) (hT : TabA w) (hq : q = l.take (150 : Int).toNat) (hA : 40 ≤ q.length) (hN : cntB q < 2305843009213693952) (hlt : cntB q % 64 < q.length - 40) :
    Calls Tryd.prog 6 #[v] w fun e w' => e = .returned (.bool true) ∧ Below w.heap.size w w' := by
  have HS := Lib.hid hs; clear hs
  have hG := tab_lt hT
  have HT := Lib.hid hT; clear hT
  have hql : q.length ≤ 150 := by rw [hq]; exact List.length_take_le _ _
  have HQ := Lib.hid hq; clear hq
  obtain ⟨K, hK⟩ : ∃ K : Int, K = (cntB q : Int) := ⟨_, rfl⟩
  obtain ⟨M, hM⟩ : ∃ M, M = q.length - 40 := ⟨_, rfl⟩
  obtain ⟨R, hR⟩ : ∃ R, R = cntB q % 64 := ⟨_, rfl⟩
  have hA' : ¬ (q.length : Int) < 40 := by omega
  have hM1 : (q.length : Int) - 40 = (M : Int) := by omega
  have hR1 : K % 64 = (R : Int) := by omega
  have hK0 : 0 ≤ K ∧ K < 18446744073709551616 := by have := cnt_lt q hA; omega
  have hMR : (R : Int) < (M : Int) := by omega
  have hMR2 : ¬ (M : Int) < (R : Int) := by omega
  have hN1 : K < 2305843009213693952 := by omega
  have HK := Lib.hid hK; clear hK
  have HN := Lib.hid hN; clear hN
  have HNE : Hid (q.length - 40 ≠ cntB q % 64) := Lib.hid (by omega)
  have HLT : Hid (¬ q.length - 40 < cntB q % 64) := Lib.hid (by omega)
  clear hM hR hlt
  go_enter Tryd.func6, Tryd.ntmps6
  go_wp2_with fail
  refine (awake1 w HT.out).mono ?_
  rintro e w1 ⟨rfl, hB1⟩
  have HB1 := Lib.hid hB1; clear hB1
  go_wp2_with fail
  refine (cut_any B v l 150 w1 (HS.out.below HB1.out hB) (by have := HB1.out.size; omega) (by omega) (by omega)).mono ?_
  rintro e w2 ⟨v2, rfl, hO, hB2⟩
  rw [← HQ.out] at hO
  obtain ⟨A, c, rfl, _, k1, k2, k3⟩ := hO.sl
  have HO := Lib.hid hO; clear hO
  have K3 := Lib.hid k3; clear k3
  have HB2 := Lib.hid (HB1.out.trans (hB2.mono HB1.out.size)); clear hB2
  go_wp2_with fail
  refine (copy_any w2.heap.size (.slice A q.length c) q w2 HO.out.sl (Nat.le_refl _) (by omega)).mono ?_
  rintro e w3 ⟨v3, rfl, hO3, hB3⟩
  have HO3 := Lib.hid hO3.sl; clear hO3
  have HP3 := Lib.hid (HO.out.below hB3)
  have HB3 := Lib.hid (HB2.out.trans (hB3.mono HB2.out.size))
  have HZ3 := Lib.hid hB3.size
  have HC3 : Hid (0 < q.length → ∃ b o, A = some ⟨b, o, none⟩ ∧ b < w3.heap.size ∧ Bs w3 b o q) := Lib.hid fun hp => by
    obtain ⟨b, o, e, h1, h2⟩ := K3.out hp
    exact ⟨b, o, e, Nat.lt_of_lt_of_le h1 hB3.size, h2.below hB3 h1⟩
  clear hB3
  go_wp2_with fail
  have hload := load_few w3.heap.size v3 q w3 HO3.out hA HN.out HNE.out
  rw [if_neg HLT.out] at hload
  refine hload.mono ?_
  rintro e w4 ⟨rfl, hB4⟩
  obtain ⟨b, o, rfl, hb, hbs⟩ := HC3.out (by omega)
  have hnum := num_of (c := c - 32) (hbs.below hB4 hb) hA K HK.out
  have HB4 := Lib.hid (HB3.out.trans (hB4.mono HB3.out.size)); clear hB4 hbs hload
  have hmid := run_mid b o q.length c hA k1
  go_wp2_with fail
  refine hnum.out.mono ?_
  rintro e w5 ⟨rfl, rfl⟩
  clear hmid
  go_wp2_with fail
  go_ret
  exact ⟨rfl, HB4.out⟩
set_option maxRecDepth 100000 in
set_option maxHeartbeats 1000000 in
theorem shaLoads_E (B : Nat) (v : Value) (l q : List UInt8) (w : World) (hs : Sl w B v l) (hB : B ≤ w.heap.size) (hT : TabA w) (hq : q = l.take (150 : Int).toNat) (hA : 40 ≤ q.length) (hN : cntB q < 2305843009213693952) (hlt : q.length - 40 = cntB q % 64) :
    Calls Tryd.prog 6 #[v] w fun e w' => e = .returned (.bool true) ∧ Below w.heap.size w w' := by
  have HS := Lib.hid hs; clear hs
  have hG := tab_lt hT
  have HT := Lib.hid hT; clear hT
  have hql : q.length ≤ 150 := by rw [hq]; exact List.length_take_le _ _
  have HQ := Lib.hid hq; clear hq
  obtain ⟨K, hK⟩ : ∃ K : Int, K = (cntB q : Int) := ⟨_, rfl⟩
  obtain ⟨M, hM⟩ : ∃ M, M = q.length - 40 := ⟨_, rfl⟩
  have hA' : ¬ (q.length : Int) < 40 := by omega
  have hM1 : (q.length : Int) - 40 = (M : Int) := by omega
  have hR1 : K % 64 = (M : Int) := by omega
  have hK0 : 0 ≤ K ∧ K < 18446744073709551616 := by have := cnt_lt q hA; omega
  have hN1 : K < 2305843009213693952 := by omega
  have HK := Lib.hid hK; clear hK
  have HN := Lib.hid hN; clear hN
  have HLT := Lib.hid hlt; clear hlt
  clear hM
  go_enter Tryd.func6, Tryd.ntmps6
  go_wp2_with fail
  refine (awake1 w HT.out).mono ?_
  rintro e w1 ⟨rfl, hB1⟩
  have HB1 := Lib.hid hB1; clear hB1
  go_wp2_with fail
  refine (cut_any B v l 150 w1 (HS.out.below HB1.out hB) (by have := HB1.out.size; omega) (by omega) (by omega)).mono ?_
  rintro e w2 ⟨v2, rfl, hO, hB2⟩
  rw [← HQ.out] at hO
  obtain ⟨A, c, rfl, _, k1, k2, k3⟩ := hO.sl
  have HO := Lib.hid hO; clear hO
  have K3 := Lib.hid k3; clear k3
  have HB2 := Lib.hid (HB1.out.trans (hB2.mono HB1.out.size)); clear hB2
  go_wp2_with fail
  refine (copy_any w2.heap.size (.slice A q.length c) q w2 HO.out.sl (Nat.le_refl _) (by omega)).mono ?_
  rintro e w3 ⟨v3, rfl, hO3, hB3⟩
  have HO3 := Lib.hid hO3.sl; clear hO3
  have HP3 := Lib.hid (HO.out.below hB3)
  have HB3 := Lib.hid (HB2.out.trans (hB3.mono HB2.out.size))
  have HZ3 := Lib.hid hB3.size
  have HC3 : Hid (0 < q.length → ∃ b o, A = some ⟨b, o, none⟩ ∧ b < w3.heap.size ∧ Bs w3 b o q) := Lib.hid fun hp => by
    obtain ⟨b, o, e, h1, h2⟩ := K3.out hp
    exact ⟨b, o, e, Nat.lt_of_lt_of_le h1 hB3.size, h2.below hB3 h1⟩
  clear hB3
  go_wp2_with fail
  refine (load_ok w3.heap.size v3 q w3 HO3.out (Nat.le_refl _) hA HN.out HLT.out).mono ?_
  rintro e w4 ⟨rfl, hH4, hB4⟩
  obtain ⟨b, o, rfl, hb, hbs⟩ := HC3.out (by omega)
  obtain ⟨H, hHe⟩ : ∃ H, H = w3.heap.size := ⟨_, rfl⟩
  rw [← hHe] at hH4 ⊢
  clear hHe
  have hnum := num_of (c := c - 32) (hbs.below hB4 hb) hA K HK.out
  have HS4 : Hid (Sl w4 w4.heap.size (.slice (some ⟨b, o, none⟩) q.length c) q) := Lib.hid (HP3.out.below hB4).sl
  have HH4 := Lib.hid hH4
  have hlen : Hid (Calls Tryd.prog 20 #[.pointer (some ⟨H, 0, none⟩)] w4 fun e w' => e = .returned (.int .u64 K) ∧ w4 = w') := Lib.hid (by
    have := len_any H _ _ _ w4 hH4
    rwa [un_lt _ (cnt_lt q hA), ← HK.out] at this)
  have HB4 := Lib.hid (HB3.out.trans (hB4.mono HB3.out.size)); clear hB4 hbs hH4
  have hmid := run_mid b o q.length c hA k1
  go_wp2_with fail
  refine hnum.out.mono ?_
  rintro e w5 ⟨rfl, rfl⟩
  clear hmid
  go_wp2_with fail
  refine hlen.out.mono ?_
  rintro e w5 ⟨rfl, rfl⟩
  go_wp2_with fail
  refine (saveH_any H _ _ _ w4 HH4.out).mono ?_
  rintro e w5 ⟨v5, rfl, hO5, hB5⟩
  rw [saved_loaded q hA] at hO5
  have HO5 := Lib.hid hO5.sl; clear hO5
  have HS5 := Lib.hid (HS4.out.below hB5 (Nat.le_refl _))
  have HB5 := Lib.hid (HB4.out.trans (hB5.mono HB4.out.size)); clear hB5
  go_wp2_with fail
  refine (same_true _ _ v5 _ q w5 HO5.out HS5.out).mono ?_
  rintro e w6 ⟨rfl, rfl⟩
  go_wp2_with fail
  go_ret
  exact ⟨rfl, HB5.out⟩
theorem shaLoads_law (B : Nat) (v : Value) (l : List UInt8) (w : World) (hs : Sl w B v l) (hB : B ≤ w.heap.size) (hT : TabA w) :
    Calls Tryd.prog 6 #[v] w fun e w' => e = .returned (.bool true) ∧ Below w.heap.size w w' := by
  by_cases hA : (l.take (150 : Int).toNat).length < 40
  · exact shaLoads_A B v l _ w hs hB hT rfl hA
  · by_cases hN : cntB (l.take (150 : Int).toNat) < 2305843009213693952
    · rcases Nat.lt_trichotomy ((l.take (150 : Int).toNat).length - 40) (cntB (l.take (150 : Int).toNat) % 64) with h | h | h
      · exact shaLoads_C B v l _ w hs hB hT rfl (by omega) hN h
      · exact shaLoads_E B v l _ w hs hB hT rfl (by omega) hN h
      · exact shaLoads_D B v l _ w hs hB hT rfl (by omega) hN h
    · exact shaLoads_B B v l _ w hs hB hT rfl (by omega) (by omega)
end Go.Proofs.YtkbelfoeofhppaaDoor
