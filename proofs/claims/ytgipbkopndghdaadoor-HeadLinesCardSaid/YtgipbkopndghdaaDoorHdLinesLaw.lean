/- HeadLines' walk. -/
import Derived.Test.YtgipbkopndghdaaDoorHdLnL
import Derived.Test.YtgipbkopndghdaaDoorHdLnR
import Derived.Test.YtgipbkopndghdaaDoorHdAwk
import Derived.Test.YtgipbkopndghdaaDoorCut2
import Derived.Test.YtgipbkopndghdaaDoorReg
import Derived.Test.YtgipbkopndghdaaDoorHdLongLaw
namespace Go.Proofs.YtgipbkopndghdaaDoor
open Go.RowKit Go.Shelf
set_option maxRecDepth 100000 in
set_option maxHeartbeats 2000000 in
theorem linesW_law (B0 : Nat) (v0 : Value) (l0 : List UInt8) (u : Int) (w : World) (hs0 : Sl w B0 v0 l0) (hu : (Lit.int .u8 u).wf = true) (hB0 : B0 ≤ w.heap.size) (hE : Env w) :
    Calls Tryd.prog 5 #[v0, .int .u8 u] w fun e w' => e = .returned (.bool true) ∧ Below w.heap.size w w' := by
  obtain ⟨hu0, hu1⟩ := u8_rngH hu
  obtain ⟨K, hKu⟩ : ∃ K : Nat, (K : Int) = 1 + u % 4 := ⟨(1 + u % 4).toNat, by omega⟩
  have hK1 : 1 ≤ K := by omega
  have hK2 : K ≤ 9 := by omega
  have hum : 0 ≤ u % 4 ∧ u % 4 < 4 := by omega
  have HKU := Lib.hid hKu; clear hKu hu
  have HV0 := Lib.hid hs0
  have HE := Lib.hid hE
  have HA := Lib.hid (awake9 w hE)
  obtain ⟨A0, C0, e0, hq⟩ := hs0
  subst e0; clear hq hE
  go_enter Tryd.func5, Tryd.ntmps5
  go_wp2_with fail
  refine HA.out.mono ?_
  rintro e w1 ⟨rfl, hB1⟩
  have HB1 := Lib.hid hB1
  have hcut := cut_any B0 _ l0 200 w1 (HV0.out.below hB1 hB0) (Nat.le_trans hB0 hB1.size) (by omega) (by omega)
  have HCUT := Lib.hid hcut
  clear hB1 hcut HA
  go_wp2_with fail
  refine HCUT.out.mono ?_
  rintro e w2 ⟨vp, rfl, hOp, hB2⟩
  obtain ⟨s, hs⟩ : ∃ s, s = l0.take (200 : Int).toNat := ⟨_, rfl⟩
  rw [← hs] at hOp
  have hsl : s.length ≤ 200 := by rw [hs, List.length_take]; omega
  clear hs
  have HV2 := Lib.hid hOp.sl
  have hcv := conv_sl hOp.sl
  obtain ⟨PA, PC, e0, hq⟩ := hOp.sl
  subst e0; clear hq
  have HB2 := Lib.hid (HB1.out.trans (hB2.mono HB1.out.size))
  have HE2 := Lib.hid (HE.out.below HB2.out)
  have hrl := linesL_len s
  have f1 := refLines_any s w2 (by omega)
  have f2 := fun W (h : Env W) (hv : Sl W w2.heap.size (.slice PA s.length PC) s) (hz : w2.heap.size ≤ W.heap.size) => lines_any w2.heap.size (.slice PA s.length PC) s 1000 W hv hz (by omega) (by omega) (by omega) h
  have f3 := fun W (h : Env W) (hv : Sl W w2.heap.size (.slice PA s.length PC) s) (hz : w2.heap.size ≤ W.heap.size) => lines_any w2.heap.size (.slice PA s.length PC) s K W hv hz (by omega) hK1 (by omega) h
  have HT := HE2
  obtain ⟨xs, hxs⟩ : ∃ xs, xs = linesL s := ⟨_, rfl⟩
  rw [← hxs] at hrl f1 f2 f3
  rw [List.take_of_length_le (show xs.length ≤ 1000 by omega)] at f2
  clear hxs
  have F1 := Lib.hid f1
  have F2 := Lib.hid f2
  have F3 := Lib.hid f3
  clear f1 f2 f3 hOp hB2 HCUT
  go_wp2_with fail
  clear hcv
  refine F1.out.mono ?_
  rintro e w3 ⟨v2, rfl, hO2, hB3⟩
  obtain ⟨A, c, rfl, hc⟩ := hO2.cap
  have HIN := Lib.hid hO2.lnIn
  have HB3 := Lib.hid hB3; clear hB3 hO2 F1
  have hku := HKU.out
  go_wp2_with fail
  rw [← hku]
  clear hku
  obtain ⟨M, hM, hMr⟩ : ∃ M : Nat, M = min xs.length K ∧ (M ≤ xs.length) := ⟨_, rfl, by omega⟩
  have hmin : min (xs.length : Int) (K : Int) = (M : Int) := by omega
  have htk : xs.take K = xs.take M := by rw [hM, Nat.min_comm, ← List.take_take, List.take_length]
  rw [htk] at F3
  have hsl2 := fun W => slice_hL A xs.length c M (by omega) W
  have HSL := Lib.hid hsl2
  have HMIN := Lib.hid hmin
  have HI3 := HIN
  have HV := HV2
  clear hM htk hmin hsl2
  refine wp_region_noPanic ?_
  refine wp_region_held (S := fun _ => True) (by kernel_rfl) ?_
  change wpAnyH _ _ _ _ _ _ _ _ w3.drew
  have HBd := Lib.hid HB3.out.drew
  have HId := Lib.hid (HI3.out.below (Below.refl _ _).drew)
  clear HB3 HI3
  refine takeH 0 18 (Value.slice PA s.length PC) rfl rfl (by kernel_rfl) (by kernel_rfl) (by kernel_rfl) (fun _ _ _ h => h) rfl (fun w' _ => by go_simp) trivial ?_
  go_frame
  refine takeH 2 20 (Value.slice A xs.length c) rfl rfl (by kernel_rfl) (by kernel_rfl) (by kernel_rfl) (fun _ _ _ h => h) rfl (fun w' _ => by go_simp) trivial ?_
  go_frame
  refine wpAnyH_all (rs := [1]) (by kernel_rfl) (by simp) ?_
  simp only [List.mem_singleton, forall_eq]
  refine wpOp_callD 19 rfl rfl rfl 25 #[Value.slice PA s.length PC, .int .i64 1000] (by go_simp) ?_
  refine (F2.out w3.drew (HE2.out.below HBd.out) (HV2.out.below HBd.out (Nat.le_refl _)) HBd.out.size).mono ?_
  rintro e w4 ⟨v4, rfl, hO4, hB4⟩
  have HI4 := Lib.hid (HId.out.below hB4)
  have HS4 := Lib.hid hO4.lnIn; clear hO4
  have HB4 := Lib.hid (HBd.out.trans (hB4.mono HBd.out.size)); clear hB4
  refine ⟨_, rfl, trivial, ?_⟩
  go_frame
  refine wpAnyH_all (rs := [3]) (by kernel_rfl) (by simp) ?_
  simp only [List.mem_singleton, forall_eq]
  refine wpOp_callD 21 rfl rfl rfl 24 #[v4, Value.slice A xs.length c] (by go_simp) ?_
  refine (equalLn_any v4 _ xs w4 HS4.out HI4.out (by omega)).mono ?_
  rintro e w5 ⟨rfl, hB5⟩
  have HI5 := Lib.hid (HI4.out.below hB5)
  have HB5 := Lib.hid (HB4.out.trans (hB5.mono HB4.out.size)); clear hB5
  refine ⟨_, rfl, trivial, ?_⟩
  go_frame
  refine takeH 4 22 (.bool true) rfl rfl (by kernel_rfl) (by kernel_rfl) (by kernel_rfl) (fun _ _ _ h => h) rfl (fun w' _ => by go_simp) trivial ?_
  go_frame
  refine takeH 5 23 (Value.slice PA s.length PC) rfl rfl (by kernel_rfl) (by kernel_rfl) (by kernel_rfl) (fun _ _ _ h => h) rfl (fun w' _ => by go_simp) trivial ?_
  go_frame
  refine takeH 6 24 (.int .i64 (K : Int)) rfl rfl (by kernel_rfl) (by kernel_rfl) (by kernel_rfl) (fun _ _ _ h => h) rfl (fun w' _ => by go_simp) trivial ?_
  go_frame
  refine takeH 8 26 (Value.slice A xs.length c) rfl rfl (by kernel_rfl) (by kernel_rfl) (by kernel_rfl) (fun _ _ _ h => h) rfl (fun w' _ => by go_simp) trivial ?_
  go_frame
  refine takeH 9 27 (Value.slice A xs.length c) rfl rfl (by kernel_rfl) (by kernel_rfl) (by kernel_rfl) (fun _ _ _ h => h) rfl (fun w' _ => by go_simp) trivial ?_
  go_frame
  refine takeH 10 28 (.int .i64 (xs.length : Int)) rfl rfl (by kernel_rfl) (by kernel_rfl) (by kernel_rfl) (fun _ _ _ h => h) rfl (fun w' _ => by go_simp) trivial ?_
  go_frame
  refine takeH 11 29 (.int .i64 (K : Int)) rfl rfl (by kernel_rfl) (by kernel_rfl) (by kernel_rfl) (fun _ _ _ h => h) rfl (fun w' _ => by go_simp) trivial ?_
  go_frame
  refine takeH 12 30 (.int .i64 (M : Int)) rfl rfl (by kernel_rfl) (by kernel_rfl) (by kernel_rfl) (fun _ _ _ h => h) rfl (fun w' _ => by go_simp; exact HMIN.out) trivial ?_
  go_frame
  have hsl3 := HSL.out
  refine wpAnyH_all (rs := [7, 13]) (by kernel_rfl) (by simp) ?_
  simp only [List.mem_cons, List.not_mem_nil, or_false, forall_eq_or_imp, forall_eq]
  refine ⟨?_, ?_⟩
  · refine wpOp_callD 25 rfl rfl rfl 25 #[Value.slice PA s.length PC, .int .i64 (K : Int)] (by go_simp) ?_
    refine (F3.out w5 (HE2.out.below HB5.out) (HV2.out.below HB5.out (Nat.le_refl _)) HB5.out.size).mono ?_
    rintro e w6 ⟨v6, rfl, hO6, hB6⟩
    have HI6 := Lib.hid ((HI5.out.below hB6).take rfl hMr)
    have HS6 := Lib.hid hO6.lnIn; clear hO6
    have HB6 := Lib.hid (HB5.out.trans (hB6.mono HB5.out.size)); clear hB6
    refine ⟨_, rfl, trivial, ?_⟩
    go_frame
    refine wpAnyH_all (rs := [13]) (by kernel_rfl) (by simp) ?_
    simp only [List.mem_singleton, forall_eq]
    refine wpOp_valueD 31 rfl rfl rfl (.slice A M c) (by go_simp) ⟨trivial, ?_⟩
    go_frame
    refine wpAnyH_all (rs := [14]) (by kernel_rfl) (by simp) ?_
    simp only [List.mem_singleton, forall_eq]
    refine wpOp_callD 32 rfl rfl rfl 24 #[v6, Value.slice A M c] (by go_simp) ?_
    refine (equalLn_any v6 _ (xs.take M) w6 HS6.out HI6.out (by rw [List.length_take]; omega)).mono ?_
    rintro e w7 ⟨rfl, hB7⟩
    have HB7 := Lib.hid (HB6.out.trans (hB7.mono HB6.out.size)); clear hB7
    refine ⟨_, rfl, trivial, ?_⟩
    go_frame
    refine takeH 15 33 (.bool true) rfl rfl (by kernel_rfl) (by kernel_rfl) (by kernel_rfl) (fun _ _ _ h => h) rfl (fun w' _ => by go_simp) trivial ?_
    go_frame
    refine takeH 16 4 (.bool true) rfl rfl (by kernel_rfl) (by kernel_rfl) (by kernel_rfl) (fun _ _ _ h => h) rfl (fun w' _ => by go_simp) trivial ?_
    go_frame
    refine wpAnyH_done (by kernel_rfl) ?_ _
    refine NoPanic.normal ?_
    go_wp2_with fail
    go_ret
    exact ⟨rfl, HB2.out.trans (HB7.out.mono HB2.out.size)⟩
  · refine wpOp_valueD 31 rfl rfl rfl (.slice A M c) (by go_simp) ⟨trivial, ?_⟩
    go_frame
    refine wpAnyH_all (rs := [7]) (by kernel_rfl) (by simp) ?_
    simp only [List.mem_singleton, forall_eq]
    refine wpOp_callD 25 rfl rfl rfl 25 #[Value.slice PA s.length PC, .int .i64 (K : Int)] (by go_simp) ?_
    refine (F3.out w5 (HE2.out.below HB5.out) (HV2.out.below HB5.out (Nat.le_refl _)) HB5.out.size).mono ?_
    rintro e w6 ⟨v6, rfl, hO6, hB6⟩
    have HI6 := Lib.hid ((HI5.out.below hB6).take rfl hMr)
    have HS6 := Lib.hid hO6.lnIn; clear hO6
    have HB6 := Lib.hid (HB5.out.trans (hB6.mono HB5.out.size)); clear hB6
    refine ⟨_, rfl, trivial, ?_⟩
    go_frame
    refine wpAnyH_all (rs := [14]) (by kernel_rfl) (by simp) ?_
    simp only [List.mem_singleton, forall_eq]
    refine wpOp_callD 32 rfl rfl rfl 24 #[v6, Value.slice A M c] (by go_simp) ?_
    refine (equalLn_any v6 _ (xs.take M) w6 HS6.out HI6.out (by rw [List.length_take]; omega)).mono ?_
    rintro e w7 ⟨rfl, hB7⟩
    have HB7 := Lib.hid (HB6.out.trans (hB7.mono HB6.out.size)); clear hB7
    refine ⟨_, rfl, trivial, ?_⟩
    go_frame
    refine takeH 15 33 (.bool true) rfl rfl (by kernel_rfl) (by kernel_rfl) (by kernel_rfl) (fun _ _ _ h => h) rfl (fun w' _ => by go_simp) trivial ?_
    go_frame
    refine takeH 16 4 (.bool true) rfl rfl (by kernel_rfl) (by kernel_rfl) (by kernel_rfl) (fun _ _ _ h => h) rfl (fun w' _ => by go_simp) trivial ?_
    go_frame
    refine wpAnyH_done (by kernel_rfl) ?_ _
    refine NoPanic.normal ?_
    go_wp2_with fail
    go_ret
    exact ⟨rfl, HB2.out.trans (HB7.out.mono HB2.out.size)⟩
end Go.Proofs.YtgipbkopndghdaaDoor
