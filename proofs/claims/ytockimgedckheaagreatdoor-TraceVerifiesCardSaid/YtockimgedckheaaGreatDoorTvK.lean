/- trace: the law TraceKeeps. trace: TraceKeeps' law, for the card. -/
import Derived.Test.YtockimgedckheaaGreatDoorTvW
import Derived.Test.YtockimgedckheaaGreatDoorTvLd
import Derived.Test.YtockimgedckheaaGreatDoorTvRs
set_option maxRecDepth 100000
namespace Go.Proofs.YtockimgedckheaaGreatDoor
open Go Go.RowKit Go.Shelf
attribute [local go_sem] Oper.semAt_some
theorem firstN_take (K : List EvL) (h : 0 < K.length) : firstN K = K[0].n := by
  cases K with
  | nil => simp at h
  | cons x t => rfl
theorem thW_belowK (W : World) (A : Option Addr) (f : Value) : Below W.heap.size W (thW W A f) := by
  unfold thW; exact ((Below.refl _ W).alloc (Nat.le_refl _) _).alloc (by simp) _
theorem own_z32 (w : World) : OwnB (w.alloc (.cells (noughts 32) 5)) w.heap.size (.slice (some ⟨w.heap.size, 0, none⟩) 32 32) z32 :=
  OwnB.of_heap (n := 32) (Nat.le_refl _) (heap_alloc_new w _) (noughts_size 32) (by decide) (by simp [z32]) (by rw [noughts_list]; simp [z32]) (Nat.le_refl _)
set_option maxHeartbeats 16000000 in
theorem traceKeeps_law (r : Int) (hr0 : 0 ≤ r) (_hr1 : r ≤ 255) (B : Nat) (vl : Value) (ops : List OpT) (since : Nat) (w : World) (hops : OpsT w B vl ops) (hB : B ≤ w.heap.size) (hT : TabA w) (hTB : TabB w) (hG : 3 < w.heap.size) (hE : PowE w) :
    Calls Tryz.prog 4 #[.int .u8 r, vl, .int .u64 (since : Int)] w fun e w' => e = .returned (.bool true) ∧ Below w.heap.size w w' := by
  have HAW := Lib.hid (awake23 w hT hE)
  obtain ⟨k, hk⟩ : ∃ k : Nat, k = 1 + (r % 12).toNat := ⟨_, rfl⟩
  have hk1 : 1 ≤ k := by omega
  have hk2 : k ≤ 12 := by omega
  have hkr : (1 : Int) + r % 12 = (k : Int) := by omega
  have hm0 : 0 ≤ r % 12 := by omega
  have hm1 : r % 12 < 12 := by omega
  have htm : r.tmod 12 = r % 12 := by rw [Int.tmod_eq_emod_of_nonneg hr0]
  have hw8 : IntKind.u8.wrap (r % 12) = r % 12 := IntWalk.u8_in _ (by omega)
  have hwi : IntKind.i64.wrap (r % 12) = r % 12 := IntWalk.i64_in _ (by omega)
  have HBU := Lib.hid (fun W (hb : Below w.heap.size w W) => build_any k hk1 (by omega) B vl ops W (hops.below hb hB) (Nat.le_trans hB hb.size) (hT.below hb (tab_lt hT)) (hE.below hb))
  have HTB := Lib.hid (fun W (hb : Below w.heap.size w W) => (hTB.below hb hG : TabB W))
  clear hops hT hE hTB hk
  go_enter Tryz.func4, Tryz.ntmps4
  go_wp2_with fail
  refine HAW.out.mono ?_
  rintro e w1 ⟨rfl, hB1⟩
  have HB1 := Lib.hid hB1
  clear hB1 HAW
  go_wp2_with fail
  refine (HBU.out w1 HB1.out).mono ?_
  rintro e w2 ⟨rfl, ⟨V, C, VX, all, hP2, hal⟩, hB2⟩
  have HB2 := Lib.hid (HB1.out.trans (hB2.mono HB1.out.size))
  have HP2 := Lib.hid hP2
  have HAL := Lib.hid hal
  obtain ⟨T, hTT⟩ : ∃ T, T = w1.heap.size + 1 := ⟨_, rfl⟩
  obtain ⟨bx, hbx⟩ : ∃ T, T = w1.heap.size + 2 := ⟨_, rfl⟩
  obtain ⟨base, hbase⟩ : ∃ T, T = w1.heap.size := ⟨_, rfl⟩
  rw [← hTT, ← hbx, ← hbase] at HP2
  rw [← hTT, ← hbx]
  clear hB2 hP2 hal HBU hTT hbx hbase
  go_wp2_with fail
  refine (known_any HP2.out.xt (by omega)).mono ?_
  rintro e w3 ⟨v3, q3, rfl, hev, hw3⟩
  have hb3 : Below w2.heap.size w2 w3 := by rw [hw3]; exact below_drewN (Below.refl _ _) q3
  have HP3 := Lib.hid (HP2.out.below hb3)
  have HB3 := Lib.hid (HB2.out.trans (hb3.mono HB2.out.size))
  have HEV := Lib.hid (hev.below hb3 (Nat.le_refl _))
  have hz3 : w3.heap.size = w2.heap.size := by rw [hw3]; rfl
  have HKL := Lib.hid (lastL_len k all)
  have HNM := Lib.hid (show lastL k all = all.drop (all.length - k) from rfl)
  obtain ⟨K, hK⟩ : ∃ K, K = lastL k all := ⟨_, rfl⟩
  rw [← hK] at HEV HKL
  have HK := Lib.hid hK
  clear hK hb3 hw3 hev
  obtain ⟨AK, cK, rfl, hcK1, ⟨hcK2, _⟩, -⟩ := id HEV.out
  go_wp2_with fail
  go_loopw [11, 34] (fun c i wr => ∃ j : Nat, j ≤ K.length ∧ i = .int .i64 (j : Int) ∧ OwnV tEr wr w3.heap.size c ((K.take j).filter (sinP since)) ∧ Below w3.heap.size w3 wr) (fun _ i _ => K.length - (intOf i).toNat)
  case atStart => exact ⟨0, by omega, rfl, by rw [List.take_zero]; exact OwnV.nil _ _ _, Below.refl _ _⟩
  case round =>
    obtain ⟨j, hjl, rfl, hs, hb⟩ := hrel
    have HS := Lib.hid hs
    have HB := Lib.hid hb
    clear hs hb
    by_cases hlt : j < K.length
    · obtain ⟨g0, o0, hAs, hgl, c0, c1, c2, c3, c4⟩ := (HEV.out.below HB.out (by omega)).five j hlt
      subst hAs
      obtain ⟨y, hy⟩ : ∃ y, y = K[j] := ⟨_, rfl⟩
      rw [← hy] at c0 c1 c2 c3 c4
      have htk : (K.take (j + 1)).filter (sinP since) = (K.take j).filter (sinP since) ++ (if sinP since y = true then [y] else []) := by
        rw [List.take_succ_eq_append_getElem hlt, List.filter_append, ← hy]
        cases hp : sinP since y <;> simp [hp]
      have hfl : ((K.take j).filter (sinP since)).length ≤ 1000 := by
        have h1 := List.length_filter_le (sinP since) (K.take j)
        have h2 : (K.take j).length ≤ K.length := by rw [List.length_take]; omega
        have := HKL.out
        omega
      obtain ⟨F, hF⟩ : ∃ F, F = (K.take j).filter (sinP since) := ⟨_, rfl⟩
      rw [← hF] at htk hfl HS
      have HTK := Lib.hid htk
      have HFL := Lib.hid hfl
      obtain ⟨A2, hA2⟩ : ∃ A2, A2 = wr.alloc (.cells #[.int .u64 y.n, .int .u64 y.tick, str y.kind, .int .i64 y.conn, str y.text] tEr) := ⟨_, rfl⟩
      have HBA := Lib.hid (show Below wr.heap.size wr A2 from by rw [hA2]; exact (Below.refl _ wr).alloc (Nat.le_refl _) _)
      obtain ⟨A3, hA3⟩ : ∃ A3, A3 = A2.alloc (.cells #[.int .u64 y.n, .int .u64 y.tick, str y.kind, .int .i64 y.conn, str y.text] tEr) := ⟨_, rfl⟩
      have hb3 : Below wr.heap.size wr A3 := by rw [hA3, hA2]; exact ((Below.refl _ wr).alloc (Nat.le_refl _) _).alloc (by simp) _
      have HB3' := Lib.hid hb3
      have HO3 := Lib.hid (HS.out.below hb3)
      have HN3 := Lib.hid (show A3.heap[A2.heap.size]? = some (.cells y.cells.toArray tEr (0, 0)) from by rw [hA3]; exact heap_alloc_new A2 _)
      have HA3 := Lib.hid (show A3 = (wr.alloc (.cells #[.int .u64 y.n, .int .u64 y.tick, str y.kind, .int .i64 y.conn, str y.text] tEr)).alloc (.cells #[.int .u64 y.n, .int .u64 y.tick, str y.kind, .int .i64 y.conn, str y.text] tEr) from by rw [hA3, hA2])
      have HZ := Lib.hid (show A2.heap.size = wr.heap.size + 1 from by rw [hA2]; simp)
      have HZB := Lib.hid (show w3.heap.size ≤ A3.heap.size from by have := hb3.size; have := HB.out.size; omega)
      have HA2' := Lib.hid hA2
      clear htk hF hy hfl hA3 hA2 hb3
      by_cases hp : since < y.n
      · have d1 : decide (since < y.n) = true := decide_eq_true hp
        have d2 : decide ((since : Int) < (y.n : Int)) = true := decide_eq_true (by omega)
        have HPY := Lib.hid (show (if sinP since y = true then [y] else []) = [y] from by unfold sinP; rw [d1]; rfl)
        go_wp2_with (at_builtin; (refine wpList_app_ev evTr rfl (.tmp 42) (.tmp 44) rfl w3.heap.size u11 F y rfl (by have := HO3.out; rw [HA3.out] at this; exact this) (wr.heap.size + 1) rfl (by have := HN3.out; rw [HA3.out, HZ.out] at this; exact this) (by have := HFL.out; omega) (by have := HZB.out; rw [HA3.out] at this; exact this) ?_); intro v5 w5 hO5 hg5 _; rw [← HA3.out] at hg5; have HB5 := Lib.hid ((HB.out.trans (HB3'.out.mono HB.out.size)).trans (HO3.out.belowBase hg5 HZB.out)); have HO5 := Lib.hid hO5; clear hO5 hg5)
        go_roundw
        case rel => exact ⟨j + 1, by omega, by go_num, by rw [HTK.out, HPY.out]; exact HO5.out, HB5.out⟩
        case measure => simp [intOf]; omega
      · have d1 : decide (since < y.n) = false := decide_eq_false hp
        have d2 : decide ((since : Int) < (y.n : Int)) = false := decide_eq_false (by omega)
        have HPY := Lib.hid (show (if sinP since y = true then [y] else []) = [] from by unfold sinP; rw [d1]; rfl)
        go_wp2_with fail
        go_roundw
        case rel => exact ⟨j + 1, by omega, by go_num, by rw [HTK.out, HPY.out, List.append_nil]; rw [← HA2'.out]; exact HS.out.below HBA.out, by rw [← HA2'.out]; exact HB.out.trans (HBA.out.mono HB.out.size)⟩
        case measure => simp [intOf]; omega
    · have hjx : j = K.length := by omega
      rw [hjx, List.take_length] at HS
      have HP4 := Lib.hid (HP3.out.below HB.out)
      have HB4 := Lib.hid (HB3.out.trans (HB.out.mono (by have := HB3.out.size; omega)))
      go_wp2_with fail
      refine (known_any HP4.out.xt (by omega)).mono ?_
      rintro e w5 ⟨v5, q5, rfl, hev5, hw5⟩
      have hb5 : Below wr.heap.size wr w5 := by rw [hw5]; exact below_drewN (Below.refl _ _) q5
      have HP5 := Lib.hid (HP4.out.below hb5)
      have HB5 := Lib.hid (HB4.out.trans (hb5.mono HB4.out.size))
      have HE5 := Lib.hid (show EvIn w5 wr.heap.size v5 K from by have := hev5.below hb5 (Nat.le_refl _); rw [← HK.out] at this; exact this)
      have HW5 := Lib.hid (show EvIn w5 w5.heap.size u11 (K.filter (sinP since)) from (HS.out.evIn.below hb5 (Nat.le_refl _)).more hb5.size)
      have HFLL := Lib.hid (show (K.filter (sinP since)).length ≤ 1000 from by have := List.length_filter_le (sinP since) K; have := HKL.out; omega)
      obtain ⟨XA, XC, eVX, -, -⟩ := HP5.out.xt.own.form
      subst eVX
      have hwl : IntKind.u64.wrap (all.length : Int) = (all.length : Int) := IntWalk.u64_in _ (by have := HAL.out; omega)
      clear hb5 hw5 hev5 HP4 HB4
      obtain ⟨A5, c5, rfl, hc51, ⟨hc52, _⟩, -⟩ := id HE5.out
      by_cases hK0 : K.length = 0
      · have hKn : K = [] := List.eq_nil_of_length_eq_zero hK0
        have HFN := Lib.hid (show ((firstN K : Nat) : Int) = 0 from by rw [hKn]; rfl)
        have hK0i : ¬ (0 : Int) < (K.length : Int) := by omega
        have dK : decide ((0 : Int) < (K.length : Int)) = false := decide_eq_false hK0i
        clear hKn hK0
        go_wp2_with fail
        refine wp_region_noPanic ?_
        refine wp_region_held (S := fun W' => W'.cell? ⟨bx, 1, none⟩ = some (.slice XA all.length XC)) (by kernel_rfl) ?_
        change wpAnyH _ _ _ _ _ _ _ _ (World.drew _)
        obtain ⟨X0, hX0⟩ : ∃ V, V = World.drew w5 := ⟨_, rfl⟩
        have hbx0 : Below w5.heap.size w5 X0 := by rw [hX0]; exact (Below.refl _ w5).drew
        have HPX := Lib.hid (HP5.out.below hbx0)
        have HBX := Lib.hid (HB5.out.trans (hbx0.mono HB5.out.size))
        have HWX := Lib.hid ((HW5.out).below hbx0 (Nat.le_refl _))
        have hzx : X0.heap.size = w5.heap.size := by rw [hX0]; rfl
        have HB0 := Lib.hid (Below.refl X0.heap.size X0)
        have HSX := Lib.hid (fun W' (hb : Below X0.heap.size X0 W') => (show W'.cell? ⟨bx, 1, none⟩ = some (.slice XA all.length XC) from (HPX.out.below hb).xt.blk.at (o := 1) rfl))
        rw [← hX0]
        clear hX0 hbx0
        have HX := Lib.hid (HSX.out X0 HB0.out)
        refine takeH 0 56 (tQ T) rfl rfl (by kernel_rfl) (by kernel_rfl) (by kernel_rfl) (fun _ _ _ h => h) rfl (fun w' h => by go_simp) HX.out ?_
        go_frame
        refine takeH 1 57 (.int .u64 (since : Int)) rfl rfl (by kernel_rfl) (by kernel_rfl) (by kernel_rfl) (fun _ _ _ h => h) rfl (fun w' h => by go_simp) HX.out ?_
        go_frame
        refine takeH 5 61 (u11) rfl rfl (by kernel_rfl) (by kernel_rfl) (by kernel_rfl) (fun _ _ _ h => h) rfl (fun w' h => by go_simp) HX.out ?_
        go_frame
        refine wpAnyH_all (rs := [2]) (by kernel_rfl) (by simp) ?_
        simp only [List.mem_singleton, forall_eq]
        refine wpOp_callD 58 rfl rfl rfl 18 #[tQ T, .int .u64 (since : Int)] (by go_simp) ?_
        refine (trSince (some ⟨T, 0, none⟩) since X0).mono ?_
        rintro e X1 ⟨rfl, hX1⟩
        have HB1' := Lib.hid (show Below X0.heap.size X0 X1 from by rw [hX1]; exact ((Below.refl _ X0).alloc (Nat.le_refl _) _).trans ((thW_belowK _ _ _).mono (by simp)))
        have HSN := Lib.hid (show Calls Tryz.prog 17 #[thV (X0.heap.size + 1)] X1 _ from by rw [hX1]; exact since_tr HPX.out.tr since)
        clear hX1
        clear HX
        have HX := Lib.hid (HSX.out _ HB1'.out)
        refine ⟨_, rfl, HX.out, ?_⟩
        go_frame
        refine wpAnyH_all (rs := [3]) (by kernel_rfl) (by simp) ?_
        simp only [List.mem_singleton, forall_eq]
        refine wpOp_callD 59 rfl rfl rfl 17 #[thV (X0.heap.size + 1)] (by go_simp) ?_
        refine (HSN.out).mono ?_
        rintro e X2 ⟨vC, rfl, hO2, hB2⟩
        have HB2' := Lib.hid hB2
        have HO2 := Lib.hid (show OwnV tEv X2 (X0.heap.size + 3) vC (K.filter (sinP since)) from by rw [HK.out]; exact hO2)
        clear hB2 hO2 HSN
        clear HX
        have HX := Lib.hid (HSX.out _ HB2'.out)
        refine ⟨_, rfl, HX.out, ?_⟩
        go_frame
        refine wpAnyH_all (rs := [4]) (by kernel_rfl) (by simp) ?_
        simp only [List.mem_singleton, forall_eq]
        refine wpOp_callD 60 rfl rfl rfl 16 #[vC] (by go_simp) ?_
        refine (back_any X2.heap.size vC (K.filter (sinP since)) X2 HO2.out.evIn (Nat.le_refl _) (by have := HFLL.out; omega)).mono ?_
        rintro e X3 ⟨vK, rfl, hO3, hB3⟩
        have HB3' := Lib.hid (HB2'.out.trans (hB3.mono HB2'.out.size))
        have HO3 := Lib.hid hO3
        clear hB3 hO3 HO2
        clear HX
        have HX := Lib.hid (HSX.out _ HB3'.out)
        refine ⟨_, rfl, HX.out, ?_⟩
        go_frame
        refine wpAnyH_all (rs := [6]) (by kernel_rfl) (by simp) ?_
        simp only [List.mem_singleton, forall_eq]
        refine wpOp_callD 62 rfl rfl rfl 15 #[vK, u11] (by go_simp) ?_
        refine (equalEv_same X3.heap.size X0.heap.size vK u11 (K.filter (sinP since)) X3 HO3.out.evIn ((HWX.out.more (by omega)).below HB3'.out (Nat.le_refl _)) (by have := HFLL.out; omega)).mono ?_
        rintro e X4 ⟨rfl, q4, hX4⟩
        have HB4' := Lib.hid (HB3'.out.trans (show Below X0.heap.size X3 X4 from by rw [hX4]; exact below_drewN (Below.refl _ _) q4))
        clear hX4 HO3
        clear HX
        have HX := Lib.hid (HSX.out _ HB4'.out)
        refine ⟨_, rfl, HX.out, ?_⟩
        go_frame
        refine takeH 7 63 (.bool true) rfl rfl (by kernel_rfl) (by kernel_rfl) (by kernel_rfl) (fun _ _ _ h => h) rfl (fun w' h => by go_simp) HX.out ?_
        go_frame
        refine takeH 8 64 (tQ T) rfl rfl (by kernel_rfl) (by kernel_rfl) (by kernel_rfl) (fun _ _ _ h => h) rfl (fun w' h => by go_simp) HX.out ?_
        go_frame
        refine takeH 10 66 (.int .u64 0) rfl rfl (by kernel_rfl) (by kernel_rfl) (by kernel_rfl) (fun _ _ _ h => h) rfl (fun w' h => by go_simp) HX.out ?_
        go_frame
        refine wpAnyH_all (rs := [9]) (by kernel_rfl) (by simp) ?_
        simp only [List.mem_singleton, forall_eq]
        refine wpOp_callD 65 rfl rfl rfl 19 #[tQ T] (by go_simp) ?_
        refine (show Calls Tryz.prog 19 #[tQ T] X4 (fun e w' => e = .returned (.int .u64 0) ∧ w' = X4) from by have := trFirst_any (HPX.out.below HB4'.out).tr; rw [← HK.out] at this; rw [HFN.out] at this; exact this).mono ?_
        rintro e X5 ⟨rfl, hX5⟩
        have HB5' := Lib.hid (show Below X0.heap.size X0 X5 from by rw [hX5]; exact HB4'.out)
        clear hX5
        clear HX
        have HX := Lib.hid (HSX.out _ HB5'.out)
        refine ⟨_, rfl, HX.out, ?_⟩
        go_frame
        refine takeH 11 67 (.bool true) rfl rfl (by kernel_rfl) (by kernel_rfl) (by kernel_rfl) (fun _ _ _ h => h) rfl (fun w' h => by go_simp) HX.out ?_
        go_frame
        refine takeH 12 68 (.bool true) rfl rfl (by kernel_rfl) (by kernel_rfl) (by kernel_rfl) (fun _ _ _ h => h) rfl (fun w' h => by go_simp) HX.out ?_
        go_frame
        refine takeH 13 69 (.bool true) rfl rfl (by kernel_rfl) (by kernel_rfl) (by kernel_rfl) (fun _ _ _ h => h) rfl (fun w' h => by go_simp) HX.out ?_
        go_frame
        refine takeH 14 70 (tQ T) rfl rfl (by kernel_rfl) (by kernel_rfl) (by kernel_rfl) (fun _ _ _ h => h) rfl (fun w' h => by go_simp) HX.out ?_
        go_frame
        refine takeH 16 72 (tQ bx) rfl rfl (by kernel_rfl) (by kernel_rfl) (by kernel_rfl) (fun _ _ _ h => h) rfl (fun w' h => by go_simp) HX.out ?_
        go_frame
        refine takeH 17 73 (tQ bx) rfl rfl (by kernel_rfl) (by kernel_rfl) (by kernel_rfl) (fun _ _ _ h => h) rfl (fun w' h => by go_simp) HX.out ?_
        go_frame
        refine takeH 18 74 (.pointer (some ⟨bx, 1, none⟩)) rfl rfl (by kernel_rfl) (by kernel_rfl) (by kernel_rfl) (fun _ _ _ h => h) rfl (fun w' h => by go_simp) HX.out ?_
        go_frame
        refine takeH 19 75 (.slice XA all.length XC) rfl rfl (by kernel_rfl) (by kernel_rfl) (by kernel_rfl) (fun _ _ _ h => h) rfl (fun w' h => by go_simp) HX.out ?_
        go_frame
        refine takeH 20 76 (.int .i64 (all.length : Int)) rfl rfl (by kernel_rfl) (by kernel_rfl) (by kernel_rfl) (fun _ _ _ h => h) rfl (fun w' h => by go_simp) HX.out ?_
        go_frame
        refine takeH 21 77 (.int .u64 (all.length : Int)) rfl rfl (by kernel_rfl) (by kernel_rfl) (by kernel_rfl) (fun _ _ _ h => h) rfl (fun w' h => by go_simp) HX.out ?_
        go_frame
        refine wpAnyH_all (rs := [15]) (by kernel_rfl) (by simp) ?_
        simp only [List.mem_singleton, forall_eq]
        refine wpOp_callD 71 rfl rfl rfl 20 #[tQ T] (by go_simp) ?_
        refine (trLast_any (HPX.out.below HB5'.out).tr).mono ?_
        rintro e X6 ⟨rfl, hX6⟩
        have HB6' := Lib.hid (show Below X0.heap.size X0 X6 from by rw [hX6]; exact HB5'.out)
        clear hX6
        clear HX
        have HX := Lib.hid (HSX.out _ HB6'.out)
        refine ⟨_, rfl, HX.out, ?_⟩
        go_frame
        refine takeH 22 78 (.bool true) rfl rfl (by kernel_rfl) (by kernel_rfl) (by kernel_rfl) (fun _ _ _ h => h) rfl (fun w' h => by go_simp) HX.out ?_
        go_frame
        refine takeH 23 79 (.bool true) rfl rfl (by kernel_rfl) (by kernel_rfl) (by kernel_rfl) (fun _ _ _ h => h) rfl (fun w' h => by go_simp) HX.out ?_
        go_frame
        refine takeH 24 80 (.bool true) rfl rfl (by kernel_rfl) (by kernel_rfl) (by kernel_rfl) (fun _ _ _ h => h) rfl (fun w' h => by go_simp) HX.out ?_
        go_frame
        refine takeH 25 81 (tQ T) rfl rfl (by kernel_rfl) (by kernel_rfl) (by kernel_rfl) (fun _ _ _ h => h) rfl (fun w' h => by go_simp) HX.out ?_
        go_frame
        refine takeH 28 84 (tQ bx) rfl rfl (by kernel_rfl) (by kernel_rfl) (by kernel_rfl) (fun _ _ _ h => h) rfl (fun w' h => by go_simp) HX.out ?_
        go_frame
        refine takeH 29 85 (tQ bx) rfl rfl (by kernel_rfl) (by kernel_rfl) (by kernel_rfl) (fun _ _ _ h => h) rfl (fun w' h => by go_simp) HX.out ?_
        go_frame
        refine takeH 30 86 (.pointer (some ⟨bx, 1, none⟩)) rfl rfl (by kernel_rfl) (by kernel_rfl) (by kernel_rfl) (fun _ _ _ h => h) rfl (fun w' h => by go_simp) HX.out ?_
        go_frame
        refine takeH 31 87 (.slice XA all.length XC) rfl rfl (by kernel_rfl) (by kernel_rfl) (by kernel_rfl) (fun _ _ _ h => h) rfl (fun w' h => by go_simp) HX.out ?_
        go_frame
        refine wpAnyH_all (rs := [26, 27]) (by kernel_rfl) (by simp) ?_
        simp only [List.mem_cons, List.not_mem_nil, or_false, forall_eq_or_imp, forall_eq]
        refine ⟨?_, ?_⟩
        refine wpOp_callD 82 rfl rfl rfl 22 #[tQ T] (by go_simp) ?_
        refine (trChain_any (HPX.out.below HB6'.out).tr).mono ?_
        rintro e X7 ⟨vH, rfl, hOH, hBH⟩
        have HB7' := Lib.hid (HB6'.out.trans (hBH.mono HB6'.out.size))
        have HOH := Lib.hid (show Sl X7 X7.heap.size vH (chainR z32 all) from hOH.sl)
        clear hBH hOH
        clear HX
        have HX := Lib.hid (HSX.out _ HB7'.out)
        refine ⟨_, rfl, HX.out, ?_⟩
        go_frame
        refine wpAnyH_all (rs := [27]) (by kernel_rfl) (by simp) ?_
        simp only [List.mem_singleton, forall_eq]
        obtain ⟨X8, hX8⟩ : ∃ V, V = X7.alloc (.cells (noughts 32) 5) := ⟨_, rfl⟩
        have HB8' := Lib.hid (show Below X0.heap.size X0 X8 from by rw [hX8]; exact HB7'.out.alloc HB7'.out.size _)
        have HON := Lib.hid (show Sl X8 X8.heap.size (.slice (some ⟨X7.heap.size, 0, none⟩) 32 32) z32 from by rw [hX8]; exact (own_z32 X7).sl)
        have hbm8 : Below X7.heap.size X7 X8 := by rw [hX8]; exact (Below.refl _ _).alloc (Nat.le_refl _) _
        have hm : (Instr.makeSlice 56 (.int .i64 32) (.int .i64 32)).run Tryz.prog X7 = .ok (.slice (some ⟨X7.heap.size, 0, none⟩) 32 32) X8 := by rw [hX8]; exact make_bytes 32 32 (by omega) (by omega) X7
        refine wpOp_valueX 83 rfl rfl rfl (.slice (some ⟨X7.heap.size, 0, none⟩) 32 32) X8 (by go_simp) ⟨HSX.out _ HB8'.out, ?_⟩
        clear hm hX8 HX
        have HX := Lib.hid (HSX.out _ HB8'.out)
        go_frame
        have HH8 := Lib.hid ((HOH.out.below hbm8 (Nat.le_refl _)).more hbm8.size)
        have HZ8 := Lib.hid HON.out
        have hG8 : 3 < X8.heap.size := by have := HBX.out.size; have := HB8'.out.size; omega
        refine wpAnyH_all (rs := [32]) (by kernel_rfl) (by simp) ?_
        simp only [List.mem_singleton, forall_eq]
        refine wpOp_callD 88 rfl rfl rfl 23 #[.slice (some ⟨X7.heap.size, 0, none⟩) 32 32, .slice XA all.length XC] (by go_simp) ?_
        refine (refChain_any X8.heap.size _ z32 _ all X8 HZ8.out (Nat.le_refl _) (by show (List.replicate 32 (0 : UInt8)).length ≤ 100; simp) ((HPX.out.below HB8'.out).xt.own.evIn) (by have := HAL.out; omega) (fun e he => (HPX.out.ok e he).kind) (HTB.out X8 (HBX.out.trans (HB8'.out.mono HBX.out.size))) hG8).mono ?_
        rintro e X9 ⟨vR, rfl, hS9, hB9⟩
        have HB9' := Lib.hid (HB8'.out.trans (hB9.mono HB8'.out.size))
        have HS9 := Lib.hid hS9
        have HH9 := Lib.hid (HH8.out.below hB9 (Nat.le_refl _))
        clear hB9 hS9
        clear HX
        have HX := Lib.hid (HSX.out _ HB9'.out)
        refine ⟨_, rfl, HX.out, ?_⟩
        go_frame
        refine wpAnyH_all (rs := [33]) (by kernel_rfl) (by simp) ?_
        simp only [List.mem_singleton, forall_eq]
        refine wpOp_callD 89 rfl rfl rfl 21 #[vH, vR] (by go_simp) ?_
        refine (same_true X8.heap.size X9.heap.size vH vR (chainR z32 all) X9 HH9.out HS9.out).mono ?_
        rintro e X10 ⟨rfl, hX10⟩
        have HB10' := Lib.hid (show Below X0.heap.size X0 X10 from by rw [← hX10]; exact HB9'.out)
        clear hX10
        clear HX
        have HX := Lib.hid (HSX.out _ HB10'.out)
        refine ⟨_, rfl, HX.out, ?_⟩
        go_frame
        refine takeH 34 90 (.bool true) rfl rfl (by kernel_rfl) (by kernel_rfl) (by kernel_rfl) (fun _ _ _ h => h) rfl (fun w' h => by go_simp) HX.out ?_
        go_frame
        refine takeH 35 6 (.bool true) rfl rfl (by kernel_rfl) (by kernel_rfl) (by kernel_rfl) (fun _ _ _ h => h) rfl (fun w' h => by go_simp) HX.out ?_
        go_frame
        refine wpAnyH_done (by kernel_rfl) ?_ _
        refine NoPanic.normal ?_
        go_wp2_with fail
        go_ret
        exact ⟨rfl, HBX.out.trans (HB10'.out.mono HBX.out.size)⟩
        obtain ⟨X7, hX7⟩ : ∃ V, V = X6.alloc (.cells (noughts 32) 5) := ⟨_, rfl⟩
        have HB7' := Lib.hid (show Below X0.heap.size X0 X7 from by rw [hX7]; exact HB6'.out.alloc HB6'.out.size _)
        have HON := Lib.hid (show Sl X7 X7.heap.size (.slice (some ⟨X6.heap.size, 0, none⟩) 32 32) z32 from by rw [hX7]; exact (own_z32 X6).sl)
        have hbm7 : Below X6.heap.size X6 X7 := by rw [hX7]; exact (Below.refl _ _).alloc (Nat.le_refl _) _
        have hm : (Instr.makeSlice 56 (.int .i64 32) (.int .i64 32)).run Tryz.prog X6 = .ok (.slice (some ⟨X6.heap.size, 0, none⟩) 32 32) X7 := by rw [hX7]; exact make_bytes 32 32 (by omega) (by omega) X6
        refine wpOp_valueX 83 rfl rfl rfl (.slice (some ⟨X6.heap.size, 0, none⟩) 32 32) X7 (by go_simp) ⟨HSX.out _ HB7'.out, ?_⟩
        clear hm hX7 HX
        have HX := Lib.hid (HSX.out _ HB7'.out)
        go_frame
        refine wpAnyH_all (rs := [26]) (by kernel_rfl) (by simp) ?_
        simp only [List.mem_singleton, forall_eq]
        refine wpOp_callD 82 rfl rfl rfl 22 #[tQ T] (by go_simp) ?_
        refine (trChain_any (HPX.out.below HB7'.out).tr).mono ?_
        rintro e X8 ⟨vH, rfl, hOH, hBH⟩
        have HB8' := Lib.hid (HB7'.out.trans (hBH.mono HB7'.out.size))
        have HOH := Lib.hid (show Sl X8 X8.heap.size vH (chainR z32 all) from hOH.sl)
        have HZ8 := Lib.hid ((HON.out.below hBH (Nat.le_refl _)).more hBH.size)
        clear hBH hOH
        clear HX
        have HX := Lib.hid (HSX.out _ HB8'.out)
        refine ⟨_, rfl, HX.out, ?_⟩
        go_frame
        have HH8 := Lib.hid HOH.out
        have hG8 : 3 < X8.heap.size := by have := HBX.out.size; have := HB8'.out.size; omega
        refine wpAnyH_all (rs := [32]) (by kernel_rfl) (by simp) ?_
        simp only [List.mem_singleton, forall_eq]
        refine wpOp_callD 88 rfl rfl rfl 23 #[.slice (some ⟨X6.heap.size, 0, none⟩) 32 32, .slice XA all.length XC] (by go_simp) ?_
        refine (refChain_any X8.heap.size _ z32 _ all X8 HZ8.out (Nat.le_refl _) (by show (List.replicate 32 (0 : UInt8)).length ≤ 100; simp) ((HPX.out.below HB8'.out).xt.own.evIn) (by have := HAL.out; omega) (fun e he => (HPX.out.ok e he).kind) (HTB.out X8 (HBX.out.trans (HB8'.out.mono HBX.out.size))) hG8).mono ?_
        rintro e X9 ⟨vR, rfl, hS9, hB9⟩
        have HB9' := Lib.hid (HB8'.out.trans (hB9.mono HB8'.out.size))
        have HS9 := Lib.hid hS9
        have HH9 := Lib.hid (HH8.out.below hB9 (Nat.le_refl _))
        clear hB9 hS9
        clear HX
        have HX := Lib.hid (HSX.out _ HB9'.out)
        refine ⟨_, rfl, HX.out, ?_⟩
        go_frame
        refine wpAnyH_all (rs := [33]) (by kernel_rfl) (by simp) ?_
        simp only [List.mem_singleton, forall_eq]
        refine wpOp_callD 89 rfl rfl rfl 21 #[vH, vR] (by go_simp) ?_
        refine (same_true X8.heap.size X9.heap.size vH vR (chainR z32 all) X9 HH9.out HS9.out).mono ?_
        rintro e X10 ⟨rfl, hX10⟩
        have HB10' := Lib.hid (show Below X0.heap.size X0 X10 from by rw [← hX10]; exact HB9'.out)
        clear hX10
        clear HX
        have HX := Lib.hid (HSX.out _ HB10'.out)
        refine ⟨_, rfl, HX.out, ?_⟩
        go_frame
        refine takeH 34 90 (.bool true) rfl rfl (by kernel_rfl) (by kernel_rfl) (by kernel_rfl) (fun _ _ _ h => h) rfl (fun w' h => by go_simp) HX.out ?_
        go_frame
        refine takeH 35 6 (.bool true) rfl rfl (by kernel_rfl) (by kernel_rfl) (by kernel_rfl) (fun _ _ _ h => h) rfl (fun w' h => by go_simp) HX.out ?_
        go_frame
        refine wpAnyH_done (by kernel_rfl) ?_ _
        refine NoPanic.normal ?_
        go_wp2_with fail
        go_ret
        exact ⟨rfl, HBX.out.trans (HB10'.out.mono HBX.out.size)⟩
      · obtain ⟨g5, o5, hA5, hg5, p0, _, _, _, _⟩ := HE5.out.five 0 (by omega)
        subst hA5
        obtain ⟨n0, hn0⟩ : ∃ n0 : Int, n0 = (K[0].n : Int) := ⟨_, rfl⟩
        have HFN := Lib.hid (show ((firstN K : Nat) : Int) = n0 from by rw [hn0, firstN_take K (by omega)])
        have p0' : w5.cell? ⟨g5, o5, none⟩ = some (.int .u64 n0) := by rw [hn0]; simpa using p0
        have hK0i : (0 : Int) < (K.length : Int) := by omega
        have dK : decide ((0 : Int) < (K.length : Int)) = true := decide_eq_true hK0i
        clear p0 hn0
        go_wp2_with fail
        refine wp_region_noPanic ?_
        refine wp_region_held (S := fun W' => W'.cell? ⟨bx, 1, none⟩ = some (.slice XA all.length XC)) (by kernel_rfl) ?_
        change wpAnyH _ _ _ _ _ _ _ _ (World.drew _)
        obtain ⟨X0, hX0⟩ : ∃ V, V = World.drew w5 := ⟨_, rfl⟩
        have hbx0 : Below w5.heap.size w5 X0 := by rw [hX0]; exact (Below.refl _ w5).drew
        have HPX := Lib.hid (HP5.out.below hbx0)
        have HBX := Lib.hid (HB5.out.trans (hbx0.mono HB5.out.size))
        have HWX := Lib.hid ((HW5.out).below hbx0 (Nat.le_refl _))
        have hzx : X0.heap.size = w5.heap.size := by rw [hX0]; rfl
        have HB0 := Lib.hid (Below.refl X0.heap.size X0)
        have HSX := Lib.hid (fun W' (hb : Below X0.heap.size X0 W') => (show W'.cell? ⟨bx, 1, none⟩ = some (.slice XA all.length XC) from (HPX.out.below hb).xt.blk.at (o := 1) rfl))
        rw [← hX0]
        clear hX0 hbx0
        have HX := Lib.hid (HSX.out X0 HB0.out)
        refine takeH 0 56 (tQ T) rfl rfl (by kernel_rfl) (by kernel_rfl) (by kernel_rfl) (fun _ _ _ h => h) rfl (fun w' h => by go_simp) HX.out ?_
        go_frame
        refine takeH 1 57 (.int .u64 (since : Int)) rfl rfl (by kernel_rfl) (by kernel_rfl) (by kernel_rfl) (fun _ _ _ h => h) rfl (fun w' h => by go_simp) HX.out ?_
        go_frame
        refine takeH 5 61 (u11) rfl rfl (by kernel_rfl) (by kernel_rfl) (by kernel_rfl) (fun _ _ _ h => h) rfl (fun w' h => by go_simp) HX.out ?_
        go_frame
        refine wpAnyH_all (rs := [2]) (by kernel_rfl) (by simp) ?_
        simp only [List.mem_singleton, forall_eq]
        refine wpOp_callD 58 rfl rfl rfl 18 #[tQ T, .int .u64 (since : Int)] (by go_simp) ?_
        refine (trSince (some ⟨T, 0, none⟩) since X0).mono ?_
        rintro e X1 ⟨rfl, hX1⟩
        have HB1' := Lib.hid (show Below X0.heap.size X0 X1 from by rw [hX1]; exact ((Below.refl _ X0).alloc (Nat.le_refl _) _).trans ((thW_belowK _ _ _).mono (by simp)))
        have HSN := Lib.hid (show Calls Tryz.prog 17 #[thV (X0.heap.size + 1)] X1 _ from by rw [hX1]; exact since_tr HPX.out.tr since)
        clear hX1
        clear HX
        have HX := Lib.hid (HSX.out _ HB1'.out)
        refine ⟨_, rfl, HX.out, ?_⟩
        go_frame
        refine wpAnyH_all (rs := [3]) (by kernel_rfl) (by simp) ?_
        simp only [List.mem_singleton, forall_eq]
        refine wpOp_callD 59 rfl rfl rfl 17 #[thV (X0.heap.size + 1)] (by go_simp) ?_
        refine (HSN.out).mono ?_
        rintro e X2 ⟨vC, rfl, hO2, hB2⟩
        have HB2' := Lib.hid hB2
        have HO2 := Lib.hid (show OwnV tEv X2 (X0.heap.size + 3) vC (K.filter (sinP since)) from by rw [HK.out]; exact hO2)
        clear hB2 hO2 HSN
        clear HX
        have HX := Lib.hid (HSX.out _ HB2'.out)
        refine ⟨_, rfl, HX.out, ?_⟩
        go_frame
        refine wpAnyH_all (rs := [4]) (by kernel_rfl) (by simp) ?_
        simp only [List.mem_singleton, forall_eq]
        refine wpOp_callD 60 rfl rfl rfl 16 #[vC] (by go_simp) ?_
        refine (back_any X2.heap.size vC (K.filter (sinP since)) X2 HO2.out.evIn (Nat.le_refl _) (by have := HFLL.out; omega)).mono ?_
        rintro e X3 ⟨vK, rfl, hO3, hB3⟩
        have HB3' := Lib.hid (HB2'.out.trans (hB3.mono HB2'.out.size))
        have HO3 := Lib.hid hO3
        clear hB3 hO3 HO2
        clear HX
        have HX := Lib.hid (HSX.out _ HB3'.out)
        refine ⟨_, rfl, HX.out, ?_⟩
        go_frame
        refine wpAnyH_all (rs := [6]) (by kernel_rfl) (by simp) ?_
        simp only [List.mem_singleton, forall_eq]
        refine wpOp_callD 62 rfl rfl rfl 15 #[vK, u11] (by go_simp) ?_
        refine (equalEv_same X3.heap.size X0.heap.size vK u11 (K.filter (sinP since)) X3 HO3.out.evIn ((HWX.out.more (by omega)).below HB3'.out (Nat.le_refl _)) (by have := HFLL.out; omega)).mono ?_
        rintro e X4 ⟨rfl, q4, hX4⟩
        have HB4' := Lib.hid (HB3'.out.trans (show Below X0.heap.size X3 X4 from by rw [hX4]; exact below_drewN (Below.refl _ _) q4))
        clear hX4 HO3
        clear HX
        have HX := Lib.hid (HSX.out _ HB4'.out)
        refine ⟨_, rfl, HX.out, ?_⟩
        go_frame
        refine takeH 7 63 (.bool true) rfl rfl (by kernel_rfl) (by kernel_rfl) (by kernel_rfl) (fun _ _ _ h => h) rfl (fun w' h => by go_simp) HX.out ?_
        go_frame
        refine takeH 8 64 (tQ T) rfl rfl (by kernel_rfl) (by kernel_rfl) (by kernel_rfl) (fun _ _ _ h => h) rfl (fun w' h => by go_simp) HX.out ?_
        go_frame
        refine takeH 10 66 (.int .u64 n0) rfl rfl (by kernel_rfl) (by kernel_rfl) (by kernel_rfl) (fun _ _ _ h => h) rfl (fun w' h => by go_simp) HX.out ?_
        go_frame
        refine wpAnyH_all (rs := [9]) (by kernel_rfl) (by simp) ?_
        simp only [List.mem_singleton, forall_eq]
        refine wpOp_callD 65 rfl rfl rfl 19 #[tQ T] (by go_simp) ?_
        refine (show Calls Tryz.prog 19 #[tQ T] X4 (fun e w' => e = .returned (.int .u64 n0) ∧ w' = X4) from by have := trFirst_any (HPX.out.below HB4'.out).tr; rw [← HK.out] at this; rw [HFN.out] at this; exact this).mono ?_
        rintro e X5 ⟨rfl, hX5⟩
        have HB5' := Lib.hid (show Below X0.heap.size X0 X5 from by rw [hX5]; exact HB4'.out)
        clear hX5
        clear HX
        have HX := Lib.hid (HSX.out _ HB5'.out)
        refine ⟨_, rfl, HX.out, ?_⟩
        go_frame
        refine takeH 11 67 (.bool true) rfl rfl (by kernel_rfl) (by kernel_rfl) (by kernel_rfl) (fun _ _ _ h => h) rfl (fun w' h => by go_simp) HX.out ?_
        go_frame
        refine takeH 12 68 (.bool true) rfl rfl (by kernel_rfl) (by kernel_rfl) (by kernel_rfl) (fun _ _ _ h => h) rfl (fun w' h => by go_simp) HX.out ?_
        go_frame
        refine takeH 13 69 (.bool true) rfl rfl (by kernel_rfl) (by kernel_rfl) (by kernel_rfl) (fun _ _ _ h => h) rfl (fun w' h => by go_simp) HX.out ?_
        go_frame
        refine takeH 14 70 (tQ T) rfl rfl (by kernel_rfl) (by kernel_rfl) (by kernel_rfl) (fun _ _ _ h => h) rfl (fun w' h => by go_simp) HX.out ?_
        go_frame
        refine takeH 16 72 (tQ bx) rfl rfl (by kernel_rfl) (by kernel_rfl) (by kernel_rfl) (fun _ _ _ h => h) rfl (fun w' h => by go_simp) HX.out ?_
        go_frame
        refine takeH 17 73 (tQ bx) rfl rfl (by kernel_rfl) (by kernel_rfl) (by kernel_rfl) (fun _ _ _ h => h) rfl (fun w' h => by go_simp) HX.out ?_
        go_frame
        refine takeH 18 74 (.pointer (some ⟨bx, 1, none⟩)) rfl rfl (by kernel_rfl) (by kernel_rfl) (by kernel_rfl) (fun _ _ _ h => h) rfl (fun w' h => by go_simp) HX.out ?_
        go_frame
        refine takeH 19 75 (.slice XA all.length XC) rfl rfl (by kernel_rfl) (by kernel_rfl) (by kernel_rfl) (fun _ _ _ h => h) rfl (fun w' h => by go_simp) HX.out ?_
        go_frame
        refine takeH 20 76 (.int .i64 (all.length : Int)) rfl rfl (by kernel_rfl) (by kernel_rfl) (by kernel_rfl) (fun _ _ _ h => h) rfl (fun w' h => by go_simp) HX.out ?_
        go_frame
        refine takeH 21 77 (.int .u64 (all.length : Int)) rfl rfl (by kernel_rfl) (by kernel_rfl) (by kernel_rfl) (fun _ _ _ h => h) rfl (fun w' h => by go_simp) HX.out ?_
        go_frame
        refine wpAnyH_all (rs := [15]) (by kernel_rfl) (by simp) ?_
        simp only [List.mem_singleton, forall_eq]
        refine wpOp_callD 71 rfl rfl rfl 20 #[tQ T] (by go_simp) ?_
        refine (trLast_any (HPX.out.below HB5'.out).tr).mono ?_
        rintro e X6 ⟨rfl, hX6⟩
        have HB6' := Lib.hid (show Below X0.heap.size X0 X6 from by rw [hX6]; exact HB5'.out)
        clear hX6
        clear HX
        have HX := Lib.hid (HSX.out _ HB6'.out)
        refine ⟨_, rfl, HX.out, ?_⟩
        go_frame
        refine takeH 22 78 (.bool true) rfl rfl (by kernel_rfl) (by kernel_rfl) (by kernel_rfl) (fun _ _ _ h => h) rfl (fun w' h => by go_simp) HX.out ?_
        go_frame
        refine takeH 23 79 (.bool true) rfl rfl (by kernel_rfl) (by kernel_rfl) (by kernel_rfl) (fun _ _ _ h => h) rfl (fun w' h => by go_simp) HX.out ?_
        go_frame
        refine takeH 24 80 (.bool true) rfl rfl (by kernel_rfl) (by kernel_rfl) (by kernel_rfl) (fun _ _ _ h => h) rfl (fun w' h => by go_simp) HX.out ?_
        go_frame
        refine takeH 25 81 (tQ T) rfl rfl (by kernel_rfl) (by kernel_rfl) (by kernel_rfl) (fun _ _ _ h => h) rfl (fun w' h => by go_simp) HX.out ?_
        go_frame
        refine takeH 28 84 (tQ bx) rfl rfl (by kernel_rfl) (by kernel_rfl) (by kernel_rfl) (fun _ _ _ h => h) rfl (fun w' h => by go_simp) HX.out ?_
        go_frame
        refine takeH 29 85 (tQ bx) rfl rfl (by kernel_rfl) (by kernel_rfl) (by kernel_rfl) (fun _ _ _ h => h) rfl (fun w' h => by go_simp) HX.out ?_
        go_frame
        refine takeH 30 86 (.pointer (some ⟨bx, 1, none⟩)) rfl rfl (by kernel_rfl) (by kernel_rfl) (by kernel_rfl) (fun _ _ _ h => h) rfl (fun w' h => by go_simp) HX.out ?_
        go_frame
        refine takeH 31 87 (.slice XA all.length XC) rfl rfl (by kernel_rfl) (by kernel_rfl) (by kernel_rfl) (fun _ _ _ h => h) rfl (fun w' h => by go_simp) HX.out ?_
        go_frame
        refine wpAnyH_all (rs := [26, 27]) (by kernel_rfl) (by simp) ?_
        simp only [List.mem_cons, List.not_mem_nil, or_false, forall_eq_or_imp, forall_eq]
        refine ⟨?_, ?_⟩
        refine wpOp_callD 82 rfl rfl rfl 22 #[tQ T] (by go_simp) ?_
        refine (trChain_any (HPX.out.below HB6'.out).tr).mono ?_
        rintro e X7 ⟨vH, rfl, hOH, hBH⟩
        have HB7' := Lib.hid (HB6'.out.trans (hBH.mono HB6'.out.size))
        have HOH := Lib.hid (show Sl X7 X7.heap.size vH (chainR z32 all) from hOH.sl)
        clear hBH hOH
        clear HX
        have HX := Lib.hid (HSX.out _ HB7'.out)
        refine ⟨_, rfl, HX.out, ?_⟩
        go_frame
        refine wpAnyH_all (rs := [27]) (by kernel_rfl) (by simp) ?_
        simp only [List.mem_singleton, forall_eq]
        obtain ⟨X8, hX8⟩ : ∃ V, V = X7.alloc (.cells (noughts 32) 5) := ⟨_, rfl⟩
        have HB8' := Lib.hid (show Below X0.heap.size X0 X8 from by rw [hX8]; exact HB7'.out.alloc HB7'.out.size _)
        have HON := Lib.hid (show Sl X8 X8.heap.size (.slice (some ⟨X7.heap.size, 0, none⟩) 32 32) z32 from by rw [hX8]; exact (own_z32 X7).sl)
        have hbm8 : Below X7.heap.size X7 X8 := by rw [hX8]; exact (Below.refl _ _).alloc (Nat.le_refl _) _
        have hm : (Instr.makeSlice 56 (.int .i64 32) (.int .i64 32)).run Tryz.prog X7 = .ok (.slice (some ⟨X7.heap.size, 0, none⟩) 32 32) X8 := by rw [hX8]; exact make_bytes 32 32 (by omega) (by omega) X7
        refine wpOp_valueX 83 rfl rfl rfl (.slice (some ⟨X7.heap.size, 0, none⟩) 32 32) X8 (by go_simp) ⟨HSX.out _ HB8'.out, ?_⟩
        clear hm hX8 HX
        have HX := Lib.hid (HSX.out _ HB8'.out)
        go_frame
        have HH8 := Lib.hid ((HOH.out.below hbm8 (Nat.le_refl _)).more hbm8.size)
        have HZ8 := Lib.hid HON.out
        have hG8 : 3 < X8.heap.size := by have := HBX.out.size; have := HB8'.out.size; omega
        refine wpAnyH_all (rs := [32]) (by kernel_rfl) (by simp) ?_
        simp only [List.mem_singleton, forall_eq]
        refine wpOp_callD 88 rfl rfl rfl 23 #[.slice (some ⟨X7.heap.size, 0, none⟩) 32 32, .slice XA all.length XC] (by go_simp) ?_
        refine (refChain_any X8.heap.size _ z32 _ all X8 HZ8.out (Nat.le_refl _) (by show (List.replicate 32 (0 : UInt8)).length ≤ 100; simp) ((HPX.out.below HB8'.out).xt.own.evIn) (by have := HAL.out; omega) (fun e he => (HPX.out.ok e he).kind) (HTB.out X8 (HBX.out.trans (HB8'.out.mono HBX.out.size))) hG8).mono ?_
        rintro e X9 ⟨vR, rfl, hS9, hB9⟩
        have HB9' := Lib.hid (HB8'.out.trans (hB9.mono HB8'.out.size))
        have HS9 := Lib.hid hS9
        have HH9 := Lib.hid (HH8.out.below hB9 (Nat.le_refl _))
        clear hB9 hS9
        clear HX
        have HX := Lib.hid (HSX.out _ HB9'.out)
        refine ⟨_, rfl, HX.out, ?_⟩
        go_frame
        refine wpAnyH_all (rs := [33]) (by kernel_rfl) (by simp) ?_
        simp only [List.mem_singleton, forall_eq]
        refine wpOp_callD 89 rfl rfl rfl 21 #[vH, vR] (by go_simp) ?_
        refine (same_true X8.heap.size X9.heap.size vH vR (chainR z32 all) X9 HH9.out HS9.out).mono ?_
        rintro e X10 ⟨rfl, hX10⟩
        have HB10' := Lib.hid (show Below X0.heap.size X0 X10 from by rw [← hX10]; exact HB9'.out)
        clear hX10
        clear HX
        have HX := Lib.hid (HSX.out _ HB10'.out)
        refine ⟨_, rfl, HX.out, ?_⟩
        go_frame
        refine takeH 34 90 (.bool true) rfl rfl (by kernel_rfl) (by kernel_rfl) (by kernel_rfl) (fun _ _ _ h => h) rfl (fun w' h => by go_simp) HX.out ?_
        go_frame
        refine takeH 35 6 (.bool true) rfl rfl (by kernel_rfl) (by kernel_rfl) (by kernel_rfl) (fun _ _ _ h => h) rfl (fun w' h => by go_simp) HX.out ?_
        go_frame
        refine wpAnyH_done (by kernel_rfl) ?_ _
        refine NoPanic.normal ?_
        go_wp2_with fail
        go_ret
        exact ⟨rfl, HBX.out.trans (HB10'.out.mono HBX.out.size)⟩
        obtain ⟨X7, hX7⟩ : ∃ V, V = X6.alloc (.cells (noughts 32) 5) := ⟨_, rfl⟩
        have HB7' := Lib.hid (show Below X0.heap.size X0 X7 from by rw [hX7]; exact HB6'.out.alloc HB6'.out.size _)
        have HON := Lib.hid (show Sl X7 X7.heap.size (.slice (some ⟨X6.heap.size, 0, none⟩) 32 32) z32 from by rw [hX7]; exact (own_z32 X6).sl)
        have hbm7 : Below X6.heap.size X6 X7 := by rw [hX7]; exact (Below.refl _ _).alloc (Nat.le_refl _) _
        have hm : (Instr.makeSlice 56 (.int .i64 32) (.int .i64 32)).run Tryz.prog X6 = .ok (.slice (some ⟨X6.heap.size, 0, none⟩) 32 32) X7 := by rw [hX7]; exact make_bytes 32 32 (by omega) (by omega) X6
        refine wpOp_valueX 83 rfl rfl rfl (.slice (some ⟨X6.heap.size, 0, none⟩) 32 32) X7 (by go_simp) ⟨HSX.out _ HB7'.out, ?_⟩
        clear hm hX7 HX
        have HX := Lib.hid (HSX.out _ HB7'.out)
        go_frame
        refine wpAnyH_all (rs := [26]) (by kernel_rfl) (by simp) ?_
        simp only [List.mem_singleton, forall_eq]
        refine wpOp_callD 82 rfl rfl rfl 22 #[tQ T] (by go_simp) ?_
        refine (trChain_any (HPX.out.below HB7'.out).tr).mono ?_
        rintro e X8 ⟨vH, rfl, hOH, hBH⟩
        have HB8' := Lib.hid (HB7'.out.trans (hBH.mono HB7'.out.size))
        have HOH := Lib.hid (show Sl X8 X8.heap.size vH (chainR z32 all) from hOH.sl)
        have HZ8 := Lib.hid ((HON.out.below hBH (Nat.le_refl _)).more hBH.size)
        clear hBH hOH
        clear HX
        have HX := Lib.hid (HSX.out _ HB8'.out)
        refine ⟨_, rfl, HX.out, ?_⟩
        go_frame
        have HH8 := Lib.hid HOH.out
        have hG8 : 3 < X8.heap.size := by have := HBX.out.size; have := HB8'.out.size; omega
        refine wpAnyH_all (rs := [32]) (by kernel_rfl) (by simp) ?_
        simp only [List.mem_singleton, forall_eq]
        refine wpOp_callD 88 rfl rfl rfl 23 #[.slice (some ⟨X6.heap.size, 0, none⟩) 32 32, .slice XA all.length XC] (by go_simp) ?_
        refine (refChain_any X8.heap.size _ z32 _ all X8 HZ8.out (Nat.le_refl _) (by show (List.replicate 32 (0 : UInt8)).length ≤ 100; simp) ((HPX.out.below HB8'.out).xt.own.evIn) (by have := HAL.out; omega) (fun e he => (HPX.out.ok e he).kind) (HTB.out X8 (HBX.out.trans (HB8'.out.mono HBX.out.size))) hG8).mono ?_
        rintro e X9 ⟨vR, rfl, hS9, hB9⟩
        have HB9' := Lib.hid (HB8'.out.trans (hB9.mono HB8'.out.size))
        have HS9 := Lib.hid hS9
        have HH9 := Lib.hid (HH8.out.below hB9 (Nat.le_refl _))
        clear hB9 hS9
        clear HX
        have HX := Lib.hid (HSX.out _ HB9'.out)
        refine ⟨_, rfl, HX.out, ?_⟩
        go_frame
        refine wpAnyH_all (rs := [33]) (by kernel_rfl) (by simp) ?_
        simp only [List.mem_singleton, forall_eq]
        refine wpOp_callD 89 rfl rfl rfl 21 #[vH, vR] (by go_simp) ?_
        refine (same_true X8.heap.size X9.heap.size vH vR (chainR z32 all) X9 HH9.out HS9.out).mono ?_
        rintro e X10 ⟨rfl, hX10⟩
        have HB10' := Lib.hid (show Below X0.heap.size X0 X10 from by rw [← hX10]; exact HB9'.out)
        clear hX10
        clear HX
        have HX := Lib.hid (HSX.out _ HB10'.out)
        refine ⟨_, rfl, HX.out, ?_⟩
        go_frame
        refine takeH 34 90 (.bool true) rfl rfl (by kernel_rfl) (by kernel_rfl) (by kernel_rfl) (fun _ _ _ h => h) rfl (fun w' h => by go_simp) HX.out ?_
        go_frame
        refine takeH 35 6 (.bool true) rfl rfl (by kernel_rfl) (by kernel_rfl) (by kernel_rfl) (fun _ _ _ h => h) rfl (fun w' h => by go_simp) HX.out ?_
        go_frame
        refine wpAnyH_done (by kernel_rfl) ?_ _
        refine NoPanic.normal ?_
        go_wp2_with fail
        go_ret
        exact ⟨rfl, HBX.out.trans (HB10'.out.mono HBX.out.size)⟩
end Go.Proofs.YtockimgedckheaaGreatDoor
set_option maxRecDepth 100000
namespace Go.Proofs.YtockimgedckheaaGreatDoor
open Go Go.RowKit Go.Shelf
theorem tabB_lt {w : World} (h : TabB w) : 3 < w.heap.size := World.block_lt_of_cell? w ⟨3, 0, none⟩ (h 0 (by omega))
theorem traceKeeps_w (B : Nat) (n0 : Int) (v1 : Value) (l1 : List OpT) (n2 : Int) (w : World) (h0 : (Lit.int .u8 n0).wf = true) (h1 : OpsT w B v1 l1) (h2 : (Lit.int .u64 n2).wf = true) (hB : B ≤ w.heap.size) (hT : TabA w) (hTB : TabB w) (hE : PowE w) :
    Calls Tryz.prog 4 #[.int .u8 n0, v1, .int .u64 n2] w fun e w' => e = .returned (.bool true) ∧ Below w.heap.size w w' := by
  have h3 : 0 ≤ n0 ∧ n0 ≤ 255 := by
    simp [Lit.wf, IntKind.min, IntKind.max, IntKind.bits, IntKind.signed] at h0
    omega
  have h4 : 0 ≤ n2 := by
    simp [Lit.wf, IntKind.min, IntKind.max, IntKind.bits, IntKind.signed] at h2
    omega
  have := traceKeeps_law n0 h3.1 h3.2 B v1 l1 n2.toNat w h1 hB hT hTB (tabB_lt hTB) hE
  rw [show ((n2.toNat : Nat) : Int) = n2 by omega] at this
  exact this
end Go.Proofs.YtockimgedckheaaGreatDoor
