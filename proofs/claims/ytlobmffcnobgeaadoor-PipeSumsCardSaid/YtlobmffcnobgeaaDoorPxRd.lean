/- The reference's Pipe: Read. -/
import Derived.Test.YtlobmffcnobgeaaDoorPxA
import Derived.Test.YtlobmffcnobgeaaDoorHashS
set_option maxRecDepth 100000
namespace Go.Proofs.YtlobmffcnobgeaaDoor
open Go.RowKit
attribute [local go_sem] Oper.semAt_some
theorem rRead_nil (k m : Int) (w : World) : Calls Tryd.prog 22 #[.pointer none, .int .i64 k, .int .i64 m] w fun e w' => e = .returned (.tuple #[.slice none 0 0, .int .i64 6]) ∧ w' = w := by
  go_enter Tryd.func22, Tryd.ntmps22
  go_wp2_with fail
  go_ret2
  exact ⟨rfl, rfl⟩
theorem rRead_bad (c : Nat) (k m : Int) (hk : k ≠ 0 ∧ k ≠ 1) (w : World) : Calls Tryd.prog 22 #[tP c, .int .i64 k, .int .i64 m] w fun e w' => e = .returned (.tuple #[.slice none 0 0, .int .i64 1]) ∧ w' = w := by
  have h0 : (k != 0) = true := bne_iff_ne.2 hk.1
  have h1 : (k != 1) = true := bne_iff_ne.2 hk.2
  clear hk
  go_enter Tryd.func22, Tryd.ntmps22
  go_wp2_with fail
  go_ret2
  exact ⟨rfl, rfl⟩
section
variable {w w' : World} {base c room : Nat} {A : Nat → Value} {Y : Nat → WayR}
def rrN (y : WayR) (m : Int) : Nat := min m.toNat y.waits
def rrR (y : WayR) (m : Int) : WayR := { y with rd := y.rd + rrN y m }
theorem rrR_waits (y : WayR) (m : Int) (room : Nat) (h : y.waits ≤ room) : (rrR y m).waits ≤ room := by
  unfold WayR.waits rrR at *; show y.all.length - (y.rd + rrN y m) - y.lost ≤ room; omega
theorem rRead_fin (h : PX w base c room A Y) (i : Nat) (hi : i < 2) {w1 w2 : World} (hb1 : Below w.heap.size w w1) (hb2 : Below w1.heap.size w1 w2) (y2 : WayR) (n : Nat) (hy : y2 = { Y i with rd := (Y i).rd + n }) (hw : y2.waits ≤ room) (hn : n ≤ (Y i).all.length - (Y i).rd - (Y i).lost) (u : Int) (hu : u = (((Y i).rd + n : Nat) : Int)) {v : Value} {l : List UInt8} (hO : OwnB w2 w1.heap.size v l) :
    OwnB (w2.setCell ⟨c, 2 + 4 * i, none⟩ (.int .i64 u)).drew w.heap.size v l ∧ PX (w2.setCell ⟨c, 2 + 4 * i, none⟩ (.int .i64 u)).drew base c room A (upd Y i y2) ∧ Trs [c] w (w2.setCell ⟨c, 2 + 4 * i, none⟩ (.int .i64 u)).drew := by
  have hc := h.blk.lt
  have hz := hb1.size
  have hb : Below w.heap.size w w2 := hb1.trans (hb2.mono hz)
  have hp := h.below hb
  have hf := h.fit i hi
  have ht : Trs [c] w2 (w2.setCell ⟨c, 2 + 4 * i, none⟩ (.int .i64 u)).drew := ((Trs.refl [c] w2).set (p := ⟨c, 2 + 4 * i, none⟩) (by simp) _).drew
  refine ⟨?_, ?_, (Trs.of_below hb).trans ht⟩
  · exact (hO.lower hz).trs ht (fun k hk hm => by have := (hO.lt k hk).1; rw [List.mem_singleton] at hm; omega)
  · refine hp.store i hi y2 (by rw [hy]) ht ?_ (by rw [hy]; show (Y i).rd + n + (Y i).lost ≤ (Y i).all.length; omega) hw
    have hk := (hp.blk.set (2 + 4 * i) (.int .i64 u)).drew
    rcases (show i = 0 ∨ i = 1 by omega) with rfl | rfl
    · have e : (rxc room A Y).set 2 (.int .i64 u) = rxc room A (upd Y 0 y2) := by rw [hu, hy]; rfl
      rw [← e]; exact hk
    · have e : (rxc room A Y).set 6 (.int .i64 u) = rxc room A (upd Y 1 y2) := by rw [hu, hy]; rfl
      rw [← e]; exact hk
set_option maxHeartbeats 2000000 in
theorem rRead_0 (h : PX w base c room A Y) (m : Int) :
    Calls Tryd.prog 22 #[tP c, .int .i64 0, .int .i64 m] w fun e w' => ∃ v, e = .returned (.tuple #[v, .int .i64 0]) ∧ OwnB w' w.heap.size v (((Y 0).all.drop (Y 0).rd).take (rrN (Y 0) m)) ∧ PX w' base c room A (upd Y 0 (rrR (Y 0) m)) ∧ Trs [c] w w' := by
  have HP := Lib.hid h
  obtain ⟨AA, C, hV, _, q1, q2, _⟩ := (h.own 0 (by omega)).sl
  have k0 : w.cell? ⟨c, 1, none⟩ = some (A 0) := h.blk.at (o := 1) rfl
  have k1 : w.cell? ⟨c, 2, none⟩ = some (.int .i64 ((Y 0).rd : Int)) := h.blk.at (o := 2) rfl
  have k2 : w.cell? ⟨c, 3, none⟩ = some (.bool (Y 0).shut) := h.blk.at (o := 3) rfl
  have k3 : w.cell? ⟨c, 4, none⟩ = some (.int .i64 ((Y 0).lost : Int)) := h.blk.at (o := 4) rfl
  rw [hV] at k0
  have hfit := h.fit 0 (by omega)
  have hbig := h.big 0 (by omega)
  have hc := h.blk.lt
  have HV1 := Lib.hid hV; clear hV
  obtain ⟨n, hn⟩ : ∃ n, n = rrN (Y 0) m := ⟨_, rfl⟩
  obtain ⟨y2, hy2⟩ : ∃ x, x = rrR (Y 0) m := ⟨_, rfl⟩
  have HY2 := Lib.hid (show y2 = { Y 0 with rd := (Y 0).rd + n } from by rw [hy2, hn]; rfl)
  have HYw := Lib.hid (show y2.waits ≤ room from by rw [hy2]; exact rrR_waits _ _ _ (h.waits 0 (by omega)))
  have hnw : n ≤ (Y 0).all.length - (Y 0).rd - (Y 0).lost := by rw [hn]; unfold rrN WayR.waits; omega
  rw [← hn, ← hy2]
  obtain ⟨z, hz⟩ : ∃ z : Int, z = ((Y 0).all.length : Int) - ((Y 0).rd : Int) - ((Y 0).lost : Int) := ⟨_, rfl⟩
  have hz0 : 0 ≤ z := by omega
  have hzr : ((Y 0).rd : Int) + z ≤ 400000 := by omega
  have HN := Lib.hid (show (m < 0 ∧ (n : Int) = 0) ∨ (0 ≤ m ∧ m ≤ z ∧ (n : Int) = m) ∨ (0 ≤ m ∧ ¬ m ≤ z ∧ (n : Int) = z) from by  rw [hn]; unfold rrN WayR.waits; omega)
  have HWt := Lib.hid (fun W => rWaits_any AA (Y 0).all.length C ((Y 0).rd : Int) ((Y 0).lost : Int) (Y 0).shut W (by omega) (by omega) (by omega) hbig)
  rw [← hz] at HWt
  obtain ⟨L, hL⟩ : ∃ L, L = (Y 0).all := ⟨_, rfl⟩
  rw [← hL] at k0 hfit hbig hnw HV1 q1 HWt ⊢
  have HLl := Lib.hid hL
  have HO0 := Lib.hid (show OwnB w base (.slice AA L.length C) L from by rw [← HV1.out, hL]; exact h.own 0 (by omega))
  clear hL hn hy2 hz h
  obtain ⟨R, hR⟩ : ∃ R, R = (Y 0).rd := ⟨_, rfl⟩
  rw [← hR] at k1 hfit hnw hzr HY2 HWt ⊢
  have HRr := Lib.hid hR; clear hR
  obtain ⟨K, hK⟩ : ∃ K, K = L.length := ⟨_, rfl⟩
  rw [← hK] at k0 hfit hbig hnw HV1 q1 HWt HO0
  obtain ⟨N, hNN⟩ : ∃ N : Int, N = (n : Int) := ⟨_, rfl⟩
  obtain ⟨V, hrun0, hslV, _⟩ := slice_mid AA K C R (R + n) (R : Int) ((R : Int) + (n : Int)) rfl (by omega) (by omega) (by omega) q1
  rw [← hNN] at hrun0 HN
  have HSV := Lib.hid (fun W (hs : Sl W W.heap.size (.slice AA K C) L) => hslV W W.heap.size L hs hK.symm)
  have HDT := Lib.hid (show (L.drop R).take (R + n - R) = (L.drop R).take n from by rw [show R + n - R = n from by omega])
  have HNN := Lib.hid hNN; clear hNN
  have HK := Lib.hid hK; clear hK
  obtain ⟨r, hr⟩ : ∃ r : Int, r = (R : Int) := ⟨_, rfl⟩
  rw [← hr] at k1 hrun0 HWt
  have hr0 : 0 ≤ r := by omega
  have hr1 : r + z ≤ 400000 := by rw [hr]; exact hzr
  clear hzr
  have Hr := Lib.hid hr; clear hr
  rcases HN.out with ⟨hcm, rfl⟩ | ⟨hcm, hcm2, rfl⟩ | ⟨hcm, hcm2, rfl⟩
  · have hwr : IntKind.i64.wrap r = r := IntWalk.i64_in _ ⟨by omega, by omega⟩
    have hrun : ∀ w, (Instr.slice 29 (.slice AA K C) (some (.int .i64 r)) (some (.int .i64 r)) none).run Tryd.prog w = .ok V w := by rw [show r + 0 = r from by omega] at hrun0; exact hrun0
    clear hrun0
    go_enter Tryd.func22, Tryd.ntmps22
    go_wp2_with fail
    refine (HWt.out _).mono ?_
    rintro e w1 ⟨rfl, hB1⟩
    have HB1 := Lib.hid hB1
    have HP1 := Lib.hid (HP.out.below hB1)
    have HO1 := Lib.hid (HO0.out.below hB1)
    have hcS : w1.drew.cell? ⟨c, 1, none⟩ = some (.slice AA K C) ∧ w1.drew.cell? ⟨c, 2, none⟩ = some (.int .i64 r) := ⟨(hB1.cell (p := ⟨c, 1, none⟩) hc).trans k0, (hB1.cell (p := ⟨c, 2, none⟩) hc).trans k1⟩
    have HS := Lib.hid hcS
    clear hB1 hcS k0 k1 k2 k3
    go_wp2_with fail
    refine wp_region_noPanic ?_
    refine wp_region_held (S := fun w' => w'.cell? ⟨c, 1, none⟩ = some (.slice AA K C) ∧ w'.cell? ⟨c, 2, none⟩ = some (.int .i64 r)) (by kernel_rfl) ?_
    change wpAnyH _ _ _ _ _ _ _ _ w1.drew
    refine takeH 0 28 (tP c) rfl rfl (by kernel_rfl) (by kernel_rfl) (by kernel_rfl) (fun _ _ _ h => h) rfl (fun w' h => by obtain ⟨z0, z1⟩ := h; go_simp) HS.out ?_
    go_frame
    refine takeH 1 29 (.int .i64 0) rfl rfl (by kernel_rfl) (by kernel_rfl) (by kernel_rfl) (fun _ _ _ h => h) rfl (fun w' h => by obtain ⟨z0, z1⟩ := h; go_simp) HS.out ?_
    go_frame
    refine takeH 2 30 (tP c) rfl rfl (by kernel_rfl) (by kernel_rfl) (by kernel_rfl) (fun _ _ _ h => h) rfl (fun w' h => by obtain ⟨z0, z1⟩ := h; go_simp) HS.out ?_
    go_frame
    refine takeH 3 31 (.pointer (some ⟨c, 1, none⟩)) rfl rfl (by kernel_rfl) (by kernel_rfl) (by kernel_rfl) (fun _ _ _ h => h) rfl (fun w' h => by obtain ⟨z0, z1⟩ := h; go_simp) HS.out ?_
    go_frame
    refine takeH 4 32 (.pointer (some ⟨c, 1, none⟩)) rfl rfl (by kernel_rfl) (by kernel_rfl) (by kernel_rfl) (fun _ _ _ h => h) rfl (fun w' h => by obtain ⟨z0, z1⟩ := h; go_simp) HS.out ?_
    go_frame
    refine takeH 5 33 (.pointer (some ⟨c, 1, none⟩)) rfl rfl (by kernel_rfl) (by kernel_rfl) (by kernel_rfl) (fun _ _ _ h => h) rfl (fun w' h => by obtain ⟨z0, z1⟩ := h; go_simp) HS.out ?_
    go_frame
    refine takeH 6 34 (.slice AA K C) rfl rfl (by kernel_rfl) (by kernel_rfl) (by kernel_rfl) (fun _ _ _ h => h) rfl (fun w' h => by obtain ⟨z0, z1⟩ := h; go_simp) HS.out ?_
    go_frame
    refine takeH 7 35 (tP c) rfl rfl (by kernel_rfl) (by kernel_rfl) (by kernel_rfl) (fun _ _ _ h => h) rfl (fun w' h => by obtain ⟨z0, z1⟩ := h; go_simp) HS.out ?_
    go_frame
    refine takeH 8 36 (.int .i64 0) rfl rfl (by kernel_rfl) (by kernel_rfl) (by kernel_rfl) (fun _ _ _ h => h) rfl (fun w' h => by obtain ⟨z0, z1⟩ := h; go_simp) HS.out ?_
    go_frame
    refine takeH 9 37 (tP c) rfl rfl (by kernel_rfl) (by kernel_rfl) (by kernel_rfl) (fun _ _ _ h => h) rfl (fun w' h => by obtain ⟨z0, z1⟩ := h; go_simp) HS.out ?_
    go_frame
    refine takeH 10 38 (.pointer (some ⟨c, 1, none⟩)) rfl rfl (by kernel_rfl) (by kernel_rfl) (by kernel_rfl) (fun _ _ _ h => h) rfl (fun w' h => by obtain ⟨z0, z1⟩ := h; go_simp) HS.out ?_
    go_frame
    refine takeH 11 39 (.pointer (some ⟨c, 1, none⟩)) rfl rfl (by kernel_rfl) (by kernel_rfl) (by kernel_rfl) (fun _ _ _ h => h) rfl (fun w' h => by obtain ⟨z0, z1⟩ := h; go_simp) HS.out ?_
    go_frame
    refine takeH 12 40 (.pointer (some ⟨c, 2, none⟩)) rfl rfl (by kernel_rfl) (by kernel_rfl) (by kernel_rfl) (fun _ _ _ h => h) rfl (fun w' h => by obtain ⟨z0, z1⟩ := h; go_simp) HS.out ?_
    go_frame
    refine takeH 13 41 (.int .i64 r) rfl rfl (by kernel_rfl) (by kernel_rfl) (by kernel_rfl) (fun _ _ _ h => h) rfl (fun w' h => by obtain ⟨z0, z1⟩ := h; go_simp) HS.out ?_
    go_frame
    refine takeH 14 42 (tP c) rfl rfl (by kernel_rfl) (by kernel_rfl) (by kernel_rfl) (fun _ _ _ h => h) rfl (fun w' h => by obtain ⟨z0, z1⟩ := h; go_simp) HS.out ?_
    go_frame
    refine takeH 15 43 (.int .i64 0) rfl rfl (by kernel_rfl) (by kernel_rfl) (by kernel_rfl) (fun _ _ _ h => h) rfl (fun w' h => by obtain ⟨z0, z1⟩ := h; go_simp) HS.out ?_
    go_frame
    refine takeH 16 44 (tP c) rfl rfl (by kernel_rfl) (by kernel_rfl) (by kernel_rfl) (fun _ _ _ h => h) rfl (fun w' h => by obtain ⟨z0, z1⟩ := h; go_simp) HS.out ?_
    go_frame
    refine takeH 17 45 (.pointer (some ⟨c, 1, none⟩)) rfl rfl (by kernel_rfl) (by kernel_rfl) (by kernel_rfl) (fun _ _ _ h => h) rfl (fun w' h => by obtain ⟨z0, z1⟩ := h; go_simp) HS.out ?_
    go_frame
    refine takeH 18 46 (.pointer (some ⟨c, 1, none⟩)) rfl rfl (by kernel_rfl) (by kernel_rfl) (by kernel_rfl) (fun _ _ _ h => h) rfl (fun w' h => by obtain ⟨z0, z1⟩ := h; go_simp) HS.out ?_
    go_frame
    refine takeH 19 47 (.pointer (some ⟨c, 2, none⟩)) rfl rfl (by kernel_rfl) (by kernel_rfl) (by kernel_rfl) (fun _ _ _ h => h) rfl (fun w' h => by obtain ⟨z0, z1⟩ := h; go_simp) HS.out ?_
    go_frame
    refine takeH 20 48 (.int .i64 r) rfl rfl (by kernel_rfl) (by kernel_rfl) (by kernel_rfl) (fun _ _ _ h => h) rfl (fun w' h => by obtain ⟨z0, z1⟩ := h; go_simp) HS.out ?_
    go_frame
    refine takeH 21 49 (.int .i64 0) rfl rfl (by kernel_rfl) (by kernel_rfl) (by kernel_rfl) (fun _ _ _ h => h) rfl (fun w' h => by obtain ⟨z0, z1⟩ := h; go_simp) HS.out ?_
    go_frame
    refine takeH 22 50 (.int .i64 r) rfl rfl (by kernel_rfl) (by kernel_rfl) (by kernel_rfl) (fun _ _ _ h => h) rfl (fun w' h => by obtain ⟨z0, z1⟩ := h; go_simp) HS.out ?_
    go_frame
    refine takeH 23 51 (V) rfl rfl (by kernel_rfl) (by kernel_rfl) (by kernel_rfl) (fun _ _ _ h => h) rfl (fun w' h => by obtain ⟨z0, z1⟩ := h; go_simp) HS.out ?_
    go_frame
    refine wpAnyH_all (rs := [24]) (by kernel_rfl) (by simp) ?_
    simp only [List.mem_singleton, forall_eq]
    refine wpOp_callD 52 rfl rfl rfl 21 #[V] (by go_simp) ?_
    have hsv := HSV.out w1.drew HO1.out.sl
    rw [HDT.out] at hsv
    refine (copy_any _ V _ w1.drew hsv (Nat.le_refl _) (by rw [List.length_take]; omega)).mono ?_
    rintro e w2 ⟨v2, rfl, hO2, hB2⟩
    have hb2 : Below w1.heap.size w1 w2 := ⟨hB2.os, hB2.tape, hB2.output, hB2.size, hB2.block⟩
    have hlt1 : c < w1.heap.size := HP1.out.blk.lt
    have HS2 := Lib.hid (show w2.cell? ⟨c, 1, none⟩ = some (.slice AA K C) ∧ w2.cell? ⟨c, 2, none⟩ = some (.int .i64 r) from ⟨(hb2.cell (p := ⟨c, 1, none⟩) hlt1).trans HS.out.1, (hb2.cell (p := ⟨c, 2, none⟩) hlt1).trans HS.out.2⟩)
    refine ⟨_, rfl, HS2.out, ?_⟩
    go_frame
    refine takeH 25 9 v2 rfl rfl (by kernel_rfl) (by kernel_rfl) (by kernel_rfl) (fun _ _ _ h => h) rfl (fun w' h => by go_simp) HS2.out ?_
    go_frame
    refine wpAnyH_done (by kernel_rfl) ?_ _
    refine NoPanic.normal ?_
    have HO2 := Lib.hid hO2
    have HB2 := Lib.hid hb2
    have HP2 := Lib.hid (HP1.out.below hb2)
    have c1 := HS2.out.2
    have f1 := HP2.out.blk.free 2
    clear hO2 hB2 hb2 hsv
    go_wp2_with fail
    go_region_law (fail)
    go_wp2_with fail
    go_ret2
    have hfin := rRead_fin HP.out 0 (by omega) HB1.out HB2.out y2 n (by rw [HY2.out, HRr.out]) HYw.out (by rw [← HLl.out, ← HRr.out, ← HK.out]; exact hnw) r (by rw [← HRr.out]; have h1 := Hr.out; have h2 := HNN.out; omega) HO2.out
    exact ⟨_, rfl, hfin⟩
  · have hwr : IntKind.i64.wrap (r + N) = r + N := IntWalk.i64_in _ ⟨by omega, by omega⟩
    have hrun := hrun0
    clear hrun0
    go_enter Tryd.func22, Tryd.ntmps22
    go_wp2_with fail
    refine (HWt.out _).mono ?_
    rintro e w1 ⟨rfl, hB1⟩
    have HB1 := Lib.hid hB1
    have HP1 := Lib.hid (HP.out.below hB1)
    have HO1 := Lib.hid (HO0.out.below hB1)
    have hcS : w1.drew.cell? ⟨c, 1, none⟩ = some (.slice AA K C) ∧ w1.drew.cell? ⟨c, 2, none⟩ = some (.int .i64 r) := ⟨(hB1.cell (p := ⟨c, 1, none⟩) hc).trans k0, (hB1.cell (p := ⟨c, 2, none⟩) hc).trans k1⟩
    have HS := Lib.hid hcS
    clear hB1 hcS k0 k1 k2 k3
    go_wp2_with fail
    refine wp_region_noPanic ?_
    refine wp_region_held (S := fun w' => w'.cell? ⟨c, 1, none⟩ = some (.slice AA K C) ∧ w'.cell? ⟨c, 2, none⟩ = some (.int .i64 r)) (by kernel_rfl) ?_
    change wpAnyH _ _ _ _ _ _ _ _ w1.drew
    refine takeH 0 28 (tP c) rfl rfl (by kernel_rfl) (by kernel_rfl) (by kernel_rfl) (fun _ _ _ h => h) rfl (fun w' h => by obtain ⟨z0, z1⟩ := h; go_simp) HS.out ?_
    go_frame
    refine takeH 1 29 (.int .i64 0) rfl rfl (by kernel_rfl) (by kernel_rfl) (by kernel_rfl) (fun _ _ _ h => h) rfl (fun w' h => by obtain ⟨z0, z1⟩ := h; go_simp) HS.out ?_
    go_frame
    refine takeH 2 30 (tP c) rfl rfl (by kernel_rfl) (by kernel_rfl) (by kernel_rfl) (fun _ _ _ h => h) rfl (fun w' h => by obtain ⟨z0, z1⟩ := h; go_simp) HS.out ?_
    go_frame
    refine takeH 3 31 (.pointer (some ⟨c, 1, none⟩)) rfl rfl (by kernel_rfl) (by kernel_rfl) (by kernel_rfl) (fun _ _ _ h => h) rfl (fun w' h => by obtain ⟨z0, z1⟩ := h; go_simp) HS.out ?_
    go_frame
    refine takeH 4 32 (.pointer (some ⟨c, 1, none⟩)) rfl rfl (by kernel_rfl) (by kernel_rfl) (by kernel_rfl) (fun _ _ _ h => h) rfl (fun w' h => by obtain ⟨z0, z1⟩ := h; go_simp) HS.out ?_
    go_frame
    refine takeH 5 33 (.pointer (some ⟨c, 1, none⟩)) rfl rfl (by kernel_rfl) (by kernel_rfl) (by kernel_rfl) (fun _ _ _ h => h) rfl (fun w' h => by obtain ⟨z0, z1⟩ := h; go_simp) HS.out ?_
    go_frame
    refine takeH 6 34 (.slice AA K C) rfl rfl (by kernel_rfl) (by kernel_rfl) (by kernel_rfl) (fun _ _ _ h => h) rfl (fun w' h => by obtain ⟨z0, z1⟩ := h; go_simp) HS.out ?_
    go_frame
    refine takeH 7 35 (tP c) rfl rfl (by kernel_rfl) (by kernel_rfl) (by kernel_rfl) (fun _ _ _ h => h) rfl (fun w' h => by obtain ⟨z0, z1⟩ := h; go_simp) HS.out ?_
    go_frame
    refine takeH 8 36 (.int .i64 0) rfl rfl (by kernel_rfl) (by kernel_rfl) (by kernel_rfl) (fun _ _ _ h => h) rfl (fun w' h => by obtain ⟨z0, z1⟩ := h; go_simp) HS.out ?_
    go_frame
    refine takeH 9 37 (tP c) rfl rfl (by kernel_rfl) (by kernel_rfl) (by kernel_rfl) (fun _ _ _ h => h) rfl (fun w' h => by obtain ⟨z0, z1⟩ := h; go_simp) HS.out ?_
    go_frame
    refine takeH 10 38 (.pointer (some ⟨c, 1, none⟩)) rfl rfl (by kernel_rfl) (by kernel_rfl) (by kernel_rfl) (fun _ _ _ h => h) rfl (fun w' h => by obtain ⟨z0, z1⟩ := h; go_simp) HS.out ?_
    go_frame
    refine takeH 11 39 (.pointer (some ⟨c, 1, none⟩)) rfl rfl (by kernel_rfl) (by kernel_rfl) (by kernel_rfl) (fun _ _ _ h => h) rfl (fun w' h => by obtain ⟨z0, z1⟩ := h; go_simp) HS.out ?_
    go_frame
    refine takeH 12 40 (.pointer (some ⟨c, 2, none⟩)) rfl rfl (by kernel_rfl) (by kernel_rfl) (by kernel_rfl) (fun _ _ _ h => h) rfl (fun w' h => by obtain ⟨z0, z1⟩ := h; go_simp) HS.out ?_
    go_frame
    refine takeH 13 41 (.int .i64 r) rfl rfl (by kernel_rfl) (by kernel_rfl) (by kernel_rfl) (fun _ _ _ h => h) rfl (fun w' h => by obtain ⟨z0, z1⟩ := h; go_simp) HS.out ?_
    go_frame
    refine takeH 14 42 (tP c) rfl rfl (by kernel_rfl) (by kernel_rfl) (by kernel_rfl) (fun _ _ _ h => h) rfl (fun w' h => by obtain ⟨z0, z1⟩ := h; go_simp) HS.out ?_
    go_frame
    refine takeH 15 43 (.int .i64 0) rfl rfl (by kernel_rfl) (by kernel_rfl) (by kernel_rfl) (fun _ _ _ h => h) rfl (fun w' h => by obtain ⟨z0, z1⟩ := h; go_simp) HS.out ?_
    go_frame
    refine takeH 16 44 (tP c) rfl rfl (by kernel_rfl) (by kernel_rfl) (by kernel_rfl) (fun _ _ _ h => h) rfl (fun w' h => by obtain ⟨z0, z1⟩ := h; go_simp) HS.out ?_
    go_frame
    refine takeH 17 45 (.pointer (some ⟨c, 1, none⟩)) rfl rfl (by kernel_rfl) (by kernel_rfl) (by kernel_rfl) (fun _ _ _ h => h) rfl (fun w' h => by obtain ⟨z0, z1⟩ := h; go_simp) HS.out ?_
    go_frame
    refine takeH 18 46 (.pointer (some ⟨c, 1, none⟩)) rfl rfl (by kernel_rfl) (by kernel_rfl) (by kernel_rfl) (fun _ _ _ h => h) rfl (fun w' h => by obtain ⟨z0, z1⟩ := h; go_simp) HS.out ?_
    go_frame
    refine takeH 19 47 (.pointer (some ⟨c, 2, none⟩)) rfl rfl (by kernel_rfl) (by kernel_rfl) (by kernel_rfl) (fun _ _ _ h => h) rfl (fun w' h => by obtain ⟨z0, z1⟩ := h; go_simp) HS.out ?_
    go_frame
    refine takeH 20 48 (.int .i64 r) rfl rfl (by kernel_rfl) (by kernel_rfl) (by kernel_rfl) (fun _ _ _ h => h) rfl (fun w' h => by obtain ⟨z0, z1⟩ := h; go_simp) HS.out ?_
    go_frame
    refine takeH 21 49 (.int .i64 N) rfl rfl (by kernel_rfl) (by kernel_rfl) (by kernel_rfl) (fun _ _ _ h => h) rfl (fun w' h => by obtain ⟨z0, z1⟩ := h; go_simp) HS.out ?_
    go_frame
    refine takeH 22 50 (.int .i64 (r + N)) rfl rfl (by kernel_rfl) (by kernel_rfl) (by kernel_rfl) (fun _ _ _ h => h) rfl (fun w' h => by obtain ⟨z0, z1⟩ := h; go_simp) HS.out ?_
    go_frame
    refine takeH 23 51 (V) rfl rfl (by kernel_rfl) (by kernel_rfl) (by kernel_rfl) (fun _ _ _ h => h) rfl (fun w' h => by obtain ⟨z0, z1⟩ := h; go_simp) HS.out ?_
    go_frame
    refine wpAnyH_all (rs := [24]) (by kernel_rfl) (by simp) ?_
    simp only [List.mem_singleton, forall_eq]
    refine wpOp_callD 52 rfl rfl rfl 21 #[V] (by go_simp) ?_
    have hsv := HSV.out w1.drew HO1.out.sl
    rw [HDT.out] at hsv
    refine (copy_any _ V _ w1.drew hsv (Nat.le_refl _) (by rw [List.length_take]; omega)).mono ?_
    rintro e w2 ⟨v2, rfl, hO2, hB2⟩
    have hb2 : Below w1.heap.size w1 w2 := ⟨hB2.os, hB2.tape, hB2.output, hB2.size, hB2.block⟩
    have hlt1 : c < w1.heap.size := HP1.out.blk.lt
    have HS2 := Lib.hid (show w2.cell? ⟨c, 1, none⟩ = some (.slice AA K C) ∧ w2.cell? ⟨c, 2, none⟩ = some (.int .i64 r) from ⟨(hb2.cell (p := ⟨c, 1, none⟩) hlt1).trans HS.out.1, (hb2.cell (p := ⟨c, 2, none⟩) hlt1).trans HS.out.2⟩)
    refine ⟨_, rfl, HS2.out, ?_⟩
    go_frame
    refine takeH 25 9 v2 rfl rfl (by kernel_rfl) (by kernel_rfl) (by kernel_rfl) (fun _ _ _ h => h) rfl (fun w' h => by go_simp) HS2.out ?_
    go_frame
    refine wpAnyH_done (by kernel_rfl) ?_ _
    refine NoPanic.normal ?_
    have HO2 := Lib.hid hO2
    have HB2 := Lib.hid hb2
    have HP2 := Lib.hid (HP1.out.below hb2)
    have c1 := HS2.out.2
    have f1 := HP2.out.blk.free 2
    clear hO2 hB2 hb2 hsv
    go_wp2_with fail
    go_region_law (fail)
    go_wp2_with fail
    go_ret2
    have hfin := rRead_fin HP.out 0 (by omega) HB1.out HB2.out y2 n (by rw [HY2.out, HRr.out]) HYw.out (by rw [← HLl.out, ← HRr.out, ← HK.out]; exact hnw) (r + N) (by rw [← HRr.out]; have h1 := Hr.out; have h2 := HNN.out; omega) HO2.out
    exact ⟨_, rfl, hfin⟩
  · have hwr : IntKind.i64.wrap (r + N) = r + N := IntWalk.i64_in _ ⟨by omega, by omega⟩
    have hrun := hrun0
    clear hrun0
    go_enter Tryd.func22, Tryd.ntmps22
    go_wp2_with fail
    refine (HWt.out _).mono ?_
    rintro e w1 ⟨rfl, hB1⟩
    have HB1 := Lib.hid hB1
    have HP1 := Lib.hid (HP.out.below hB1)
    have HO1 := Lib.hid (HO0.out.below hB1)
    have hcS : w1.drew.cell? ⟨c, 1, none⟩ = some (.slice AA K C) ∧ w1.drew.cell? ⟨c, 2, none⟩ = some (.int .i64 r) := ⟨(hB1.cell (p := ⟨c, 1, none⟩) hc).trans k0, (hB1.cell (p := ⟨c, 2, none⟩) hc).trans k1⟩
    have HS := Lib.hid hcS
    clear hB1 hcS k0 k1 k2 k3
    go_wp2_with fail
    refine wp_region_noPanic ?_
    refine wp_region_held (S := fun w' => w'.cell? ⟨c, 1, none⟩ = some (.slice AA K C) ∧ w'.cell? ⟨c, 2, none⟩ = some (.int .i64 r)) (by kernel_rfl) ?_
    change wpAnyH _ _ _ _ _ _ _ _ w1.drew
    refine takeH 0 28 (tP c) rfl rfl (by kernel_rfl) (by kernel_rfl) (by kernel_rfl) (fun _ _ _ h => h) rfl (fun w' h => by obtain ⟨z0, z1⟩ := h; go_simp) HS.out ?_
    go_frame
    refine takeH 1 29 (.int .i64 0) rfl rfl (by kernel_rfl) (by kernel_rfl) (by kernel_rfl) (fun _ _ _ h => h) rfl (fun w' h => by obtain ⟨z0, z1⟩ := h; go_simp) HS.out ?_
    go_frame
    refine takeH 2 30 (tP c) rfl rfl (by kernel_rfl) (by kernel_rfl) (by kernel_rfl) (fun _ _ _ h => h) rfl (fun w' h => by obtain ⟨z0, z1⟩ := h; go_simp) HS.out ?_
    go_frame
    refine takeH 3 31 (.pointer (some ⟨c, 1, none⟩)) rfl rfl (by kernel_rfl) (by kernel_rfl) (by kernel_rfl) (fun _ _ _ h => h) rfl (fun w' h => by obtain ⟨z0, z1⟩ := h; go_simp) HS.out ?_
    go_frame
    refine takeH 4 32 (.pointer (some ⟨c, 1, none⟩)) rfl rfl (by kernel_rfl) (by kernel_rfl) (by kernel_rfl) (fun _ _ _ h => h) rfl (fun w' h => by obtain ⟨z0, z1⟩ := h; go_simp) HS.out ?_
    go_frame
    refine takeH 5 33 (.pointer (some ⟨c, 1, none⟩)) rfl rfl (by kernel_rfl) (by kernel_rfl) (by kernel_rfl) (fun _ _ _ h => h) rfl (fun w' h => by obtain ⟨z0, z1⟩ := h; go_simp) HS.out ?_
    go_frame
    refine takeH 6 34 (.slice AA K C) rfl rfl (by kernel_rfl) (by kernel_rfl) (by kernel_rfl) (fun _ _ _ h => h) rfl (fun w' h => by obtain ⟨z0, z1⟩ := h; go_simp) HS.out ?_
    go_frame
    refine takeH 7 35 (tP c) rfl rfl (by kernel_rfl) (by kernel_rfl) (by kernel_rfl) (fun _ _ _ h => h) rfl (fun w' h => by obtain ⟨z0, z1⟩ := h; go_simp) HS.out ?_
    go_frame
    refine takeH 8 36 (.int .i64 0) rfl rfl (by kernel_rfl) (by kernel_rfl) (by kernel_rfl) (fun _ _ _ h => h) rfl (fun w' h => by obtain ⟨z0, z1⟩ := h; go_simp) HS.out ?_
    go_frame
    refine takeH 9 37 (tP c) rfl rfl (by kernel_rfl) (by kernel_rfl) (by kernel_rfl) (fun _ _ _ h => h) rfl (fun w' h => by obtain ⟨z0, z1⟩ := h; go_simp) HS.out ?_
    go_frame
    refine takeH 10 38 (.pointer (some ⟨c, 1, none⟩)) rfl rfl (by kernel_rfl) (by kernel_rfl) (by kernel_rfl) (fun _ _ _ h => h) rfl (fun w' h => by obtain ⟨z0, z1⟩ := h; go_simp) HS.out ?_
    go_frame
    refine takeH 11 39 (.pointer (some ⟨c, 1, none⟩)) rfl rfl (by kernel_rfl) (by kernel_rfl) (by kernel_rfl) (fun _ _ _ h => h) rfl (fun w' h => by obtain ⟨z0, z1⟩ := h; go_simp) HS.out ?_
    go_frame
    refine takeH 12 40 (.pointer (some ⟨c, 2, none⟩)) rfl rfl (by kernel_rfl) (by kernel_rfl) (by kernel_rfl) (fun _ _ _ h => h) rfl (fun w' h => by obtain ⟨z0, z1⟩ := h; go_simp) HS.out ?_
    go_frame
    refine takeH 13 41 (.int .i64 r) rfl rfl (by kernel_rfl) (by kernel_rfl) (by kernel_rfl) (fun _ _ _ h => h) rfl (fun w' h => by obtain ⟨z0, z1⟩ := h; go_simp) HS.out ?_
    go_frame
    refine takeH 14 42 (tP c) rfl rfl (by kernel_rfl) (by kernel_rfl) (by kernel_rfl) (fun _ _ _ h => h) rfl (fun w' h => by obtain ⟨z0, z1⟩ := h; go_simp) HS.out ?_
    go_frame
    refine takeH 15 43 (.int .i64 0) rfl rfl (by kernel_rfl) (by kernel_rfl) (by kernel_rfl) (fun _ _ _ h => h) rfl (fun w' h => by obtain ⟨z0, z1⟩ := h; go_simp) HS.out ?_
    go_frame
    refine takeH 16 44 (tP c) rfl rfl (by kernel_rfl) (by kernel_rfl) (by kernel_rfl) (fun _ _ _ h => h) rfl (fun w' h => by obtain ⟨z0, z1⟩ := h; go_simp) HS.out ?_
    go_frame
    refine takeH 17 45 (.pointer (some ⟨c, 1, none⟩)) rfl rfl (by kernel_rfl) (by kernel_rfl) (by kernel_rfl) (fun _ _ _ h => h) rfl (fun w' h => by obtain ⟨z0, z1⟩ := h; go_simp) HS.out ?_
    go_frame
    refine takeH 18 46 (.pointer (some ⟨c, 1, none⟩)) rfl rfl (by kernel_rfl) (by kernel_rfl) (by kernel_rfl) (fun _ _ _ h => h) rfl (fun w' h => by obtain ⟨z0, z1⟩ := h; go_simp) HS.out ?_
    go_frame
    refine takeH 19 47 (.pointer (some ⟨c, 2, none⟩)) rfl rfl (by kernel_rfl) (by kernel_rfl) (by kernel_rfl) (fun _ _ _ h => h) rfl (fun w' h => by obtain ⟨z0, z1⟩ := h; go_simp) HS.out ?_
    go_frame
    refine takeH 20 48 (.int .i64 r) rfl rfl (by kernel_rfl) (by kernel_rfl) (by kernel_rfl) (fun _ _ _ h => h) rfl (fun w' h => by obtain ⟨z0, z1⟩ := h; go_simp) HS.out ?_
    go_frame
    refine takeH 21 49 (.int .i64 N) rfl rfl (by kernel_rfl) (by kernel_rfl) (by kernel_rfl) (fun _ _ _ h => h) rfl (fun w' h => by obtain ⟨z0, z1⟩ := h; go_simp) HS.out ?_
    go_frame
    refine takeH 22 50 (.int .i64 (r + N)) rfl rfl (by kernel_rfl) (by kernel_rfl) (by kernel_rfl) (fun _ _ _ h => h) rfl (fun w' h => by obtain ⟨z0, z1⟩ := h; go_simp) HS.out ?_
    go_frame
    refine takeH 23 51 (V) rfl rfl (by kernel_rfl) (by kernel_rfl) (by kernel_rfl) (fun _ _ _ h => h) rfl (fun w' h => by obtain ⟨z0, z1⟩ := h; go_simp) HS.out ?_
    go_frame
    refine wpAnyH_all (rs := [24]) (by kernel_rfl) (by simp) ?_
    simp only [List.mem_singleton, forall_eq]
    refine wpOp_callD 52 rfl rfl rfl 21 #[V] (by go_simp) ?_
    have hsv := HSV.out w1.drew HO1.out.sl
    rw [HDT.out] at hsv
    refine (copy_any _ V _ w1.drew hsv (Nat.le_refl _) (by rw [List.length_take]; omega)).mono ?_
    rintro e w2 ⟨v2, rfl, hO2, hB2⟩
    have hb2 : Below w1.heap.size w1 w2 := ⟨hB2.os, hB2.tape, hB2.output, hB2.size, hB2.block⟩
    have hlt1 : c < w1.heap.size := HP1.out.blk.lt
    have HS2 := Lib.hid (show w2.cell? ⟨c, 1, none⟩ = some (.slice AA K C) ∧ w2.cell? ⟨c, 2, none⟩ = some (.int .i64 r) from ⟨(hb2.cell (p := ⟨c, 1, none⟩) hlt1).trans HS.out.1, (hb2.cell (p := ⟨c, 2, none⟩) hlt1).trans HS.out.2⟩)
    refine ⟨_, rfl, HS2.out, ?_⟩
    go_frame
    refine takeH 25 9 v2 rfl rfl (by kernel_rfl) (by kernel_rfl) (by kernel_rfl) (fun _ _ _ h => h) rfl (fun w' h => by go_simp) HS2.out ?_
    go_frame
    refine wpAnyH_done (by kernel_rfl) ?_ _
    refine NoPanic.normal ?_
    have HO2 := Lib.hid hO2
    have HB2 := Lib.hid hb2
    have HP2 := Lib.hid (HP1.out.below hb2)
    have c1 := HS2.out.2
    have f1 := HP2.out.blk.free 2
    clear hO2 hB2 hb2 hsv
    go_wp2_with fail
    go_region_law (fail)
    go_wp2_with fail
    go_ret2
    have hfin := rRead_fin HP.out 0 (by omega) HB1.out HB2.out y2 n (by rw [HY2.out, HRr.out]) HYw.out (by rw [← HLl.out, ← HRr.out, ← HK.out]; exact hnw) (r + N) (by rw [← HRr.out]; have h1 := Hr.out; have h2 := HNN.out; omega) HO2.out
    exact ⟨_, rfl, hfin⟩
set_option maxHeartbeats 2000000 in
theorem rRead_1 (h : PX w base c room A Y) (m : Int) :
    Calls Tryd.prog 22 #[tP c, .int .i64 1, .int .i64 m] w fun e w' => ∃ v, e = .returned (.tuple #[v, .int .i64 0]) ∧ OwnB w' w.heap.size v (((Y 1).all.drop (Y 1).rd).take (rrN (Y 1) m)) ∧ PX w' base c room A (upd Y 1 (rrR (Y 1) m)) ∧ Trs [c] w w' := by
  have HP := Lib.hid h
  obtain ⟨AA, C, hV, _, q1, q2, _⟩ := (h.own 1 (by omega)).sl
  have k0 : w.cell? ⟨c, 5, none⟩ = some (A 1) := h.blk.at (o := 5) rfl
  have k1 : w.cell? ⟨c, 6, none⟩ = some (.int .i64 ((Y 1).rd : Int)) := h.blk.at (o := 6) rfl
  have k2 : w.cell? ⟨c, 7, none⟩ = some (.bool (Y 1).shut) := h.blk.at (o := 7) rfl
  have k3 : w.cell? ⟨c, 8, none⟩ = some (.int .i64 ((Y 1).lost : Int)) := h.blk.at (o := 8) rfl
  rw [hV] at k0
  have hfit := h.fit 1 (by omega)
  have hbig := h.big 1 (by omega)
  have hc := h.blk.lt
  have HV1 := Lib.hid hV; clear hV
  obtain ⟨n, hn⟩ : ∃ n, n = rrN (Y 1) m := ⟨_, rfl⟩
  obtain ⟨y2, hy2⟩ : ∃ x, x = rrR (Y 1) m := ⟨_, rfl⟩
  have HY2 := Lib.hid (show y2 = { Y 1 with rd := (Y 1).rd + n } from by rw [hy2, hn]; rfl)
  have HYw := Lib.hid (show y2.waits ≤ room from by rw [hy2]; exact rrR_waits _ _ _ (h.waits 1 (by omega)))
  have hnw : n ≤ (Y 1).all.length - (Y 1).rd - (Y 1).lost := by rw [hn]; unfold rrN WayR.waits; omega
  rw [← hn, ← hy2]
  obtain ⟨z, hz⟩ : ∃ z : Int, z = ((Y 1).all.length : Int) - ((Y 1).rd : Int) - ((Y 1).lost : Int) := ⟨_, rfl⟩
  have hz0 : 0 ≤ z := by omega
  have hzr : ((Y 1).rd : Int) + z ≤ 400000 := by omega
  have HN := Lib.hid (show (m < 0 ∧ (n : Int) = 0) ∨ (0 ≤ m ∧ m ≤ z ∧ (n : Int) = m) ∨ (0 ≤ m ∧ ¬ m ≤ z ∧ (n : Int) = z) from by  rw [hn]; unfold rrN WayR.waits; omega)
  have HWt := Lib.hid (fun W => rWaits_any AA (Y 1).all.length C ((Y 1).rd : Int) ((Y 1).lost : Int) (Y 1).shut W (by omega) (by omega) (by omega) hbig)
  rw [← hz] at HWt
  obtain ⟨L, hL⟩ : ∃ L, L = (Y 1).all := ⟨_, rfl⟩
  rw [← hL] at k0 hfit hbig hnw HV1 q1 HWt ⊢
  have HLl := Lib.hid hL
  have HO0 := Lib.hid (show OwnB w base (.slice AA L.length C) L from by rw [← HV1.out, hL]; exact h.own 1 (by omega))
  clear hL hn hy2 hz h
  obtain ⟨R, hR⟩ : ∃ R, R = (Y 1).rd := ⟨_, rfl⟩
  rw [← hR] at k1 hfit hnw hzr HY2 HWt ⊢
  have HRr := Lib.hid hR; clear hR
  obtain ⟨K, hK⟩ : ∃ K, K = L.length := ⟨_, rfl⟩
  rw [← hK] at k0 hfit hbig hnw HV1 q1 HWt HO0
  obtain ⟨N, hNN⟩ : ∃ N : Int, N = (n : Int) := ⟨_, rfl⟩
  obtain ⟨V, hrun0, hslV, _⟩ := slice_mid AA K C R (R + n) (R : Int) ((R : Int) + (n : Int)) rfl (by omega) (by omega) (by omega) q1
  rw [← hNN] at hrun0 HN
  have HSV := Lib.hid (fun W (hs : Sl W W.heap.size (.slice AA K C) L) => hslV W W.heap.size L hs hK.symm)
  have HDT := Lib.hid (show (L.drop R).take (R + n - R) = (L.drop R).take n from by rw [show R + n - R = n from by omega])
  have HNN := Lib.hid hNN; clear hNN
  have HK := Lib.hid hK; clear hK
  obtain ⟨r, hr⟩ : ∃ r : Int, r = (R : Int) := ⟨_, rfl⟩
  rw [← hr] at k1 hrun0 HWt
  have hr0 : 0 ≤ r := by omega
  have hr1 : r + z ≤ 400000 := by rw [hr]; exact hzr
  clear hzr
  have Hr := Lib.hid hr; clear hr
  rcases HN.out with ⟨hcm, rfl⟩ | ⟨hcm, hcm2, rfl⟩ | ⟨hcm, hcm2, rfl⟩
  · have hwr : IntKind.i64.wrap r = r := IntWalk.i64_in _ ⟨by omega, by omega⟩
    have hrun : ∀ w, (Instr.slice 29 (.slice AA K C) (some (.int .i64 r)) (some (.int .i64 r)) none).run Tryd.prog w = .ok V w := by rw [show r + 0 = r from by omega] at hrun0; exact hrun0
    clear hrun0
    go_enter Tryd.func22, Tryd.ntmps22
    go_wp2_with fail
    refine (HWt.out _).mono ?_
    rintro e w1 ⟨rfl, hB1⟩
    have HB1 := Lib.hid hB1
    have HP1 := Lib.hid (HP.out.below hB1)
    have HO1 := Lib.hid (HO0.out.below hB1)
    have hcS : w1.drew.cell? ⟨c, 5, none⟩ = some (.slice AA K C) ∧ w1.drew.cell? ⟨c, 6, none⟩ = some (.int .i64 r) := ⟨(hB1.cell (p := ⟨c, 5, none⟩) hc).trans k0, (hB1.cell (p := ⟨c, 6, none⟩) hc).trans k1⟩
    have HS := Lib.hid hcS
    clear hB1 hcS k0 k1 k2 k3
    go_wp2_with fail
    refine wp_region_noPanic ?_
    refine wp_region_held (S := fun w' => w'.cell? ⟨c, 5, none⟩ = some (.slice AA K C) ∧ w'.cell? ⟨c, 6, none⟩ = some (.int .i64 r)) (by kernel_rfl) ?_
    change wpAnyH _ _ _ _ _ _ _ _ w1.drew
    refine takeH 0 28 (tP c) rfl rfl (by kernel_rfl) (by kernel_rfl) (by kernel_rfl) (fun _ _ _ h => h) rfl (fun w' h => by obtain ⟨z0, z1⟩ := h; go_simp) HS.out ?_
    go_frame
    refine takeH 1 29 (.int .i64 1) rfl rfl (by kernel_rfl) (by kernel_rfl) (by kernel_rfl) (fun _ _ _ h => h) rfl (fun w' h => by obtain ⟨z0, z1⟩ := h; go_simp) HS.out ?_
    go_frame
    refine takeH 2 30 (tP c) rfl rfl (by kernel_rfl) (by kernel_rfl) (by kernel_rfl) (fun _ _ _ h => h) rfl (fun w' h => by obtain ⟨z0, z1⟩ := h; go_simp) HS.out ?_
    go_frame
    refine takeH 3 31 (.pointer (some ⟨c, 1, none⟩)) rfl rfl (by kernel_rfl) (by kernel_rfl) (by kernel_rfl) (fun _ _ _ h => h) rfl (fun w' h => by obtain ⟨z0, z1⟩ := h; go_simp) HS.out ?_
    go_frame
    refine takeH 4 32 (.pointer (some ⟨c, 5, none⟩)) rfl rfl (by kernel_rfl) (by kernel_rfl) (by kernel_rfl) (fun _ _ _ h => h) rfl (fun w' h => by obtain ⟨z0, z1⟩ := h; go_simp) HS.out ?_
    go_frame
    refine takeH 5 33 (.pointer (some ⟨c, 5, none⟩)) rfl rfl (by kernel_rfl) (by kernel_rfl) (by kernel_rfl) (fun _ _ _ h => h) rfl (fun w' h => by obtain ⟨z0, z1⟩ := h; go_simp) HS.out ?_
    go_frame
    refine takeH 6 34 (.slice AA K C) rfl rfl (by kernel_rfl) (by kernel_rfl) (by kernel_rfl) (fun _ _ _ h => h) rfl (fun w' h => by obtain ⟨z0, z1⟩ := h; go_simp) HS.out ?_
    go_frame
    refine takeH 7 35 (tP c) rfl rfl (by kernel_rfl) (by kernel_rfl) (by kernel_rfl) (fun _ _ _ h => h) rfl (fun w' h => by obtain ⟨z0, z1⟩ := h; go_simp) HS.out ?_
    go_frame
    refine takeH 8 36 (.int .i64 1) rfl rfl (by kernel_rfl) (by kernel_rfl) (by kernel_rfl) (fun _ _ _ h => h) rfl (fun w' h => by obtain ⟨z0, z1⟩ := h; go_simp) HS.out ?_
    go_frame
    refine takeH 9 37 (tP c) rfl rfl (by kernel_rfl) (by kernel_rfl) (by kernel_rfl) (fun _ _ _ h => h) rfl (fun w' h => by obtain ⟨z0, z1⟩ := h; go_simp) HS.out ?_
    go_frame
    refine takeH 10 38 (.pointer (some ⟨c, 1, none⟩)) rfl rfl (by kernel_rfl) (by kernel_rfl) (by kernel_rfl) (fun _ _ _ h => h) rfl (fun w' h => by obtain ⟨z0, z1⟩ := h; go_simp) HS.out ?_
    go_frame
    refine takeH 11 39 (.pointer (some ⟨c, 5, none⟩)) rfl rfl (by kernel_rfl) (by kernel_rfl) (by kernel_rfl) (fun _ _ _ h => h) rfl (fun w' h => by obtain ⟨z0, z1⟩ := h; go_simp) HS.out ?_
    go_frame
    refine takeH 12 40 (.pointer (some ⟨c, 6, none⟩)) rfl rfl (by kernel_rfl) (by kernel_rfl) (by kernel_rfl) (fun _ _ _ h => h) rfl (fun w' h => by obtain ⟨z0, z1⟩ := h; go_simp) HS.out ?_
    go_frame
    refine takeH 13 41 (.int .i64 r) rfl rfl (by kernel_rfl) (by kernel_rfl) (by kernel_rfl) (fun _ _ _ h => h) rfl (fun w' h => by obtain ⟨z0, z1⟩ := h; go_simp) HS.out ?_
    go_frame
    refine takeH 14 42 (tP c) rfl rfl (by kernel_rfl) (by kernel_rfl) (by kernel_rfl) (fun _ _ _ h => h) rfl (fun w' h => by obtain ⟨z0, z1⟩ := h; go_simp) HS.out ?_
    go_frame
    refine takeH 15 43 (.int .i64 1) rfl rfl (by kernel_rfl) (by kernel_rfl) (by kernel_rfl) (fun _ _ _ h => h) rfl (fun w' h => by obtain ⟨z0, z1⟩ := h; go_simp) HS.out ?_
    go_frame
    refine takeH 16 44 (tP c) rfl rfl (by kernel_rfl) (by kernel_rfl) (by kernel_rfl) (fun _ _ _ h => h) rfl (fun w' h => by obtain ⟨z0, z1⟩ := h; go_simp) HS.out ?_
    go_frame
    refine takeH 17 45 (.pointer (some ⟨c, 1, none⟩)) rfl rfl (by kernel_rfl) (by kernel_rfl) (by kernel_rfl) (fun _ _ _ h => h) rfl (fun w' h => by obtain ⟨z0, z1⟩ := h; go_simp) HS.out ?_
    go_frame
    refine takeH 18 46 (.pointer (some ⟨c, 5, none⟩)) rfl rfl (by kernel_rfl) (by kernel_rfl) (by kernel_rfl) (fun _ _ _ h => h) rfl (fun w' h => by obtain ⟨z0, z1⟩ := h; go_simp) HS.out ?_
    go_frame
    refine takeH 19 47 (.pointer (some ⟨c, 6, none⟩)) rfl rfl (by kernel_rfl) (by kernel_rfl) (by kernel_rfl) (fun _ _ _ h => h) rfl (fun w' h => by obtain ⟨z0, z1⟩ := h; go_simp) HS.out ?_
    go_frame
    refine takeH 20 48 (.int .i64 r) rfl rfl (by kernel_rfl) (by kernel_rfl) (by kernel_rfl) (fun _ _ _ h => h) rfl (fun w' h => by obtain ⟨z0, z1⟩ := h; go_simp) HS.out ?_
    go_frame
    refine takeH 21 49 (.int .i64 0) rfl rfl (by kernel_rfl) (by kernel_rfl) (by kernel_rfl) (fun _ _ _ h => h) rfl (fun w' h => by obtain ⟨z0, z1⟩ := h; go_simp) HS.out ?_
    go_frame
    refine takeH 22 50 (.int .i64 r) rfl rfl (by kernel_rfl) (by kernel_rfl) (by kernel_rfl) (fun _ _ _ h => h) rfl (fun w' h => by obtain ⟨z0, z1⟩ := h; go_simp) HS.out ?_
    go_frame
    refine takeH 23 51 (V) rfl rfl (by kernel_rfl) (by kernel_rfl) (by kernel_rfl) (fun _ _ _ h => h) rfl (fun w' h => by obtain ⟨z0, z1⟩ := h; go_simp) HS.out ?_
    go_frame
    refine wpAnyH_all (rs := [24]) (by kernel_rfl) (by simp) ?_
    simp only [List.mem_singleton, forall_eq]
    refine wpOp_callD 52 rfl rfl rfl 21 #[V] (by go_simp) ?_
    have hsv := HSV.out w1.drew HO1.out.sl
    rw [HDT.out] at hsv
    refine (copy_any _ V _ w1.drew hsv (Nat.le_refl _) (by rw [List.length_take]; omega)).mono ?_
    rintro e w2 ⟨v2, rfl, hO2, hB2⟩
    have hb2 : Below w1.heap.size w1 w2 := ⟨hB2.os, hB2.tape, hB2.output, hB2.size, hB2.block⟩
    have hlt1 : c < w1.heap.size := HP1.out.blk.lt
    have HS2 := Lib.hid (show w2.cell? ⟨c, 5, none⟩ = some (.slice AA K C) ∧ w2.cell? ⟨c, 6, none⟩ = some (.int .i64 r) from ⟨(hb2.cell (p := ⟨c, 5, none⟩) hlt1).trans HS.out.1, (hb2.cell (p := ⟨c, 6, none⟩) hlt1).trans HS.out.2⟩)
    refine ⟨_, rfl, HS2.out, ?_⟩
    go_frame
    refine takeH 25 9 v2 rfl rfl (by kernel_rfl) (by kernel_rfl) (by kernel_rfl) (fun _ _ _ h => h) rfl (fun w' h => by go_simp) HS2.out ?_
    go_frame
    refine wpAnyH_done (by kernel_rfl) ?_ _
    refine NoPanic.normal ?_
    have HO2 := Lib.hid hO2
    have HB2 := Lib.hid hb2
    have HP2 := Lib.hid (HP1.out.below hb2)
    have c1 := HS2.out.2
    have f1 := HP2.out.blk.free 6
    clear hO2 hB2 hb2 hsv
    go_wp2_with fail
    go_region_law (fail)
    go_wp2_with fail
    go_ret2
    have hfin := rRead_fin HP.out 1 (by omega) HB1.out HB2.out y2 n (by rw [HY2.out, HRr.out]) HYw.out (by rw [← HLl.out, ← HRr.out, ← HK.out]; exact hnw) r (by rw [← HRr.out]; have h1 := Hr.out; have h2 := HNN.out; omega) HO2.out
    exact ⟨_, rfl, hfin⟩
  · have hwr : IntKind.i64.wrap (r + N) = r + N := IntWalk.i64_in _ ⟨by omega, by omega⟩
    have hrun := hrun0
    clear hrun0
    go_enter Tryd.func22, Tryd.ntmps22
    go_wp2_with fail
    refine (HWt.out _).mono ?_
    rintro e w1 ⟨rfl, hB1⟩
    have HB1 := Lib.hid hB1
    have HP1 := Lib.hid (HP.out.below hB1)
    have HO1 := Lib.hid (HO0.out.below hB1)
    have hcS : w1.drew.cell? ⟨c, 5, none⟩ = some (.slice AA K C) ∧ w1.drew.cell? ⟨c, 6, none⟩ = some (.int .i64 r) := ⟨(hB1.cell (p := ⟨c, 5, none⟩) hc).trans k0, (hB1.cell (p := ⟨c, 6, none⟩) hc).trans k1⟩
    have HS := Lib.hid hcS
    clear hB1 hcS k0 k1 k2 k3
    go_wp2_with fail
    refine wp_region_noPanic ?_
    refine wp_region_held (S := fun w' => w'.cell? ⟨c, 5, none⟩ = some (.slice AA K C) ∧ w'.cell? ⟨c, 6, none⟩ = some (.int .i64 r)) (by kernel_rfl) ?_
    change wpAnyH _ _ _ _ _ _ _ _ w1.drew
    refine takeH 0 28 (tP c) rfl rfl (by kernel_rfl) (by kernel_rfl) (by kernel_rfl) (fun _ _ _ h => h) rfl (fun w' h => by obtain ⟨z0, z1⟩ := h; go_simp) HS.out ?_
    go_frame
    refine takeH 1 29 (.int .i64 1) rfl rfl (by kernel_rfl) (by kernel_rfl) (by kernel_rfl) (fun _ _ _ h => h) rfl (fun w' h => by obtain ⟨z0, z1⟩ := h; go_simp) HS.out ?_
    go_frame
    refine takeH 2 30 (tP c) rfl rfl (by kernel_rfl) (by kernel_rfl) (by kernel_rfl) (fun _ _ _ h => h) rfl (fun w' h => by obtain ⟨z0, z1⟩ := h; go_simp) HS.out ?_
    go_frame
    refine takeH 3 31 (.pointer (some ⟨c, 1, none⟩)) rfl rfl (by kernel_rfl) (by kernel_rfl) (by kernel_rfl) (fun _ _ _ h => h) rfl (fun w' h => by obtain ⟨z0, z1⟩ := h; go_simp) HS.out ?_
    go_frame
    refine takeH 4 32 (.pointer (some ⟨c, 5, none⟩)) rfl rfl (by kernel_rfl) (by kernel_rfl) (by kernel_rfl) (fun _ _ _ h => h) rfl (fun w' h => by obtain ⟨z0, z1⟩ := h; go_simp) HS.out ?_
    go_frame
    refine takeH 5 33 (.pointer (some ⟨c, 5, none⟩)) rfl rfl (by kernel_rfl) (by kernel_rfl) (by kernel_rfl) (fun _ _ _ h => h) rfl (fun w' h => by obtain ⟨z0, z1⟩ := h; go_simp) HS.out ?_
    go_frame
    refine takeH 6 34 (.slice AA K C) rfl rfl (by kernel_rfl) (by kernel_rfl) (by kernel_rfl) (fun _ _ _ h => h) rfl (fun w' h => by obtain ⟨z0, z1⟩ := h; go_simp) HS.out ?_
    go_frame
    refine takeH 7 35 (tP c) rfl rfl (by kernel_rfl) (by kernel_rfl) (by kernel_rfl) (fun _ _ _ h => h) rfl (fun w' h => by obtain ⟨z0, z1⟩ := h; go_simp) HS.out ?_
    go_frame
    refine takeH 8 36 (.int .i64 1) rfl rfl (by kernel_rfl) (by kernel_rfl) (by kernel_rfl) (fun _ _ _ h => h) rfl (fun w' h => by obtain ⟨z0, z1⟩ := h; go_simp) HS.out ?_
    go_frame
    refine takeH 9 37 (tP c) rfl rfl (by kernel_rfl) (by kernel_rfl) (by kernel_rfl) (fun _ _ _ h => h) rfl (fun w' h => by obtain ⟨z0, z1⟩ := h; go_simp) HS.out ?_
    go_frame
    refine takeH 10 38 (.pointer (some ⟨c, 1, none⟩)) rfl rfl (by kernel_rfl) (by kernel_rfl) (by kernel_rfl) (fun _ _ _ h => h) rfl (fun w' h => by obtain ⟨z0, z1⟩ := h; go_simp) HS.out ?_
    go_frame
    refine takeH 11 39 (.pointer (some ⟨c, 5, none⟩)) rfl rfl (by kernel_rfl) (by kernel_rfl) (by kernel_rfl) (fun _ _ _ h => h) rfl (fun w' h => by obtain ⟨z0, z1⟩ := h; go_simp) HS.out ?_
    go_frame
    refine takeH 12 40 (.pointer (some ⟨c, 6, none⟩)) rfl rfl (by kernel_rfl) (by kernel_rfl) (by kernel_rfl) (fun _ _ _ h => h) rfl (fun w' h => by obtain ⟨z0, z1⟩ := h; go_simp) HS.out ?_
    go_frame
    refine takeH 13 41 (.int .i64 r) rfl rfl (by kernel_rfl) (by kernel_rfl) (by kernel_rfl) (fun _ _ _ h => h) rfl (fun w' h => by obtain ⟨z0, z1⟩ := h; go_simp) HS.out ?_
    go_frame
    refine takeH 14 42 (tP c) rfl rfl (by kernel_rfl) (by kernel_rfl) (by kernel_rfl) (fun _ _ _ h => h) rfl (fun w' h => by obtain ⟨z0, z1⟩ := h; go_simp) HS.out ?_
    go_frame
    refine takeH 15 43 (.int .i64 1) rfl rfl (by kernel_rfl) (by kernel_rfl) (by kernel_rfl) (fun _ _ _ h => h) rfl (fun w' h => by obtain ⟨z0, z1⟩ := h; go_simp) HS.out ?_
    go_frame
    refine takeH 16 44 (tP c) rfl rfl (by kernel_rfl) (by kernel_rfl) (by kernel_rfl) (fun _ _ _ h => h) rfl (fun w' h => by obtain ⟨z0, z1⟩ := h; go_simp) HS.out ?_
    go_frame
    refine takeH 17 45 (.pointer (some ⟨c, 1, none⟩)) rfl rfl (by kernel_rfl) (by kernel_rfl) (by kernel_rfl) (fun _ _ _ h => h) rfl (fun w' h => by obtain ⟨z0, z1⟩ := h; go_simp) HS.out ?_
    go_frame
    refine takeH 18 46 (.pointer (some ⟨c, 5, none⟩)) rfl rfl (by kernel_rfl) (by kernel_rfl) (by kernel_rfl) (fun _ _ _ h => h) rfl (fun w' h => by obtain ⟨z0, z1⟩ := h; go_simp) HS.out ?_
    go_frame
    refine takeH 19 47 (.pointer (some ⟨c, 6, none⟩)) rfl rfl (by kernel_rfl) (by kernel_rfl) (by kernel_rfl) (fun _ _ _ h => h) rfl (fun w' h => by obtain ⟨z0, z1⟩ := h; go_simp) HS.out ?_
    go_frame
    refine takeH 20 48 (.int .i64 r) rfl rfl (by kernel_rfl) (by kernel_rfl) (by kernel_rfl) (fun _ _ _ h => h) rfl (fun w' h => by obtain ⟨z0, z1⟩ := h; go_simp) HS.out ?_
    go_frame
    refine takeH 21 49 (.int .i64 N) rfl rfl (by kernel_rfl) (by kernel_rfl) (by kernel_rfl) (fun _ _ _ h => h) rfl (fun w' h => by obtain ⟨z0, z1⟩ := h; go_simp) HS.out ?_
    go_frame
    refine takeH 22 50 (.int .i64 (r + N)) rfl rfl (by kernel_rfl) (by kernel_rfl) (by kernel_rfl) (fun _ _ _ h => h) rfl (fun w' h => by obtain ⟨z0, z1⟩ := h; go_simp) HS.out ?_
    go_frame
    refine takeH 23 51 (V) rfl rfl (by kernel_rfl) (by kernel_rfl) (by kernel_rfl) (fun _ _ _ h => h) rfl (fun w' h => by obtain ⟨z0, z1⟩ := h; go_simp) HS.out ?_
    go_frame
    refine wpAnyH_all (rs := [24]) (by kernel_rfl) (by simp) ?_
    simp only [List.mem_singleton, forall_eq]
    refine wpOp_callD 52 rfl rfl rfl 21 #[V] (by go_simp) ?_
    have hsv := HSV.out w1.drew HO1.out.sl
    rw [HDT.out] at hsv
    refine (copy_any _ V _ w1.drew hsv (Nat.le_refl _) (by rw [List.length_take]; omega)).mono ?_
    rintro e w2 ⟨v2, rfl, hO2, hB2⟩
    have hb2 : Below w1.heap.size w1 w2 := ⟨hB2.os, hB2.tape, hB2.output, hB2.size, hB2.block⟩
    have hlt1 : c < w1.heap.size := HP1.out.blk.lt
    have HS2 := Lib.hid (show w2.cell? ⟨c, 5, none⟩ = some (.slice AA K C) ∧ w2.cell? ⟨c, 6, none⟩ = some (.int .i64 r) from ⟨(hb2.cell (p := ⟨c, 5, none⟩) hlt1).trans HS.out.1, (hb2.cell (p := ⟨c, 6, none⟩) hlt1).trans HS.out.2⟩)
    refine ⟨_, rfl, HS2.out, ?_⟩
    go_frame
    refine takeH 25 9 v2 rfl rfl (by kernel_rfl) (by kernel_rfl) (by kernel_rfl) (fun _ _ _ h => h) rfl (fun w' h => by go_simp) HS2.out ?_
    go_frame
    refine wpAnyH_done (by kernel_rfl) ?_ _
    refine NoPanic.normal ?_
    have HO2 := Lib.hid hO2
    have HB2 := Lib.hid hb2
    have HP2 := Lib.hid (HP1.out.below hb2)
    have c1 := HS2.out.2
    have f1 := HP2.out.blk.free 6
    clear hO2 hB2 hb2 hsv
    go_wp2_with fail
    go_region_law (fail)
    go_wp2_with fail
    go_ret2
    have hfin := rRead_fin HP.out 1 (by omega) HB1.out HB2.out y2 n (by rw [HY2.out, HRr.out]) HYw.out (by rw [← HLl.out, ← HRr.out, ← HK.out]; exact hnw) (r + N) (by rw [← HRr.out]; have h1 := Hr.out; have h2 := HNN.out; omega) HO2.out
    exact ⟨_, rfl, hfin⟩
  · have hwr : IntKind.i64.wrap (r + N) = r + N := IntWalk.i64_in _ ⟨by omega, by omega⟩
    have hrun := hrun0
    clear hrun0
    go_enter Tryd.func22, Tryd.ntmps22
    go_wp2_with fail
    refine (HWt.out _).mono ?_
    rintro e w1 ⟨rfl, hB1⟩
    have HB1 := Lib.hid hB1
    have HP1 := Lib.hid (HP.out.below hB1)
    have HO1 := Lib.hid (HO0.out.below hB1)
    have hcS : w1.drew.cell? ⟨c, 5, none⟩ = some (.slice AA K C) ∧ w1.drew.cell? ⟨c, 6, none⟩ = some (.int .i64 r) := ⟨(hB1.cell (p := ⟨c, 5, none⟩) hc).trans k0, (hB1.cell (p := ⟨c, 6, none⟩) hc).trans k1⟩
    have HS := Lib.hid hcS
    clear hB1 hcS k0 k1 k2 k3
    go_wp2_with fail
    refine wp_region_noPanic ?_
    refine wp_region_held (S := fun w' => w'.cell? ⟨c, 5, none⟩ = some (.slice AA K C) ∧ w'.cell? ⟨c, 6, none⟩ = some (.int .i64 r)) (by kernel_rfl) ?_
    change wpAnyH _ _ _ _ _ _ _ _ w1.drew
    refine takeH 0 28 (tP c) rfl rfl (by kernel_rfl) (by kernel_rfl) (by kernel_rfl) (fun _ _ _ h => h) rfl (fun w' h => by obtain ⟨z0, z1⟩ := h; go_simp) HS.out ?_
    go_frame
    refine takeH 1 29 (.int .i64 1) rfl rfl (by kernel_rfl) (by kernel_rfl) (by kernel_rfl) (fun _ _ _ h => h) rfl (fun w' h => by obtain ⟨z0, z1⟩ := h; go_simp) HS.out ?_
    go_frame
    refine takeH 2 30 (tP c) rfl rfl (by kernel_rfl) (by kernel_rfl) (by kernel_rfl) (fun _ _ _ h => h) rfl (fun w' h => by obtain ⟨z0, z1⟩ := h; go_simp) HS.out ?_
    go_frame
    refine takeH 3 31 (.pointer (some ⟨c, 1, none⟩)) rfl rfl (by kernel_rfl) (by kernel_rfl) (by kernel_rfl) (fun _ _ _ h => h) rfl (fun w' h => by obtain ⟨z0, z1⟩ := h; go_simp) HS.out ?_
    go_frame
    refine takeH 4 32 (.pointer (some ⟨c, 5, none⟩)) rfl rfl (by kernel_rfl) (by kernel_rfl) (by kernel_rfl) (fun _ _ _ h => h) rfl (fun w' h => by obtain ⟨z0, z1⟩ := h; go_simp) HS.out ?_
    go_frame
    refine takeH 5 33 (.pointer (some ⟨c, 5, none⟩)) rfl rfl (by kernel_rfl) (by kernel_rfl) (by kernel_rfl) (fun _ _ _ h => h) rfl (fun w' h => by obtain ⟨z0, z1⟩ := h; go_simp) HS.out ?_
    go_frame
    refine takeH 6 34 (.slice AA K C) rfl rfl (by kernel_rfl) (by kernel_rfl) (by kernel_rfl) (fun _ _ _ h => h) rfl (fun w' h => by obtain ⟨z0, z1⟩ := h; go_simp) HS.out ?_
    go_frame
    refine takeH 7 35 (tP c) rfl rfl (by kernel_rfl) (by kernel_rfl) (by kernel_rfl) (fun _ _ _ h => h) rfl (fun w' h => by obtain ⟨z0, z1⟩ := h; go_simp) HS.out ?_
    go_frame
    refine takeH 8 36 (.int .i64 1) rfl rfl (by kernel_rfl) (by kernel_rfl) (by kernel_rfl) (fun _ _ _ h => h) rfl (fun w' h => by obtain ⟨z0, z1⟩ := h; go_simp) HS.out ?_
    go_frame
    refine takeH 9 37 (tP c) rfl rfl (by kernel_rfl) (by kernel_rfl) (by kernel_rfl) (fun _ _ _ h => h) rfl (fun w' h => by obtain ⟨z0, z1⟩ := h; go_simp) HS.out ?_
    go_frame
    refine takeH 10 38 (.pointer (some ⟨c, 1, none⟩)) rfl rfl (by kernel_rfl) (by kernel_rfl) (by kernel_rfl) (fun _ _ _ h => h) rfl (fun w' h => by obtain ⟨z0, z1⟩ := h; go_simp) HS.out ?_
    go_frame
    refine takeH 11 39 (.pointer (some ⟨c, 5, none⟩)) rfl rfl (by kernel_rfl) (by kernel_rfl) (by kernel_rfl) (fun _ _ _ h => h) rfl (fun w' h => by obtain ⟨z0, z1⟩ := h; go_simp) HS.out ?_
    go_frame
    refine takeH 12 40 (.pointer (some ⟨c, 6, none⟩)) rfl rfl (by kernel_rfl) (by kernel_rfl) (by kernel_rfl) (fun _ _ _ h => h) rfl (fun w' h => by obtain ⟨z0, z1⟩ := h; go_simp) HS.out ?_
    go_frame
    refine takeH 13 41 (.int .i64 r) rfl rfl (by kernel_rfl) (by kernel_rfl) (by kernel_rfl) (fun _ _ _ h => h) rfl (fun w' h => by obtain ⟨z0, z1⟩ := h; go_simp) HS.out ?_
    go_frame
    refine takeH 14 42 (tP c) rfl rfl (by kernel_rfl) (by kernel_rfl) (by kernel_rfl) (fun _ _ _ h => h) rfl (fun w' h => by obtain ⟨z0, z1⟩ := h; go_simp) HS.out ?_
    go_frame
    refine takeH 15 43 (.int .i64 1) rfl rfl (by kernel_rfl) (by kernel_rfl) (by kernel_rfl) (fun _ _ _ h => h) rfl (fun w' h => by obtain ⟨z0, z1⟩ := h; go_simp) HS.out ?_
    go_frame
    refine takeH 16 44 (tP c) rfl rfl (by kernel_rfl) (by kernel_rfl) (by kernel_rfl) (fun _ _ _ h => h) rfl (fun w' h => by obtain ⟨z0, z1⟩ := h; go_simp) HS.out ?_
    go_frame
    refine takeH 17 45 (.pointer (some ⟨c, 1, none⟩)) rfl rfl (by kernel_rfl) (by kernel_rfl) (by kernel_rfl) (fun _ _ _ h => h) rfl (fun w' h => by obtain ⟨z0, z1⟩ := h; go_simp) HS.out ?_
    go_frame
    refine takeH 18 46 (.pointer (some ⟨c, 5, none⟩)) rfl rfl (by kernel_rfl) (by kernel_rfl) (by kernel_rfl) (fun _ _ _ h => h) rfl (fun w' h => by obtain ⟨z0, z1⟩ := h; go_simp) HS.out ?_
    go_frame
    refine takeH 19 47 (.pointer (some ⟨c, 6, none⟩)) rfl rfl (by kernel_rfl) (by kernel_rfl) (by kernel_rfl) (fun _ _ _ h => h) rfl (fun w' h => by obtain ⟨z0, z1⟩ := h; go_simp) HS.out ?_
    go_frame
    refine takeH 20 48 (.int .i64 r) rfl rfl (by kernel_rfl) (by kernel_rfl) (by kernel_rfl) (fun _ _ _ h => h) rfl (fun w' h => by obtain ⟨z0, z1⟩ := h; go_simp) HS.out ?_
    go_frame
    refine takeH 21 49 (.int .i64 N) rfl rfl (by kernel_rfl) (by kernel_rfl) (by kernel_rfl) (fun _ _ _ h => h) rfl (fun w' h => by obtain ⟨z0, z1⟩ := h; go_simp) HS.out ?_
    go_frame
    refine takeH 22 50 (.int .i64 (r + N)) rfl rfl (by kernel_rfl) (by kernel_rfl) (by kernel_rfl) (fun _ _ _ h => h) rfl (fun w' h => by obtain ⟨z0, z1⟩ := h; go_simp) HS.out ?_
    go_frame
    refine takeH 23 51 (V) rfl rfl (by kernel_rfl) (by kernel_rfl) (by kernel_rfl) (fun _ _ _ h => h) rfl (fun w' h => by obtain ⟨z0, z1⟩ := h; go_simp) HS.out ?_
    go_frame
    refine wpAnyH_all (rs := [24]) (by kernel_rfl) (by simp) ?_
    simp only [List.mem_singleton, forall_eq]
    refine wpOp_callD 52 rfl rfl rfl 21 #[V] (by go_simp) ?_
    have hsv := HSV.out w1.drew HO1.out.sl
    rw [HDT.out] at hsv
    refine (copy_any _ V _ w1.drew hsv (Nat.le_refl _) (by rw [List.length_take]; omega)).mono ?_
    rintro e w2 ⟨v2, rfl, hO2, hB2⟩
    have hb2 : Below w1.heap.size w1 w2 := ⟨hB2.os, hB2.tape, hB2.output, hB2.size, hB2.block⟩
    have hlt1 : c < w1.heap.size := HP1.out.blk.lt
    have HS2 := Lib.hid (show w2.cell? ⟨c, 5, none⟩ = some (.slice AA K C) ∧ w2.cell? ⟨c, 6, none⟩ = some (.int .i64 r) from ⟨(hb2.cell (p := ⟨c, 5, none⟩) hlt1).trans HS.out.1, (hb2.cell (p := ⟨c, 6, none⟩) hlt1).trans HS.out.2⟩)
    refine ⟨_, rfl, HS2.out, ?_⟩
    go_frame
    refine takeH 25 9 v2 rfl rfl (by kernel_rfl) (by kernel_rfl) (by kernel_rfl) (fun _ _ _ h => h) rfl (fun w' h => by go_simp) HS2.out ?_
    go_frame
    refine wpAnyH_done (by kernel_rfl) ?_ _
    refine NoPanic.normal ?_
    have HO2 := Lib.hid hO2
    have HB2 := Lib.hid hb2
    have HP2 := Lib.hid (HP1.out.below hb2)
    have c1 := HS2.out.2
    have f1 := HP2.out.blk.free 6
    clear hO2 hB2 hb2 hsv
    go_wp2_with fail
    go_region_law (fail)
    go_wp2_with fail
    go_ret2
    have hfin := rRead_fin HP.out 1 (by omega) HB1.out HB2.out y2 n (by rw [HY2.out, HRr.out]) HYw.out (by rw [← HLl.out, ← HRr.out, ← HK.out]; exact hnw) (r + N) (by rw [← HRr.out]; have h1 := Hr.out; have h2 := HNN.out; omega) HO2.out
    exact ⟨_, rfl, hfin⟩
end
end Go.Proofs.YtlobmffcnobgeaaDoor
