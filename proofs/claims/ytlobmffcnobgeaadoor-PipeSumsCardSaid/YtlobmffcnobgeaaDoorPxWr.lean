/- The reference's Pipe: Write, Cut. -/
import Derived.Test.YtlobmffcnobgeaaDoorPxA
import Derived.Test.YtlobmffcnobgeaaDoorPpA
set_option maxRecDepth 100000
namespace Go.Proofs.YtlobmffcnobgeaaDoor
open Go.RowKit
attribute [local go_sem] Oper.semAt_some
theorem rWrite_nil (k : Int) (v : Value) (w : World) : Calls Tryd.prog 27 #[.pointer none, .int .i64 k, v] w fun e w' => e = .returned (.tuple #[.int .i64 0, .int .i64 6]) ∧ w' = w := by
  go_enter Tryd.func27, Tryd.ntmps27
  go_wp2_with fail
  go_ret2
  exact ⟨rfl, rfl⟩
theorem rWrite_bad (c : Nat) (k : Int) (hk : k ≠ 0 ∧ k ≠ 1) (v : Value) (w : World) : Calls Tryd.prog 27 #[tP c, .int .i64 k, v] w fun e w' => e = .returned (.tuple #[.int .i64 0, .int .i64 1]) ∧ w' = w := by
  have h0 : (k != 0) = true := bne_iff_ne.2 hk.1
  have h1 : (k != 1) = true := bne_iff_ne.2 hk.2
  clear hk
  go_enter Tryd.func27, Tryd.ntmps27
  go_wp2_with fail
  go_ret2
  exact ⟨rfl, rfl⟩
section
variable {w w' : World} {base c room : Nat} {A : Nat → Value} {Y : Nat → WayR}
def rwN (room : Nat) (y : WayR) (p : List UInt8) : Nat := min p.length (room - y.waits)
def rwR (room : Nat) (y : WayR) (p : List UInt8) : WayR := { y with all := y.all ++ p.take (rwN room y p) }
theorem there_rx (h : PX w base c room A Y) (i : Nat) (hi : i < 2) : w.there c (1 + 4 * i) 4 := by
  refine h.blk.there _ _ ?_
  have hlen : (rxc room A Y).length = 9 := rfl
  rw [hlen]; omega
theorem rWrite_fin (h : PX w base c room A Y) (i : Nat) (hi : i < 2) {W9 : World} (hb : Below w.heap.size w W9) (B1 : Nat) (hB1 : w.heap.size ≤ B1) (v2 : Value) (y2 : WayR) (n : Nat) (p : List UInt8) (hy : y2 = { Y i with all := (Y i).all ++ p.take n }) (hn : (p.take n).length = n) (hw : n + (Y i).waits ≤ room) (hbg : (Y i).all.length + n ≤ 400000) (hO : OwnB W9 B1 v2 ((Y i).all ++ p.take n)) :
    PX (W9.setCells c (1 + 4 * i) [v2, .int .i64 ((Y i).rd : Int), .bool (Y i).shut, .int .i64 ((Y i).lost : Int)]) base c room (upd A i v2) (upd Y i y2) ∧ Trs [c] w (W9.setCells c (1 + 4 * i) [v2, .int .i64 ((Y i).rd : Int), .bool (Y i).shut, .int .i64 ((Y i).lost : Int)]) ∧ (∀ k ∈ pxS c (upd A i v2), k ∈ pxS c A ∨ w.heap.size ≤ k) := by
  have hc := h.blk.lt
  have hp := h.below hb
  have hf := h.fit i hi
  have hgs := grown_setCells c [v2, .int .i64 ((Y i).rd : Int), .bool (Y i).shut, .int .i64 ((Y i).lost : Int)] W9 (1 + 4 * i)
  have ht : Trs [c] W9 (W9.setCells c (1 + 4 * i) [v2, .int .i64 ((Y i).rd : Int), .bool (Y i).shut, .int .i64 ((Y i).lost : Int)]) := Trs.ofGrown hgs
  have hbs := h.size
  obtain ⟨g1, g2⟩ := hp.turn w.heap.size hc i hi v2 y2 ht (by
      have hk := hp.blk.setCells (vs := [v2, .int .i64 ((Y i).rd : Int), .bool (Y i).shut, .int .i64 ((Y i).lost : Int)]) (1 + 4 * i) (by show 1 + 4 * i + 4 ≤ 9; omega)
      rw [hy]
      rcases (show i = 0 ∨ i = 1 by omega) with rfl | rfl
      · exact hk
      · exact hk) (by rw [hy]; exact (hO.lower (by omega)).trs ht (fun k hk hm => by have := (hO.lt k hk).1; rw [List.mem_singleton] at hm; omega))
    (fun k hk => .inr (by have := (hO.lt k hk).1; omega)) (by rw [hy]; show (Y i).rd + (Y i).lost ≤ ((Y i).all ++ p.take n).length; rw [List.length_append]; omega)
    (by rw [hy]; show ((Y i).all ++ p.take n).length ≤ 400000; rw [List.length_append, hn]; omega)
    (by rw [hy]; unfold WayR.waits at hw ⊢; show ((Y i).all ++ p.take n).length - (Y i).rd - (Y i).lost ≤ room; rw [List.length_append, hn]; omega)
  · refine ⟨g1, (Trs.of_below hb).trans ht, fun k hk => ?_⟩
    simp only [pxS, List.mem_append, List.mem_cons, Option.mem_toList] at hk ⊢
    have hnew : ∀ k, v2.ownBlock = some k → w.heap.size ≤ k := fun k hk => by have := (hO.lt k hk).1; omega
    rcases (show i = 0 ∨ i = 1 by omega) with rfl | rfl
    · rw [upd_same, upd_other _ _ _ _ (by omega)] at hk
      rcases hk with hk | hk | hk
      · exact .inl (.inl hk)
      · exact .inr (hnew k hk)
      · exact .inl (.inr (.inr hk))
    · rw [upd_same, upd_other _ _ _ _ (by omega)] at hk
      rcases hk with hk | hk | hk
      · exact .inl (.inl hk)
      · exact .inl (.inr (.inl hk))
      · exact .inr (hnew k hk)
theorem rwshut_0 (h : PX w base c room A Y) (hs : (Y 0).shut = true) (v : Value) :
    Calls Tryd.prog 27 #[tP c, .int .i64 0, v] w fun e w' => e = .returned (.tuple #[.int .i64 0, .int .i64 14]) ∧ Below w.heap.size w w' := by
  have k0 : w.cell? ⟨c, 1, none⟩ = some (A 0) := h.blk.at (o := 1) rfl
  have k1 : w.cell? ⟨c, 2, none⟩ = some (.int .i64 ((Y 0).rd : Int)) := h.blk.at (o := 2) rfl
  have k2 : w.cell? ⟨c, 3, none⟩ = some (.bool (Y 0).shut) := h.blk.at (o := 3) rfl
  have k3 : w.cell? ⟨c, 4, none⟩ = some (.int .i64 ((Y 0).lost : Int)) := h.blk.at (o := 4) rfl
  obtain ⟨AA, C, hV, _, _, _, _⟩ := (h.own 0 (by omega)).sl
  rw [hV] at k0
  rw [hs] at k2
  have HB := Lib.hid (fun (o : Obj) => (Below.refl w.heap.size w).alloc (Nat.le_refl _) o)
  clear h hs hV
  go_enter Tryd.func27, Tryd.ntmps27
  go_wp2_with fail
  go_ret2
  exact ⟨rfl, HB.out _⟩
set_option maxHeartbeats 2000000 in
theorem rWrite_0 (h : PX w base c room A Y) (hs : (Y 0).shut = false) (B : Nat) (v : Value) (p : List UInt8) (hv : Sl w B v p) (hB : B ≤ w.heap.size) (hbg : (Y 0).all.length + p.length ≤ 400000) :
    Calls Tryd.prog 27 #[tP c, .int .i64 0, v] w fun e w' => e = .returned (.tuple #[.int .i64 (rwN room (Y 0) p : Int), .int .i64 0]) ∧ ∃ v', PX w' base c room (upd A 0 v') (upd Y 0 (rwR room (Y 0) p)) ∧ Trs [c] w w' ∧ (∀ k ∈ pxS c (upd A 0 v'), k ∈ pxS c A ∨ w.heap.size ≤ k) := by
  have HP := Lib.hid h
  have HVv := Lib.hid hv
  obtain ⟨PA, PC, rfl, _, p1, p2, _⟩ := hv
  obtain ⟨AA, C, hV, _, q1, q2, _⟩ := (h.own 0 (by omega)).sl
  have k0 : w.cell? ⟨c, 1, none⟩ = some (A 0) := h.blk.at (o := 1) rfl
  have k1 : w.cell? ⟨c, 2, none⟩ = some (.int .i64 ((Y 0).rd : Int)) := h.blk.at (o := 2) rfl
  have k2 : w.cell? ⟨c, 3, none⟩ = some (.bool (Y 0).shut) := h.blk.at (o := 3) rfl
  have k3 : w.cell? ⟨c, 4, none⟩ = some (.int .i64 ((Y 0).lost : Int)) := h.blk.at (o := 4) rfl
  have kr : w.cell? ⟨c, 0, none⟩ = some (.int .i64 (room : Int)) := h.blk.at (o := 0) rfl
  rw [hV] at k0
  rw [hs] at k2
  have hfit := h.fit 0 (by omega)
  have hbig := h.big 0 (by omega)
  have hwt := h.waits 0 (by omega)
  have hr2 := h.r2
  have hc := h.blk.lt
  have HV1 := Lib.hid hV; clear hV
  obtain ⟨n, hn⟩ : ∃ n, n = rwN room (Y 0) p := ⟨_, rfl⟩
  obtain ⟨y2, hy2⟩ : ∃ x, x = rwR room (Y 0) p := ⟨_, rfl⟩
  have HY2 := Lib.hid (show y2 = { Y 0 with all := (Y 0).all ++ p.take n } from by rw [hy2, hn]; rfl)
  rw [← hn, ← hy2]
  obtain ⟨z, hz⟩ : ∃ z : Int, z = ((Y 0).all.length : Int) - ((Y 0).rd : Int) - ((Y 0).lost : Int) := ⟨_, rfl⟩
  have hzw : z = ((Y 0).waits : Int) := by unfold WayR.waits; omega
  have hz0 : 0 ≤ z := by omega
  have hz1 : z ≤ (room : Int) := by omega
  have hnle : n ≤ p.length := by rw [hn]; unfold rwN; omega
  have HWr := Lib.hid (show n + (Y 0).waits ≤ room from by rw [hn]; unfold rwN; omega)
  have HN := Lib.hid (show ((p.length : Int) ≤ (room : Int) - z ∧ (n : Int) = (p.length : Int)) ∨ (¬ (p.length : Int) ≤ (room : Int) - z ∧ (n : Int) = (room : Int) - z) from by rw [hzw, hn]; unfold rwN; omega)
  have HWt := Lib.hid (fun W => rWaits_any AA (Y 0).all.length C ((Y 0).rd : Int) ((Y 0).lost : Int) false W (by omega) (by omega) (by omega) hbig)
  rw [← hz] at HWt
  obtain ⟨L, hL⟩ : ∃ L, L = (Y 0).all := ⟨_, rfl⟩
  rw [← hL] at k0 hfit hbig hbg HV1 q1 HWt HY2
  have HLl := Lib.hid hL
  have HO0 := Lib.hid (show OwnB w base (.slice AA L.length C) L from by rw [← HV1.out, hL]; exact h.own 0 (by omega))
  have hbs := h.size
  have HSh := Lib.hid hs
  clear hL hn hy2 hz hzw h  hs hwt
  obtain ⟨r, hr⟩ : ∃ r : Int, r = ((Y 0).rd : Int) := ⟨_, rfl⟩
  obtain ⟨lo, hlo⟩ : ∃ r : Int, r = ((Y 0).lost : Int) := ⟨_, rfl⟩
  rw [← hr] at k1 HWt
  rw [← hlo] at k3 HWt
  have Hr := Lib.hid hr; clear hr
  have Hlo := Lib.hid hlo; clear hlo
  obtain ⟨K, hK⟩ : ∃ K, K = L.length := ⟨_, rfl⟩
  rw [← hK] at k0 hfit hbig hbg HV1 q1 HWt HO0
  have HK := Lib.hid hK; clear hK
  obtain ⟨P, hP⟩ : ∃ P, P = p.length := ⟨_, rfl⟩
  rw [← hP] at hbg p1 hnle HN HVv ⊢
  have HPl := Lib.hid hP; clear hP
  have HSL := Lib.hid (show Sl w B (.slice PA n PC) (p.take n) from by
    obtain ⟨A2, c2, e2, _, _, _, hsl⟩ := HVv.out.take n (by rw [← HPl.out]; exact hnle)
    injection e2 with e3 _ e4
    subst e3; subst e4
    exact hsl)
  have Hq : Hid ((p.take n).length = n) := Lib.hid (by rw [List.length_take, ← HPl.out]; omega)
  have Hlq : Hid ((L ++ p.take n).length = K + n) := Lib.hid (by rw [List.length_append, Hq.out, ← HK.out])
  obtain ⟨N, hNN⟩ : ∃ N : Int, N = (n : Int) := ⟨_, rfl⟩
  have hrun : ∀ w, (Instr.slice 29 (.slice PA P PC) none (some (.int .i64 N)) none).run Tryd.prog w = .ok (.slice PA n PC) w := by rw [hNN]; exact slice_h PA P PC n (by omega)
  rw [← hNN] at HN ⊢
  have HNN := Lib.hid hNN; clear hNN
  obtain ⟨W, hW⟩ : ∃ W, W = w.alloc (.cells #[.slice AA K C, .int .i64 r, .bool false, .int .i64 lo] 31) := ⟨_, rfl⟩
  have hBW : Below w.heap.size w W := by rw [hW]; exact (Below.refl _ _).alloc (Nat.le_refl _) _
  have hTW : Blk W w.heap.size [.slice AA K C, .int .i64 r, .bool false, .int .i64 lo] := by rw [hW]; exact Blk.newA w #[.slice AA K C, .int .i64 r, .bool false, .int .i64 lo] _
  have hszW : W.heap.size = w.heap.size + 1 := by rw [hW]; simp
  have HBW := Lib.hid hBW
  have HTW := Lib.hid hTW
  have HKR := Lib.hid (show W.cell? ⟨c, 0, none⟩ = some (.int .i64 (room : Int)) from (hBW.cell (p := ⟨c, 0, none⟩) hc).trans kr)
  clear hBW hTW
  have hwr : IntKind.i64.wrap ((room : Int) - z) = (room : Int) - z := IntWalk.i64_in _ ⟨by omega, by omega⟩
  rcases HN.out with ⟨hcm, rfl⟩ | ⟨hcm, rfl⟩
  · go_enter Tryd.func27, Tryd.ntmps27
    go_wp2_with fail
    rw [← hW]
    clear hW k0 k1 k2 k3 kr
    refine wp_region_noPanic ?_
    refine wp_region_held (S := fun w' => w'.cell? ⟨c, 0, none⟩ = some (.int .i64 (room : Int)) ∧ w'.cell? ⟨w.heap.size, 0, none⟩ = some (.slice AA K C) ∧ w'.cell? ⟨w.heap.size, 1, none⟩ = some (.int .i64 r) ∧ w'.cell? ⟨w.heap.size, 2, none⟩ = some (.bool false) ∧ w'.cell? ⟨w.heap.size, 3, none⟩ = some (.int .i64 lo)) (by kernel_rfl) ?_
    change wpAnyH _ _ _ _ _ _ _ _ W.drew
    have HS := Lib.hid (show W.drew.cell? ⟨c, 0, none⟩ = some (.int .i64 (room : Int)) ∧ W.drew.cell? ⟨w.heap.size, 0, none⟩ = some (.slice AA K C) ∧ W.drew.cell? ⟨w.heap.size, 1, none⟩ = some (.int .i64 r) ∧ W.drew.cell? ⟨w.heap.size, 2, none⟩ = some (.bool false) ∧ W.drew.cell? ⟨w.heap.size, 3, none⟩ = some (.int .i64 lo) from ⟨HKR.out, HTW.out.at (o := 0) rfl, HTW.out.at (o := 1) rfl, HTW.out.at (o := 2) rfl, HTW.out.at (o := 3) rfl⟩)
    refine takeH 0 26 (.slice PA P PC) rfl rfl (by kernel_rfl) (by kernel_rfl) (by kernel_rfl) (fun _ _ _ h => h) rfl (fun w' h => by obtain ⟨z0, z1, z2, z3, z4⟩ := h; go_simp) HS.out ?_
    go_frame
    refine takeH 1 27 (.int .i64 (P : Int)) rfl rfl (by kernel_rfl) (by kernel_rfl) (by kernel_rfl) (fun _ _ _ h => h) rfl (fun w' h => by obtain ⟨z0, z1, z2, z3, z4⟩ := h; go_simp) HS.out ?_
    go_frame
    refine takeH 2 28 (tP c) rfl rfl (by kernel_rfl) (by kernel_rfl) (by kernel_rfl) (fun _ _ _ h => h) rfl (fun w' h => by obtain ⟨z0, z1, z2, z3, z4⟩ := h; go_simp) HS.out ?_
    go_frame
    refine takeH 3 29 (tP c) rfl rfl (by kernel_rfl) (by kernel_rfl) (by kernel_rfl) (fun _ _ _ h => h) rfl (fun w' h => by obtain ⟨z0, z1, z2, z3, z4⟩ := h; go_simp) HS.out ?_
    go_frame
    refine takeH 4 30 (tP c) rfl rfl (by kernel_rfl) (by kernel_rfl) (by kernel_rfl) (fun _ _ _ h => h) rfl (fun w' h => by obtain ⟨z0, z1, z2, z3, z4⟩ := h; go_simp) HS.out ?_
    go_frame
    refine takeH 5 31 (.int .i64 (room : Int)) rfl rfl (by kernel_rfl) (by kernel_rfl) (by kernel_rfl) (fun _ _ _ h => h) rfl (fun w' h => by obtain ⟨z0, z1, z2, z3, z4⟩ := h; go_simp) HS.out ?_
    go_frame
    refine takeH 6 32 (.agg #[.slice AA K C, .int .i64 r, .bool false, .int .i64 lo]) rfl rfl (by kernel_rfl) (by kernel_rfl) (by kernel_rfl) (fun _ _ _ h => h) rfl (fun w' h => by obtain ⟨z0, z1, z2, z3, z4⟩ := h; go_simp) HS.out ?_
    go_frame
    refine wpAnyH_all (rs := [7]) (by kernel_rfl) (by simp) ?_
    simp only [List.mem_singleton, forall_eq]
    refine wpOp_callD 33 rfl rfl rfl 29 #[.agg #[.slice AA K C, .int .i64 r, .bool false, .int .i64 lo]] (by go_simp) ?_
    refine (HWt.out W.drew).mono ?_
    rintro e w1 ⟨rfl, hB1⟩
    have hb1 : Below W.heap.size W w1 := ⟨hB1.os, hB1.tape, hB1.output, hB1.size, hB1.block⟩
    have hT1 : Blk w1 w.heap.size [.slice AA K C, .int .i64 r, .bool false, .int .i64 lo] := HTW.out.below hb1 (by omega)
    have HS1 := Lib.hid (show w1.cell? ⟨c, 0, none⟩ = some (.int .i64 (room : Int)) ∧ w1.cell? ⟨w.heap.size, 0, none⟩ = some (.slice AA K C) ∧ w1.cell? ⟨w.heap.size, 1, none⟩ = some (.int .i64 r) ∧ w1.cell? ⟨w.heap.size, 2, none⟩ = some (.bool false) ∧ w1.cell? ⟨w.heap.size, 3, none⟩ = some (.int .i64 lo) from ⟨(hb1.cell (p := ⟨c, 0, none⟩) (by show c < W.heap.size; omega)).trans HKR.out, hT1.at (o := 0) rfl, hT1.at (o := 1) rfl, hT1.at (o := 2) rfl, hT1.at (o := 3) rfl⟩)
    have HT1 := Lib.hid hT1
    have HB1 := Lib.hid (HBW.out.trans (hb1.mono (by omega)))
    clear hb1 hT1 hB1
    refine ⟨_, rfl, HS1.out, ?_⟩
    go_frame
    refine takeH 8 34 (.int .i64 ((room : Int) - z)) rfl rfl (by kernel_rfl) (by kernel_rfl) (by kernel_rfl) (fun _ _ _ h => h) rfl (fun w' h => by go_simp) HS1.out ?_
    go_frame
    refine takeH 9 35 (.int .i64 (P : Int)) rfl rfl (by kernel_rfl) (by kernel_rfl) (by kernel_rfl) (fun _ _ _ h => h) rfl (fun w' h => by go_simp <;> omega) HS1.out ?_
    go_frame
    refine takeH 10 9 (.int .i64 (P : Int)) rfl rfl (by kernel_rfl) (by kernel_rfl) (by kernel_rfl) (fun _ _ _ h => h) rfl (fun w' h => by go_simp) HS1.out ?_
    go_frame
    refine wpAnyH_done (by kernel_rfl) ?_ _
    refine NoPanic.normal ?_
    have t0 := HT1.out.at (o := 0) rfl
    have g0 := HT1.out.free 0
    have hsz1 : w.heap.size < w1.heap.size := HT1.out.lt
    have HSZ := Lib.hid hsz1
    go_wp2_with fail
    have HO1 := Lib.hid (HO0.out.below HB1.out)
    have HSL1 := Lib.hid (HSL.out.below HB1.out hB)
    have HP1 := Lib.hid (HP.out.below HB1.out)
    go_region_law (first
      | (go_simp; go_at_call 21; refine (copy_any w1.heap.size (.slice AA K C) L _ (HO1.out.sl.below (Below.refl w1.heap.size w1).drew (Nat.le_refl _)) (Nat.le_refl _) (by rw [← HK.out]; omega)).mono ?_; rintro e w2 ⟨v1, rfl, hO, hb⟩; have hb2 : Below w1.heap.size w1 w2 := ⟨hb.os, hb.tape, hb.output, hb.size, hb.block⟩; have hk2 := HT1.out.below hb2 hsz1; have e0 := hk2.at (o := 0) rfl; have e1 := hk2.free 0; have HO := Lib.hid (show OwnB w2 w1.heap.size v1 L from hO); have HB2 := Lib.hid hb2; have hs2 : w1.heap.size ≤ w2.heap.size := hb2.size; have HK2 := Lib.hid hk2; clear hO hb hb2 hk2)
      | (refine step_app_sl rfl (.tmp 38) (.tmp 41) rfl w1.heap.size v1 L (p.take n) (by go_simp) (by exact HO.out) B (.slice PA n PC) (by go_simp) (by exact HSL1.out.below HB2.out (by omega)) (by rw [Hq.out, ← HK.out]; omega) hs2 ?_; intro v2 w3 hv hg ho; obtain ⟨A3, c3, rfl, _, _, _, _⟩ := hv.sl; rw [Hlq.out] at hv ho ⊢; have hne : some w.heap.size ≠ v1.ownBlock := (fun e => by have := (HO.out.lt _ e.symm).1; omega); have hk3 := HK2.out.grown hg hne; have e2 := hk3.at (o := 0) rfl; have e3 := hk3.free 0; have HK3 := Lib.hid hk3; have HV3 := Lib.hid hv; have HB3 := Lib.hid (show Below w1.heap.size w1 w3 from HB2.out.trans (HO.out.belowBase hg hs2)); clear hk3 hv hg ho hne))
    go_wp2_with fail
    all_goals
      obtain ⟨W9, hW9⟩ : ∃ W, W = w3.setCell ⟨w.heap.size, 0, none⟩ (.slice A3 (K + n) c3) := ⟨_, rfl⟩
      have hT9 : Blk W9 w.heap.size [.slice A3 (K + n) c3, .int .i64 r, .bool false, .int .i64 lo] := by rw [hW9]; exact HK3.out.set 0 _
      have hb9 : Below w.heap.size w W9 := by rw [hW9]; exact (HB1.out.trans (HB3.out.mono (Nat.le_of_lt HSZ.out))).setCell (p := ⟨w.heap.size, 0, none⟩) (Nat.le_refl _) _
      have hO9 : OwnB W9 w1.heap.size (.slice A3 (K + n) c3) (L ++ p.take n) := by rw [hW9]; exact HV3.out.kept (grown_set w3 ⟨w.heap.size, 0, none⟩ _) (.inr (fun e => by have := (HV3.out.lt w.heap.size e).1; have h2 := HSZ.out; omega))
      rw [← hW9]
      clear hW9 e2 e3
      have HT9 := Lib.hid hT9
      have HB9 := Lib.hid hb9
      have HO9 := Lib.hid hO9
      clear hT9 hb9 hO9
      refine wp_region_noPanic ?_
      refine wp_region_held (S := fun w' => w'.cell? ⟨w.heap.size, 0, none⟩ = some (.slice A3 (K + n) c3) ∧ w'.cell? ⟨w.heap.size, 1, none⟩ = some (.int .i64 r) ∧ w'.cell? ⟨w.heap.size, 2, none⟩ = some (.bool false) ∧ w'.cell? ⟨w.heap.size, 3, none⟩ = some (.int .i64 lo)) (by kernel_rfl) ?_
      change wpAnyH _ _ _ _ _ _ _ _ W9.drew
      have HS9 := Lib.hid (show W9.drew.cell? ⟨w.heap.size, 0, none⟩ = some (.slice A3 (K + n) c3) ∧ W9.drew.cell? ⟨w.heap.size, 1, none⟩ = some (.int .i64 r) ∧ W9.drew.cell? ⟨w.heap.size, 2, none⟩ = some (.bool false) ∧ W9.drew.cell? ⟨w.heap.size, 3, none⟩ = some (.int .i64 lo) from ⟨HT9.out.at (o := 0) rfl, HT9.out.at (o := 1) rfl, HT9.out.at (o := 2) rfl, HT9.out.at (o := 3) rfl⟩)
      refine takeH 0 44 (tP c) rfl rfl (by kernel_rfl) (by kernel_rfl) (by kernel_rfl) (fun _ _ _ h => h) rfl (fun w' h => by obtain ⟨z0, z1, z2, z3⟩ := h; go_simp) HS9.out ?_
      go_frame
      refine takeH 1 45 (.int .i64 0) rfl rfl (by kernel_rfl) (by kernel_rfl) (by kernel_rfl) (fun _ _ _ h => h) rfl (fun w' h => by obtain ⟨z0, z1, z2, z3⟩ := h; go_simp) HS9.out ?_
      go_frame
      refine takeH 2 46 (.agg #[.slice A3 (K + n) c3, .int .i64 r, .bool false, .int .i64 lo]) rfl rfl (by kernel_rfl) (by kernel_rfl) (by kernel_rfl) (fun _ _ _ h => h) rfl (fun w' h => by obtain ⟨z0, z1, z2, z3⟩ := h; go_simp) HS9.out ?_
      go_frame
      refine takeH 3 47 (tP c) rfl rfl (by kernel_rfl) (by kernel_rfl) (by kernel_rfl) (fun _ _ _ h => h) rfl (fun w' h => by obtain ⟨z0, z1, z2, z3⟩ := h; go_simp) HS9.out ?_
      go_frame
      refine takeH 4 48 (.pointer (some ⟨c, 1, none⟩)) rfl rfl (by kernel_rfl) (by kernel_rfl) (by kernel_rfl) (fun _ _ _ h => h) rfl (fun w' h => by obtain ⟨z0, z1, z2, z3⟩ := h; go_simp) HS9.out ?_
      go_frame
      refine takeH 5 49 (.pointer (some ⟨c, 1, none⟩)) rfl rfl (by kernel_rfl) (by kernel_rfl) (by kernel_rfl) (fun _ _ _ h => h) rfl (fun w' h => by obtain ⟨z0, z1, z2, z3⟩ := h; go_simp) HS9.out ?_
      go_frame
      refine wpAnyH_all (rs := [6]) (by kernel_rfl) (by simp) ?_
      simp only [List.mem_singleton, forall_eq]
      have hth : W9.drew.there c 1 4 := there_rx (HP.out.below HB9.out) 0 (by omega)
      obtain ⟨W10, hW10⟩ : ∃ W, W = W9.drew.setCells c 1 [.slice A3 (K + n) c3, .int .i64 r, .bool false, .int .i64 lo] := ⟨_, rfl⟩
      have HF := Lib.hid (rWrite_fin HP.out 0 (by omega) (W9 := W9.drew) HB9.out.drew w1.heap.size (Nat.le_of_lt HSZ.out) (.slice A3 (K + n) c3) y2 n p (by rw [HY2.out, HLl.out]) Hq.out HWr.out (by rw [← HLl.out, ← HK.out]; omega) (by rw [← HLl.out]; exact HO9.out))
      rw [← Hr.out, ← Hlo.out, HSh.out] at HF
      have HSX := Lib.hid (show W10.cell? ⟨w.heap.size, 0, none⟩ = some (.slice A3 (K + n) c3) ∧ W10.cell? ⟨w.heap.size, 1, none⟩ = some (.int .i64 r) ∧ W10.cell? ⟨w.heap.size, 2, none⟩ = some (.bool false) ∧ W10.cell? ⟨w.heap.size, 3, none⟩ = some (.int .i64 lo) from by
        rw [hW10]
        have hgs := grown_setCells c [.slice A3 (K + n) c3, .int .i64 r, .bool false, .int .i64 lo] W9.drew 1
        have hne : some w.heap.size ≠ some c := by intro e; have := Option.some.inj e; omega
        exact ⟨hgs.cell HS9.out.1 hne, hgs.cell HS9.out.2.1 hne, hgs.cell HS9.out.2.2.1 hne, hgs.cell HS9.out.2.2.2 hne⟩)
      replace HF : Hid (PX W10 base c room (upd A 0 (.slice A3 (K + n) c3)) (upd Y 0 y2) ∧ Trs [c] w W10 ∧ (∀ k ∈ pxS c (upd A 0 (.slice A3 (K + n) c3)), k ∈ pxS c A ∨ w.heap.size ≤ k)) := Lib.hid (by rw [hW10]; exact HF.out)
      refine wpOp_storeN rfl rfl rfl 31 (.tmp 49) (.tmp 46) rfl c 1 #[.slice A3 (K + n) c3, .int .i64 r, .bool false, .int .i64 lo] rfl rfl hth (by kernel_rfl) (by simp [Value.oneCell']) ?_
      rw [show (#[.slice A3 (K + n) c3, .int .i64 r, .bool false, .int .i64 lo] : Array Value).toList = [.slice A3 (K + n) c3, .int .i64 r, .bool false, .int .i64 lo] from rfl, ← hW10]
      clear hW10 hth
      refine ⟨HSX.out, wpAnyH_done (by kernel_rfl) ?_ _⟩
      refine NoPanic.normal ?_
      go_wp2_with fail
      go_ret2
      exact ⟨rfl, _, HF.out⟩
  · go_enter Tryd.func27, Tryd.ntmps27
    go_wp2_with fail
    rw [← hW]
    clear hW k0 k1 k2 k3 kr
    refine wp_region_noPanic ?_
    refine wp_region_held (S := fun w' => w'.cell? ⟨c, 0, none⟩ = some (.int .i64 (room : Int)) ∧ w'.cell? ⟨w.heap.size, 0, none⟩ = some (.slice AA K C) ∧ w'.cell? ⟨w.heap.size, 1, none⟩ = some (.int .i64 r) ∧ w'.cell? ⟨w.heap.size, 2, none⟩ = some (.bool false) ∧ w'.cell? ⟨w.heap.size, 3, none⟩ = some (.int .i64 lo)) (by kernel_rfl) ?_
    change wpAnyH _ _ _ _ _ _ _ _ W.drew
    have HS := Lib.hid (show W.drew.cell? ⟨c, 0, none⟩ = some (.int .i64 (room : Int)) ∧ W.drew.cell? ⟨w.heap.size, 0, none⟩ = some (.slice AA K C) ∧ W.drew.cell? ⟨w.heap.size, 1, none⟩ = some (.int .i64 r) ∧ W.drew.cell? ⟨w.heap.size, 2, none⟩ = some (.bool false) ∧ W.drew.cell? ⟨w.heap.size, 3, none⟩ = some (.int .i64 lo) from ⟨HKR.out, HTW.out.at (o := 0) rfl, HTW.out.at (o := 1) rfl, HTW.out.at (o := 2) rfl, HTW.out.at (o := 3) rfl⟩)
    refine takeH 0 26 (.slice PA P PC) rfl rfl (by kernel_rfl) (by kernel_rfl) (by kernel_rfl) (fun _ _ _ h => h) rfl (fun w' h => by obtain ⟨z0, z1, z2, z3, z4⟩ := h; go_simp) HS.out ?_
    go_frame
    refine takeH 1 27 (.int .i64 (P : Int)) rfl rfl (by kernel_rfl) (by kernel_rfl) (by kernel_rfl) (fun _ _ _ h => h) rfl (fun w' h => by obtain ⟨z0, z1, z2, z3, z4⟩ := h; go_simp) HS.out ?_
    go_frame
    refine takeH 2 28 (tP c) rfl rfl (by kernel_rfl) (by kernel_rfl) (by kernel_rfl) (fun _ _ _ h => h) rfl (fun w' h => by obtain ⟨z0, z1, z2, z3, z4⟩ := h; go_simp) HS.out ?_
    go_frame
    refine takeH 3 29 (tP c) rfl rfl (by kernel_rfl) (by kernel_rfl) (by kernel_rfl) (fun _ _ _ h => h) rfl (fun w' h => by obtain ⟨z0, z1, z2, z3, z4⟩ := h; go_simp) HS.out ?_
    go_frame
    refine takeH 4 30 (tP c) rfl rfl (by kernel_rfl) (by kernel_rfl) (by kernel_rfl) (fun _ _ _ h => h) rfl (fun w' h => by obtain ⟨z0, z1, z2, z3, z4⟩ := h; go_simp) HS.out ?_
    go_frame
    refine takeH 5 31 (.int .i64 (room : Int)) rfl rfl (by kernel_rfl) (by kernel_rfl) (by kernel_rfl) (fun _ _ _ h => h) rfl (fun w' h => by obtain ⟨z0, z1, z2, z3, z4⟩ := h; go_simp) HS.out ?_
    go_frame
    refine takeH 6 32 (.agg #[.slice AA K C, .int .i64 r, .bool false, .int .i64 lo]) rfl rfl (by kernel_rfl) (by kernel_rfl) (by kernel_rfl) (fun _ _ _ h => h) rfl (fun w' h => by obtain ⟨z0, z1, z2, z3, z4⟩ := h; go_simp) HS.out ?_
    go_frame
    refine wpAnyH_all (rs := [7]) (by kernel_rfl) (by simp) ?_
    simp only [List.mem_singleton, forall_eq]
    refine wpOp_callD 33 rfl rfl rfl 29 #[.agg #[.slice AA K C, .int .i64 r, .bool false, .int .i64 lo]] (by go_simp) ?_
    refine (HWt.out W.drew).mono ?_
    rintro e w1 ⟨rfl, hB1⟩
    have hb1 : Below W.heap.size W w1 := ⟨hB1.os, hB1.tape, hB1.output, hB1.size, hB1.block⟩
    have hT1 : Blk w1 w.heap.size [.slice AA K C, .int .i64 r, .bool false, .int .i64 lo] := HTW.out.below hb1 (by omega)
    have HS1 := Lib.hid (show w1.cell? ⟨c, 0, none⟩ = some (.int .i64 (room : Int)) ∧ w1.cell? ⟨w.heap.size, 0, none⟩ = some (.slice AA K C) ∧ w1.cell? ⟨w.heap.size, 1, none⟩ = some (.int .i64 r) ∧ w1.cell? ⟨w.heap.size, 2, none⟩ = some (.bool false) ∧ w1.cell? ⟨w.heap.size, 3, none⟩ = some (.int .i64 lo) from ⟨(hb1.cell (p := ⟨c, 0, none⟩) (by show c < W.heap.size; omega)).trans HKR.out, hT1.at (o := 0) rfl, hT1.at (o := 1) rfl, hT1.at (o := 2) rfl, hT1.at (o := 3) rfl⟩)
    have HT1 := Lib.hid hT1
    have HB1 := Lib.hid (HBW.out.trans (hb1.mono (by omega)))
    clear hb1 hT1 hB1
    refine ⟨_, rfl, HS1.out, ?_⟩
    go_frame
    refine takeH 8 34 (.int .i64 ((room : Int) - z)) rfl rfl (by kernel_rfl) (by kernel_rfl) (by kernel_rfl) (fun _ _ _ h => h) rfl (fun w' h => by go_simp) HS1.out ?_
    go_frame
    refine takeH 9 35 (.int .i64 ((room : Int) - z)) rfl rfl (by kernel_rfl) (by kernel_rfl) (by kernel_rfl) (fun _ _ _ h => h) rfl (fun w' h => by go_simp <;> omega) HS1.out ?_
    go_frame
    refine takeH 10 9 (.int .i64 ((room : Int) - z)) rfl rfl (by kernel_rfl) (by kernel_rfl) (by kernel_rfl) (fun _ _ _ h => h) rfl (fun w' h => by go_simp) HS1.out ?_
    go_frame
    refine wpAnyH_done (by kernel_rfl) ?_ _
    refine NoPanic.normal ?_
    have t0 := HT1.out.at (o := 0) rfl
    have g0 := HT1.out.free 0
    have hsz1 : w.heap.size < w1.heap.size := HT1.out.lt
    have HSZ := Lib.hid hsz1
    go_wp2_with fail
    have HO1 := Lib.hid (HO0.out.below HB1.out)
    have HSL1 := Lib.hid (HSL.out.below HB1.out hB)
    have HP1 := Lib.hid (HP.out.below HB1.out)
    go_region_law (first
      | (go_simp; go_at_call 21; refine (copy_any w1.heap.size (.slice AA K C) L _ (HO1.out.sl.below (Below.refl w1.heap.size w1).drew (Nat.le_refl _)) (Nat.le_refl _) (by rw [← HK.out]; omega)).mono ?_; rintro e w2 ⟨v1, rfl, hO, hb⟩; have hb2 : Below w1.heap.size w1 w2 := ⟨hb.os, hb.tape, hb.output, hb.size, hb.block⟩; have hk2 := HT1.out.below hb2 hsz1; have e0 := hk2.at (o := 0) rfl; have e1 := hk2.free 0; have HO := Lib.hid (show OwnB w2 w1.heap.size v1 L from hO); have HB2 := Lib.hid hb2; have hs2 : w1.heap.size ≤ w2.heap.size := hb2.size; have HK2 := Lib.hid hk2; clear hO hb hb2 hk2)
      | (refine step_app_sl rfl (.tmp 38) (.tmp 41) rfl w1.heap.size v1 L (p.take n) (by go_simp) (by exact HO.out) B (.slice PA n PC) (by go_simp) (by exact HSL1.out.below HB2.out (by omega)) (by rw [Hq.out, ← HK.out]; omega) hs2 ?_; intro v2 w3 hv hg ho; obtain ⟨A3, c3, rfl, _, _, _, _⟩ := hv.sl; rw [Hlq.out] at hv ho ⊢; have hne : some w.heap.size ≠ v1.ownBlock := (fun e => by have := (HO.out.lt _ e.symm).1; omega); have hk3 := HK2.out.grown hg hne; have e2 := hk3.at (o := 0) rfl; have e3 := hk3.free 0; have HK3 := Lib.hid hk3; have HV3 := Lib.hid hv; have HB3 := Lib.hid (show Below w1.heap.size w1 w3 from HB2.out.trans (HO.out.belowBase hg hs2)); clear hk3 hv hg ho hne))
    go_wp2_with fail
    all_goals
      obtain ⟨W9, hW9⟩ : ∃ W, W = w3.setCell ⟨w.heap.size, 0, none⟩ (.slice A3 (K + n) c3) := ⟨_, rfl⟩
      have hT9 : Blk W9 w.heap.size [.slice A3 (K + n) c3, .int .i64 r, .bool false, .int .i64 lo] := by rw [hW9]; exact HK3.out.set 0 _
      have hb9 : Below w.heap.size w W9 := by rw [hW9]; exact (HB1.out.trans (HB3.out.mono (Nat.le_of_lt HSZ.out))).setCell (p := ⟨w.heap.size, 0, none⟩) (Nat.le_refl _) _
      have hO9 : OwnB W9 w1.heap.size (.slice A3 (K + n) c3) (L ++ p.take n) := by rw [hW9]; exact HV3.out.kept (grown_set w3 ⟨w.heap.size, 0, none⟩ _) (.inr (fun e => by have := (HV3.out.lt w.heap.size e).1; have h2 := HSZ.out; omega))
      rw [← hW9]
      clear hW9 e2 e3
      have HT9 := Lib.hid hT9
      have HB9 := Lib.hid hb9
      have HO9 := Lib.hid hO9
      clear hT9 hb9 hO9
      refine wp_region_noPanic ?_
      refine wp_region_held (S := fun w' => w'.cell? ⟨w.heap.size, 0, none⟩ = some (.slice A3 (K + n) c3) ∧ w'.cell? ⟨w.heap.size, 1, none⟩ = some (.int .i64 r) ∧ w'.cell? ⟨w.heap.size, 2, none⟩ = some (.bool false) ∧ w'.cell? ⟨w.heap.size, 3, none⟩ = some (.int .i64 lo)) (by kernel_rfl) ?_
      change wpAnyH _ _ _ _ _ _ _ _ W9.drew
      have HS9 := Lib.hid (show W9.drew.cell? ⟨w.heap.size, 0, none⟩ = some (.slice A3 (K + n) c3) ∧ W9.drew.cell? ⟨w.heap.size, 1, none⟩ = some (.int .i64 r) ∧ W9.drew.cell? ⟨w.heap.size, 2, none⟩ = some (.bool false) ∧ W9.drew.cell? ⟨w.heap.size, 3, none⟩ = some (.int .i64 lo) from ⟨HT9.out.at (o := 0) rfl, HT9.out.at (o := 1) rfl, HT9.out.at (o := 2) rfl, HT9.out.at (o := 3) rfl⟩)
      refine takeH 0 44 (tP c) rfl rfl (by kernel_rfl) (by kernel_rfl) (by kernel_rfl) (fun _ _ _ h => h) rfl (fun w' h => by obtain ⟨z0, z1, z2, z3⟩ := h; go_simp) HS9.out ?_
      go_frame
      refine takeH 1 45 (.int .i64 0) rfl rfl (by kernel_rfl) (by kernel_rfl) (by kernel_rfl) (fun _ _ _ h => h) rfl (fun w' h => by obtain ⟨z0, z1, z2, z3⟩ := h; go_simp) HS9.out ?_
      go_frame
      refine takeH 2 46 (.agg #[.slice A3 (K + n) c3, .int .i64 r, .bool false, .int .i64 lo]) rfl rfl (by kernel_rfl) (by kernel_rfl) (by kernel_rfl) (fun _ _ _ h => h) rfl (fun w' h => by obtain ⟨z0, z1, z2, z3⟩ := h; go_simp) HS9.out ?_
      go_frame
      refine takeH 3 47 (tP c) rfl rfl (by kernel_rfl) (by kernel_rfl) (by kernel_rfl) (fun _ _ _ h => h) rfl (fun w' h => by obtain ⟨z0, z1, z2, z3⟩ := h; go_simp) HS9.out ?_
      go_frame
      refine takeH 4 48 (.pointer (some ⟨c, 1, none⟩)) rfl rfl (by kernel_rfl) (by kernel_rfl) (by kernel_rfl) (fun _ _ _ h => h) rfl (fun w' h => by obtain ⟨z0, z1, z2, z3⟩ := h; go_simp) HS9.out ?_
      go_frame
      refine takeH 5 49 (.pointer (some ⟨c, 1, none⟩)) rfl rfl (by kernel_rfl) (by kernel_rfl) (by kernel_rfl) (fun _ _ _ h => h) rfl (fun w' h => by obtain ⟨z0, z1, z2, z3⟩ := h; go_simp) HS9.out ?_
      go_frame
      refine wpAnyH_all (rs := [6]) (by kernel_rfl) (by simp) ?_
      simp only [List.mem_singleton, forall_eq]
      have hth : W9.drew.there c 1 4 := there_rx (HP.out.below HB9.out) 0 (by omega)
      obtain ⟨W10, hW10⟩ : ∃ W, W = W9.drew.setCells c 1 [.slice A3 (K + n) c3, .int .i64 r, .bool false, .int .i64 lo] := ⟨_, rfl⟩
      have HF := Lib.hid (rWrite_fin HP.out 0 (by omega) (W9 := W9.drew) HB9.out.drew w1.heap.size (Nat.le_of_lt HSZ.out) (.slice A3 (K + n) c3) y2 n p (by rw [HY2.out, HLl.out]) Hq.out HWr.out (by rw [← HLl.out, ← HK.out]; omega) (by rw [← HLl.out]; exact HO9.out))
      rw [← Hr.out, ← Hlo.out, HSh.out] at HF
      have HSX := Lib.hid (show W10.cell? ⟨w.heap.size, 0, none⟩ = some (.slice A3 (K + n) c3) ∧ W10.cell? ⟨w.heap.size, 1, none⟩ = some (.int .i64 r) ∧ W10.cell? ⟨w.heap.size, 2, none⟩ = some (.bool false) ∧ W10.cell? ⟨w.heap.size, 3, none⟩ = some (.int .i64 lo) from by
        rw [hW10]
        have hgs := grown_setCells c [.slice A3 (K + n) c3, .int .i64 r, .bool false, .int .i64 lo] W9.drew 1
        have hne : some w.heap.size ≠ some c := by intro e; have := Option.some.inj e; omega
        exact ⟨hgs.cell HS9.out.1 hne, hgs.cell HS9.out.2.1 hne, hgs.cell HS9.out.2.2.1 hne, hgs.cell HS9.out.2.2.2 hne⟩)
      replace HF : Hid (PX W10 base c room (upd A 0 (.slice A3 (K + n) c3)) (upd Y 0 y2) ∧ Trs [c] w W10 ∧ (∀ k ∈ pxS c (upd A 0 (.slice A3 (K + n) c3)), k ∈ pxS c A ∨ w.heap.size ≤ k)) := Lib.hid (by rw [hW10]; exact HF.out)
      refine wpOp_storeN rfl rfl rfl 31 (.tmp 49) (.tmp 46) rfl c 1 #[.slice A3 (K + n) c3, .int .i64 r, .bool false, .int .i64 lo] rfl rfl hth (by kernel_rfl) (by simp [Value.oneCell']) ?_
      rw [show (#[.slice A3 (K + n) c3, .int .i64 r, .bool false, .int .i64 lo] : Array Value).toList = [.slice A3 (K + n) c3, .int .i64 r, .bool false, .int .i64 lo] from rfl, ← hW10]
      clear hW10 hth
      refine ⟨HSX.out, wpAnyH_done (by kernel_rfl) ?_ _⟩
      refine NoPanic.normal ?_
      go_wp2_with fail
      go_ret2
      exact ⟨rfl, _, HF.out⟩
theorem rwshut_1 (h : PX w base c room A Y) (hs : (Y 1).shut = true) (v : Value) :
    Calls Tryd.prog 27 #[tP c, .int .i64 1, v] w fun e w' => e = .returned (.tuple #[.int .i64 0, .int .i64 14]) ∧ Below w.heap.size w w' := by
  have k0 : w.cell? ⟨c, 5, none⟩ = some (A 1) := h.blk.at (o := 5) rfl
  have k1 : w.cell? ⟨c, 6, none⟩ = some (.int .i64 ((Y 1).rd : Int)) := h.blk.at (o := 6) rfl
  have k2 : w.cell? ⟨c, 7, none⟩ = some (.bool (Y 1).shut) := h.blk.at (o := 7) rfl
  have k3 : w.cell? ⟨c, 8, none⟩ = some (.int .i64 ((Y 1).lost : Int)) := h.blk.at (o := 8) rfl
  obtain ⟨AA, C, hV, _, _, _, _⟩ := (h.own 1 (by omega)).sl
  rw [hV] at k0
  rw [hs] at k2
  have HB := Lib.hid (fun (o : Obj) => (Below.refl w.heap.size w).alloc (Nat.le_refl _) o)
  clear h hs hV
  go_enter Tryd.func27, Tryd.ntmps27
  go_wp2_with fail
  go_ret2
  exact ⟨rfl, HB.out _⟩
set_option maxHeartbeats 2000000 in
theorem rWrite_1 (h : PX w base c room A Y) (hs : (Y 1).shut = false) (B : Nat) (v : Value) (p : List UInt8) (hv : Sl w B v p) (hB : B ≤ w.heap.size) (hbg : (Y 1).all.length + p.length ≤ 400000) :
    Calls Tryd.prog 27 #[tP c, .int .i64 1, v] w fun e w' => e = .returned (.tuple #[.int .i64 (rwN room (Y 1) p : Int), .int .i64 0]) ∧ ∃ v', PX w' base c room (upd A 1 v') (upd Y 1 (rwR room (Y 1) p)) ∧ Trs [c] w w' ∧ (∀ k ∈ pxS c (upd A 1 v'), k ∈ pxS c A ∨ w.heap.size ≤ k) := by
  have HP := Lib.hid h
  have HVv := Lib.hid hv
  obtain ⟨PA, PC, rfl, _, p1, p2, _⟩ := hv
  obtain ⟨AA, C, hV, _, q1, q2, _⟩ := (h.own 1 (by omega)).sl
  have k0 : w.cell? ⟨c, 5, none⟩ = some (A 1) := h.blk.at (o := 5) rfl
  have k1 : w.cell? ⟨c, 6, none⟩ = some (.int .i64 ((Y 1).rd : Int)) := h.blk.at (o := 6) rfl
  have k2 : w.cell? ⟨c, 7, none⟩ = some (.bool (Y 1).shut) := h.blk.at (o := 7) rfl
  have k3 : w.cell? ⟨c, 8, none⟩ = some (.int .i64 ((Y 1).lost : Int)) := h.blk.at (o := 8) rfl
  have kr : w.cell? ⟨c, 0, none⟩ = some (.int .i64 (room : Int)) := h.blk.at (o := 0) rfl
  rw [hV] at k0
  rw [hs] at k2
  have hfit := h.fit 1 (by omega)
  have hbig := h.big 1 (by omega)
  have hwt := h.waits 1 (by omega)
  have hr2 := h.r2
  have hc := h.blk.lt
  have HV1 := Lib.hid hV; clear hV
  obtain ⟨n, hn⟩ : ∃ n, n = rwN room (Y 1) p := ⟨_, rfl⟩
  obtain ⟨y2, hy2⟩ : ∃ x, x = rwR room (Y 1) p := ⟨_, rfl⟩
  have HY2 := Lib.hid (show y2 = { Y 1 with all := (Y 1).all ++ p.take n } from by rw [hy2, hn]; rfl)
  rw [← hn, ← hy2]
  obtain ⟨z, hz⟩ : ∃ z : Int, z = ((Y 1).all.length : Int) - ((Y 1).rd : Int) - ((Y 1).lost : Int) := ⟨_, rfl⟩
  have hzw : z = ((Y 1).waits : Int) := by unfold WayR.waits; omega
  have hz0 : 0 ≤ z := by omega
  have hz1 : z ≤ (room : Int) := by omega
  have hnle : n ≤ p.length := by rw [hn]; unfold rwN; omega
  have HWr := Lib.hid (show n + (Y 1).waits ≤ room from by rw [hn]; unfold rwN; omega)
  have HN := Lib.hid (show ((p.length : Int) ≤ (room : Int) - z ∧ (n : Int) = (p.length : Int)) ∨ (¬ (p.length : Int) ≤ (room : Int) - z ∧ (n : Int) = (room : Int) - z) from by rw [hzw, hn]; unfold rwN; omega)
  have HWt := Lib.hid (fun W => rWaits_any AA (Y 1).all.length C ((Y 1).rd : Int) ((Y 1).lost : Int) false W (by omega) (by omega) (by omega) hbig)
  rw [← hz] at HWt
  obtain ⟨L, hL⟩ : ∃ L, L = (Y 1).all := ⟨_, rfl⟩
  rw [← hL] at k0 hfit hbig hbg HV1 q1 HWt HY2
  have HLl := Lib.hid hL
  have HO0 := Lib.hid (show OwnB w base (.slice AA L.length C) L from by rw [← HV1.out, hL]; exact h.own 1 (by omega))
  have hbs := h.size
  have HSh := Lib.hid hs
  clear hL hn hy2 hz hzw h  hs hwt
  obtain ⟨r, hr⟩ : ∃ r : Int, r = ((Y 1).rd : Int) := ⟨_, rfl⟩
  obtain ⟨lo, hlo⟩ : ∃ r : Int, r = ((Y 1).lost : Int) := ⟨_, rfl⟩
  rw [← hr] at k1 HWt
  rw [← hlo] at k3 HWt
  have Hr := Lib.hid hr; clear hr
  have Hlo := Lib.hid hlo; clear hlo
  obtain ⟨K, hK⟩ : ∃ K, K = L.length := ⟨_, rfl⟩
  rw [← hK] at k0 hfit hbig hbg HV1 q1 HWt HO0
  have HK := Lib.hid hK; clear hK
  obtain ⟨P, hP⟩ : ∃ P, P = p.length := ⟨_, rfl⟩
  rw [← hP] at hbg p1 hnle HN HVv ⊢
  have HPl := Lib.hid hP; clear hP
  have HSL := Lib.hid (show Sl w B (.slice PA n PC) (p.take n) from by
    obtain ⟨A2, c2, e2, _, _, _, hsl⟩ := HVv.out.take n (by rw [← HPl.out]; exact hnle)
    injection e2 with e3 _ e4
    subst e3; subst e4
    exact hsl)
  have Hq : Hid ((p.take n).length = n) := Lib.hid (by rw [List.length_take, ← HPl.out]; omega)
  have Hlq : Hid ((L ++ p.take n).length = K + n) := Lib.hid (by rw [List.length_append, Hq.out, ← HK.out])
  obtain ⟨N, hNN⟩ : ∃ N : Int, N = (n : Int) := ⟨_, rfl⟩
  have hrun : ∀ w, (Instr.slice 29 (.slice PA P PC) none (some (.int .i64 N)) none).run Tryd.prog w = .ok (.slice PA n PC) w := by rw [hNN]; exact slice_h PA P PC n (by omega)
  rw [← hNN] at HN ⊢
  have HNN := Lib.hid hNN; clear hNN
  obtain ⟨W, hW⟩ : ∃ W, W = w.alloc (.cells #[.slice AA K C, .int .i64 r, .bool false, .int .i64 lo] 31) := ⟨_, rfl⟩
  have hBW : Below w.heap.size w W := by rw [hW]; exact (Below.refl _ _).alloc (Nat.le_refl _) _
  have hTW : Blk W w.heap.size [.slice AA K C, .int .i64 r, .bool false, .int .i64 lo] := by rw [hW]; exact Blk.newA w #[.slice AA K C, .int .i64 r, .bool false, .int .i64 lo] _
  have hszW : W.heap.size = w.heap.size + 1 := by rw [hW]; simp
  have HBW := Lib.hid hBW
  have HTW := Lib.hid hTW
  have HKR := Lib.hid (show W.cell? ⟨c, 0, none⟩ = some (.int .i64 (room : Int)) from (hBW.cell (p := ⟨c, 0, none⟩) hc).trans kr)
  clear hBW hTW
  have hwr : IntKind.i64.wrap ((room : Int) - z) = (room : Int) - z := IntWalk.i64_in _ ⟨by omega, by omega⟩
  rcases HN.out with ⟨hcm, rfl⟩ | ⟨hcm, rfl⟩
  · go_enter Tryd.func27, Tryd.ntmps27
    go_wp2_with fail
    rw [← hW]
    clear hW k0 k1 k2 k3 kr
    refine wp_region_noPanic ?_
    refine wp_region_held (S := fun w' => w'.cell? ⟨c, 0, none⟩ = some (.int .i64 (room : Int)) ∧ w'.cell? ⟨w.heap.size, 0, none⟩ = some (.slice AA K C) ∧ w'.cell? ⟨w.heap.size, 1, none⟩ = some (.int .i64 r) ∧ w'.cell? ⟨w.heap.size, 2, none⟩ = some (.bool false) ∧ w'.cell? ⟨w.heap.size, 3, none⟩ = some (.int .i64 lo)) (by kernel_rfl) ?_
    change wpAnyH _ _ _ _ _ _ _ _ W.drew
    have HS := Lib.hid (show W.drew.cell? ⟨c, 0, none⟩ = some (.int .i64 (room : Int)) ∧ W.drew.cell? ⟨w.heap.size, 0, none⟩ = some (.slice AA K C) ∧ W.drew.cell? ⟨w.heap.size, 1, none⟩ = some (.int .i64 r) ∧ W.drew.cell? ⟨w.heap.size, 2, none⟩ = some (.bool false) ∧ W.drew.cell? ⟨w.heap.size, 3, none⟩ = some (.int .i64 lo) from ⟨HKR.out, HTW.out.at (o := 0) rfl, HTW.out.at (o := 1) rfl, HTW.out.at (o := 2) rfl, HTW.out.at (o := 3) rfl⟩)
    refine takeH 0 26 (.slice PA P PC) rfl rfl (by kernel_rfl) (by kernel_rfl) (by kernel_rfl) (fun _ _ _ h => h) rfl (fun w' h => by obtain ⟨z0, z1, z2, z3, z4⟩ := h; go_simp) HS.out ?_
    go_frame
    refine takeH 1 27 (.int .i64 (P : Int)) rfl rfl (by kernel_rfl) (by kernel_rfl) (by kernel_rfl) (fun _ _ _ h => h) rfl (fun w' h => by obtain ⟨z0, z1, z2, z3, z4⟩ := h; go_simp) HS.out ?_
    go_frame
    refine takeH 2 28 (tP c) rfl rfl (by kernel_rfl) (by kernel_rfl) (by kernel_rfl) (fun _ _ _ h => h) rfl (fun w' h => by obtain ⟨z0, z1, z2, z3, z4⟩ := h; go_simp) HS.out ?_
    go_frame
    refine takeH 3 29 (tP c) rfl rfl (by kernel_rfl) (by kernel_rfl) (by kernel_rfl) (fun _ _ _ h => h) rfl (fun w' h => by obtain ⟨z0, z1, z2, z3, z4⟩ := h; go_simp) HS.out ?_
    go_frame
    refine takeH 4 30 (tP c) rfl rfl (by kernel_rfl) (by kernel_rfl) (by kernel_rfl) (fun _ _ _ h => h) rfl (fun w' h => by obtain ⟨z0, z1, z2, z3, z4⟩ := h; go_simp) HS.out ?_
    go_frame
    refine takeH 5 31 (.int .i64 (room : Int)) rfl rfl (by kernel_rfl) (by kernel_rfl) (by kernel_rfl) (fun _ _ _ h => h) rfl (fun w' h => by obtain ⟨z0, z1, z2, z3, z4⟩ := h; go_simp) HS.out ?_
    go_frame
    refine takeH 6 32 (.agg #[.slice AA K C, .int .i64 r, .bool false, .int .i64 lo]) rfl rfl (by kernel_rfl) (by kernel_rfl) (by kernel_rfl) (fun _ _ _ h => h) rfl (fun w' h => by obtain ⟨z0, z1, z2, z3, z4⟩ := h; go_simp) HS.out ?_
    go_frame
    refine wpAnyH_all (rs := [7]) (by kernel_rfl) (by simp) ?_
    simp only [List.mem_singleton, forall_eq]
    refine wpOp_callD 33 rfl rfl rfl 29 #[.agg #[.slice AA K C, .int .i64 r, .bool false, .int .i64 lo]] (by go_simp) ?_
    refine (HWt.out W.drew).mono ?_
    rintro e w1 ⟨rfl, hB1⟩
    have hb1 : Below W.heap.size W w1 := ⟨hB1.os, hB1.tape, hB1.output, hB1.size, hB1.block⟩
    have hT1 : Blk w1 w.heap.size [.slice AA K C, .int .i64 r, .bool false, .int .i64 lo] := HTW.out.below hb1 (by omega)
    have HS1 := Lib.hid (show w1.cell? ⟨c, 0, none⟩ = some (.int .i64 (room : Int)) ∧ w1.cell? ⟨w.heap.size, 0, none⟩ = some (.slice AA K C) ∧ w1.cell? ⟨w.heap.size, 1, none⟩ = some (.int .i64 r) ∧ w1.cell? ⟨w.heap.size, 2, none⟩ = some (.bool false) ∧ w1.cell? ⟨w.heap.size, 3, none⟩ = some (.int .i64 lo) from ⟨(hb1.cell (p := ⟨c, 0, none⟩) (by show c < W.heap.size; omega)).trans HKR.out, hT1.at (o := 0) rfl, hT1.at (o := 1) rfl, hT1.at (o := 2) rfl, hT1.at (o := 3) rfl⟩)
    have HT1 := Lib.hid hT1
    have HB1 := Lib.hid (HBW.out.trans (hb1.mono (by omega)))
    clear hb1 hT1 hB1
    refine ⟨_, rfl, HS1.out, ?_⟩
    go_frame
    refine takeH 8 34 (.int .i64 ((room : Int) - z)) rfl rfl (by kernel_rfl) (by kernel_rfl) (by kernel_rfl) (fun _ _ _ h => h) rfl (fun w' h => by go_simp) HS1.out ?_
    go_frame
    refine takeH 9 35 (.int .i64 (P : Int)) rfl rfl (by kernel_rfl) (by kernel_rfl) (by kernel_rfl) (fun _ _ _ h => h) rfl (fun w' h => by go_simp <;> omega) HS1.out ?_
    go_frame
    refine takeH 10 9 (.int .i64 (P : Int)) rfl rfl (by kernel_rfl) (by kernel_rfl) (by kernel_rfl) (fun _ _ _ h => h) rfl (fun w' h => by go_simp) HS1.out ?_
    go_frame
    refine wpAnyH_done (by kernel_rfl) ?_ _
    refine NoPanic.normal ?_
    have t0 := HT1.out.at (o := 0) rfl
    have g0 := HT1.out.free 0
    have hsz1 : w.heap.size < w1.heap.size := HT1.out.lt
    have HSZ := Lib.hid hsz1
    go_wp2_with fail
    have HO1 := Lib.hid (HO0.out.below HB1.out)
    have HSL1 := Lib.hid (HSL.out.below HB1.out hB)
    have HP1 := Lib.hid (HP.out.below HB1.out)
    go_region_law (first
      | (go_simp; go_at_call 21; refine (copy_any w1.heap.size (.slice AA K C) L _ (HO1.out.sl.below (Below.refl w1.heap.size w1).drew (Nat.le_refl _)) (Nat.le_refl _) (by rw [← HK.out]; omega)).mono ?_; rintro e w2 ⟨v1, rfl, hO, hb⟩; have hb2 : Below w1.heap.size w1 w2 := ⟨hb.os, hb.tape, hb.output, hb.size, hb.block⟩; have hk2 := HT1.out.below hb2 hsz1; have e0 := hk2.at (o := 0) rfl; have e1 := hk2.free 0; have HO := Lib.hid (show OwnB w2 w1.heap.size v1 L from hO); have HB2 := Lib.hid hb2; have hs2 : w1.heap.size ≤ w2.heap.size := hb2.size; have HK2 := Lib.hid hk2; clear hO hb hb2 hk2)
      | (refine step_app_sl rfl (.tmp 38) (.tmp 41) rfl w1.heap.size v1 L (p.take n) (by go_simp) (by exact HO.out) B (.slice PA n PC) (by go_simp) (by exact HSL1.out.below HB2.out (by omega)) (by rw [Hq.out, ← HK.out]; omega) hs2 ?_; intro v2 w3 hv hg ho; obtain ⟨A3, c3, rfl, _, _, _, _⟩ := hv.sl; rw [Hlq.out] at hv ho ⊢; have hne : some w.heap.size ≠ v1.ownBlock := (fun e => by have := (HO.out.lt _ e.symm).1; omega); have hk3 := HK2.out.grown hg hne; have e2 := hk3.at (o := 0) rfl; have e3 := hk3.free 0; have HK3 := Lib.hid hk3; have HV3 := Lib.hid hv; have HB3 := Lib.hid (show Below w1.heap.size w1 w3 from HB2.out.trans (HO.out.belowBase hg hs2)); clear hk3 hv hg ho hne))
    go_wp2_with fail
    all_goals
      obtain ⟨W9, hW9⟩ : ∃ W, W = w3.setCell ⟨w.heap.size, 0, none⟩ (.slice A3 (K + n) c3) := ⟨_, rfl⟩
      have hT9 : Blk W9 w.heap.size [.slice A3 (K + n) c3, .int .i64 r, .bool false, .int .i64 lo] := by rw [hW9]; exact HK3.out.set 0 _
      have hb9 : Below w.heap.size w W9 := by rw [hW9]; exact (HB1.out.trans (HB3.out.mono (Nat.le_of_lt HSZ.out))).setCell (p := ⟨w.heap.size, 0, none⟩) (Nat.le_refl _) _
      have hO9 : OwnB W9 w1.heap.size (.slice A3 (K + n) c3) (L ++ p.take n) := by rw [hW9]; exact HV3.out.kept (grown_set w3 ⟨w.heap.size, 0, none⟩ _) (.inr (fun e => by have := (HV3.out.lt w.heap.size e).1; have h2 := HSZ.out; omega))
      rw [← hW9]
      clear hW9 e2 e3
      have HT9 := Lib.hid hT9
      have HB9 := Lib.hid hb9
      have HO9 := Lib.hid hO9
      clear hT9 hb9 hO9
      refine wp_region_noPanic ?_
      refine wp_region_held (S := fun w' => w'.cell? ⟨w.heap.size, 0, none⟩ = some (.slice A3 (K + n) c3) ∧ w'.cell? ⟨w.heap.size, 1, none⟩ = some (.int .i64 r) ∧ w'.cell? ⟨w.heap.size, 2, none⟩ = some (.bool false) ∧ w'.cell? ⟨w.heap.size, 3, none⟩ = some (.int .i64 lo)) (by kernel_rfl) ?_
      change wpAnyH _ _ _ _ _ _ _ _ W9.drew
      have HS9 := Lib.hid (show W9.drew.cell? ⟨w.heap.size, 0, none⟩ = some (.slice A3 (K + n) c3) ∧ W9.drew.cell? ⟨w.heap.size, 1, none⟩ = some (.int .i64 r) ∧ W9.drew.cell? ⟨w.heap.size, 2, none⟩ = some (.bool false) ∧ W9.drew.cell? ⟨w.heap.size, 3, none⟩ = some (.int .i64 lo) from ⟨HT9.out.at (o := 0) rfl, HT9.out.at (o := 1) rfl, HT9.out.at (o := 2) rfl, HT9.out.at (o := 3) rfl⟩)
      refine takeH 0 44 (tP c) rfl rfl (by kernel_rfl) (by kernel_rfl) (by kernel_rfl) (fun _ _ _ h => h) rfl (fun w' h => by obtain ⟨z0, z1, z2, z3⟩ := h; go_simp) HS9.out ?_
      go_frame
      refine takeH 1 45 (.int .i64 1) rfl rfl (by kernel_rfl) (by kernel_rfl) (by kernel_rfl) (fun _ _ _ h => h) rfl (fun w' h => by obtain ⟨z0, z1, z2, z3⟩ := h; go_simp) HS9.out ?_
      go_frame
      refine takeH 2 46 (.agg #[.slice A3 (K + n) c3, .int .i64 r, .bool false, .int .i64 lo]) rfl rfl (by kernel_rfl) (by kernel_rfl) (by kernel_rfl) (fun _ _ _ h => h) rfl (fun w' h => by obtain ⟨z0, z1, z2, z3⟩ := h; go_simp) HS9.out ?_
      go_frame
      refine takeH 3 47 (tP c) rfl rfl (by kernel_rfl) (by kernel_rfl) (by kernel_rfl) (fun _ _ _ h => h) rfl (fun w' h => by obtain ⟨z0, z1, z2, z3⟩ := h; go_simp) HS9.out ?_
      go_frame
      refine takeH 4 48 (.pointer (some ⟨c, 1, none⟩)) rfl rfl (by kernel_rfl) (by kernel_rfl) (by kernel_rfl) (fun _ _ _ h => h) rfl (fun w' h => by obtain ⟨z0, z1, z2, z3⟩ := h; go_simp) HS9.out ?_
      go_frame
      refine takeH 5 49 (.pointer (some ⟨c, 5, none⟩)) rfl rfl (by kernel_rfl) (by kernel_rfl) (by kernel_rfl) (fun _ _ _ h => h) rfl (fun w' h => by obtain ⟨z0, z1, z2, z3⟩ := h; go_simp) HS9.out ?_
      go_frame
      refine wpAnyH_all (rs := [6]) (by kernel_rfl) (by simp) ?_
      simp only [List.mem_singleton, forall_eq]
      have hth : W9.drew.there c 5 4 := there_rx (HP.out.below HB9.out) 1 (by omega)
      obtain ⟨W10, hW10⟩ : ∃ W, W = W9.drew.setCells c 5 [.slice A3 (K + n) c3, .int .i64 r, .bool false, .int .i64 lo] := ⟨_, rfl⟩
      have HF := Lib.hid (rWrite_fin HP.out 1 (by omega) (W9 := W9.drew) HB9.out.drew w1.heap.size (Nat.le_of_lt HSZ.out) (.slice A3 (K + n) c3) y2 n p (by rw [HY2.out, HLl.out]) Hq.out HWr.out (by rw [← HLl.out, ← HK.out]; omega) (by rw [← HLl.out]; exact HO9.out))
      rw [← Hr.out, ← Hlo.out, HSh.out] at HF
      have HSX := Lib.hid (show W10.cell? ⟨w.heap.size, 0, none⟩ = some (.slice A3 (K + n) c3) ∧ W10.cell? ⟨w.heap.size, 1, none⟩ = some (.int .i64 r) ∧ W10.cell? ⟨w.heap.size, 2, none⟩ = some (.bool false) ∧ W10.cell? ⟨w.heap.size, 3, none⟩ = some (.int .i64 lo) from by
        rw [hW10]
        have hgs := grown_setCells c [.slice A3 (K + n) c3, .int .i64 r, .bool false, .int .i64 lo] W9.drew 5
        have hne : some w.heap.size ≠ some c := by intro e; have := Option.some.inj e; omega
        exact ⟨hgs.cell HS9.out.1 hne, hgs.cell HS9.out.2.1 hne, hgs.cell HS9.out.2.2.1 hne, hgs.cell HS9.out.2.2.2 hne⟩)
      replace HF : Hid (PX W10 base c room (upd A 1 (.slice A3 (K + n) c3)) (upd Y 1 y2) ∧ Trs [c] w W10 ∧ (∀ k ∈ pxS c (upd A 1 (.slice A3 (K + n) c3)), k ∈ pxS c A ∨ w.heap.size ≤ k)) := Lib.hid (by rw [hW10]; exact HF.out)
      refine wpOp_storeN rfl rfl rfl 31 (.tmp 49) (.tmp 46) rfl c 5 #[.slice A3 (K + n) c3, .int .i64 r, .bool false, .int .i64 lo] rfl rfl hth (by kernel_rfl) (by simp [Value.oneCell']) ?_
      rw [show (#[.slice A3 (K + n) c3, .int .i64 r, .bool false, .int .i64 lo] : Array Value).toList = [.slice A3 (K + n) c3, .int .i64 r, .bool false, .int .i64 lo] from rfl, ← hW10]
      clear hW10 hth
      refine ⟨HSX.out, wpAnyH_done (by kernel_rfl) ?_ _⟩
      refine NoPanic.normal ?_
      go_wp2_with fail
      go_ret2
      exact ⟨rfl, _, HF.out⟩
  · go_enter Tryd.func27, Tryd.ntmps27
    go_wp2_with fail
    rw [← hW]
    clear hW k0 k1 k2 k3 kr
    refine wp_region_noPanic ?_
    refine wp_region_held (S := fun w' => w'.cell? ⟨c, 0, none⟩ = some (.int .i64 (room : Int)) ∧ w'.cell? ⟨w.heap.size, 0, none⟩ = some (.slice AA K C) ∧ w'.cell? ⟨w.heap.size, 1, none⟩ = some (.int .i64 r) ∧ w'.cell? ⟨w.heap.size, 2, none⟩ = some (.bool false) ∧ w'.cell? ⟨w.heap.size, 3, none⟩ = some (.int .i64 lo)) (by kernel_rfl) ?_
    change wpAnyH _ _ _ _ _ _ _ _ W.drew
    have HS := Lib.hid (show W.drew.cell? ⟨c, 0, none⟩ = some (.int .i64 (room : Int)) ∧ W.drew.cell? ⟨w.heap.size, 0, none⟩ = some (.slice AA K C) ∧ W.drew.cell? ⟨w.heap.size, 1, none⟩ = some (.int .i64 r) ∧ W.drew.cell? ⟨w.heap.size, 2, none⟩ = some (.bool false) ∧ W.drew.cell? ⟨w.heap.size, 3, none⟩ = some (.int .i64 lo) from ⟨HKR.out, HTW.out.at (o := 0) rfl, HTW.out.at (o := 1) rfl, HTW.out.at (o := 2) rfl, HTW.out.at (o := 3) rfl⟩)
    refine takeH 0 26 (.slice PA P PC) rfl rfl (by kernel_rfl) (by kernel_rfl) (by kernel_rfl) (fun _ _ _ h => h) rfl (fun w' h => by obtain ⟨z0, z1, z2, z3, z4⟩ := h; go_simp) HS.out ?_
    go_frame
    refine takeH 1 27 (.int .i64 (P : Int)) rfl rfl (by kernel_rfl) (by kernel_rfl) (by kernel_rfl) (fun _ _ _ h => h) rfl (fun w' h => by obtain ⟨z0, z1, z2, z3, z4⟩ := h; go_simp) HS.out ?_
    go_frame
    refine takeH 2 28 (tP c) rfl rfl (by kernel_rfl) (by kernel_rfl) (by kernel_rfl) (fun _ _ _ h => h) rfl (fun w' h => by obtain ⟨z0, z1, z2, z3, z4⟩ := h; go_simp) HS.out ?_
    go_frame
    refine takeH 3 29 (tP c) rfl rfl (by kernel_rfl) (by kernel_rfl) (by kernel_rfl) (fun _ _ _ h => h) rfl (fun w' h => by obtain ⟨z0, z1, z2, z3, z4⟩ := h; go_simp) HS.out ?_
    go_frame
    refine takeH 4 30 (tP c) rfl rfl (by kernel_rfl) (by kernel_rfl) (by kernel_rfl) (fun _ _ _ h => h) rfl (fun w' h => by obtain ⟨z0, z1, z2, z3, z4⟩ := h; go_simp) HS.out ?_
    go_frame
    refine takeH 5 31 (.int .i64 (room : Int)) rfl rfl (by kernel_rfl) (by kernel_rfl) (by kernel_rfl) (fun _ _ _ h => h) rfl (fun w' h => by obtain ⟨z0, z1, z2, z3, z4⟩ := h; go_simp) HS.out ?_
    go_frame
    refine takeH 6 32 (.agg #[.slice AA K C, .int .i64 r, .bool false, .int .i64 lo]) rfl rfl (by kernel_rfl) (by kernel_rfl) (by kernel_rfl) (fun _ _ _ h => h) rfl (fun w' h => by obtain ⟨z0, z1, z2, z3, z4⟩ := h; go_simp) HS.out ?_
    go_frame
    refine wpAnyH_all (rs := [7]) (by kernel_rfl) (by simp) ?_
    simp only [List.mem_singleton, forall_eq]
    refine wpOp_callD 33 rfl rfl rfl 29 #[.agg #[.slice AA K C, .int .i64 r, .bool false, .int .i64 lo]] (by go_simp) ?_
    refine (HWt.out W.drew).mono ?_
    rintro e w1 ⟨rfl, hB1⟩
    have hb1 : Below W.heap.size W w1 := ⟨hB1.os, hB1.tape, hB1.output, hB1.size, hB1.block⟩
    have hT1 : Blk w1 w.heap.size [.slice AA K C, .int .i64 r, .bool false, .int .i64 lo] := HTW.out.below hb1 (by omega)
    have HS1 := Lib.hid (show w1.cell? ⟨c, 0, none⟩ = some (.int .i64 (room : Int)) ∧ w1.cell? ⟨w.heap.size, 0, none⟩ = some (.slice AA K C) ∧ w1.cell? ⟨w.heap.size, 1, none⟩ = some (.int .i64 r) ∧ w1.cell? ⟨w.heap.size, 2, none⟩ = some (.bool false) ∧ w1.cell? ⟨w.heap.size, 3, none⟩ = some (.int .i64 lo) from ⟨(hb1.cell (p := ⟨c, 0, none⟩) (by show c < W.heap.size; omega)).trans HKR.out, hT1.at (o := 0) rfl, hT1.at (o := 1) rfl, hT1.at (o := 2) rfl, hT1.at (o := 3) rfl⟩)
    have HT1 := Lib.hid hT1
    have HB1 := Lib.hid (HBW.out.trans (hb1.mono (by omega)))
    clear hb1 hT1 hB1
    refine ⟨_, rfl, HS1.out, ?_⟩
    go_frame
    refine takeH 8 34 (.int .i64 ((room : Int) - z)) rfl rfl (by kernel_rfl) (by kernel_rfl) (by kernel_rfl) (fun _ _ _ h => h) rfl (fun w' h => by go_simp) HS1.out ?_
    go_frame
    refine takeH 9 35 (.int .i64 ((room : Int) - z)) rfl rfl (by kernel_rfl) (by kernel_rfl) (by kernel_rfl) (fun _ _ _ h => h) rfl (fun w' h => by go_simp <;> omega) HS1.out ?_
    go_frame
    refine takeH 10 9 (.int .i64 ((room : Int) - z)) rfl rfl (by kernel_rfl) (by kernel_rfl) (by kernel_rfl) (fun _ _ _ h => h) rfl (fun w' h => by go_simp) HS1.out ?_
    go_frame
    refine wpAnyH_done (by kernel_rfl) ?_ _
    refine NoPanic.normal ?_
    have t0 := HT1.out.at (o := 0) rfl
    have g0 := HT1.out.free 0
    have hsz1 : w.heap.size < w1.heap.size := HT1.out.lt
    have HSZ := Lib.hid hsz1
    go_wp2_with fail
    have HO1 := Lib.hid (HO0.out.below HB1.out)
    have HSL1 := Lib.hid (HSL.out.below HB1.out hB)
    have HP1 := Lib.hid (HP.out.below HB1.out)
    go_region_law (first
      | (go_simp; go_at_call 21; refine (copy_any w1.heap.size (.slice AA K C) L _ (HO1.out.sl.below (Below.refl w1.heap.size w1).drew (Nat.le_refl _)) (Nat.le_refl _) (by rw [← HK.out]; omega)).mono ?_; rintro e w2 ⟨v1, rfl, hO, hb⟩; have hb2 : Below w1.heap.size w1 w2 := ⟨hb.os, hb.tape, hb.output, hb.size, hb.block⟩; have hk2 := HT1.out.below hb2 hsz1; have e0 := hk2.at (o := 0) rfl; have e1 := hk2.free 0; have HO := Lib.hid (show OwnB w2 w1.heap.size v1 L from hO); have HB2 := Lib.hid hb2; have hs2 : w1.heap.size ≤ w2.heap.size := hb2.size; have HK2 := Lib.hid hk2; clear hO hb hb2 hk2)
      | (refine step_app_sl rfl (.tmp 38) (.tmp 41) rfl w1.heap.size v1 L (p.take n) (by go_simp) (by exact HO.out) B (.slice PA n PC) (by go_simp) (by exact HSL1.out.below HB2.out (by omega)) (by rw [Hq.out, ← HK.out]; omega) hs2 ?_; intro v2 w3 hv hg ho; obtain ⟨A3, c3, rfl, _, _, _, _⟩ := hv.sl; rw [Hlq.out] at hv ho ⊢; have hne : some w.heap.size ≠ v1.ownBlock := (fun e => by have := (HO.out.lt _ e.symm).1; omega); have hk3 := HK2.out.grown hg hne; have e2 := hk3.at (o := 0) rfl; have e3 := hk3.free 0; have HK3 := Lib.hid hk3; have HV3 := Lib.hid hv; have HB3 := Lib.hid (show Below w1.heap.size w1 w3 from HB2.out.trans (HO.out.belowBase hg hs2)); clear hk3 hv hg ho hne))
    go_wp2_with fail
    all_goals
      obtain ⟨W9, hW9⟩ : ∃ W, W = w3.setCell ⟨w.heap.size, 0, none⟩ (.slice A3 (K + n) c3) := ⟨_, rfl⟩
      have hT9 : Blk W9 w.heap.size [.slice A3 (K + n) c3, .int .i64 r, .bool false, .int .i64 lo] := by rw [hW9]; exact HK3.out.set 0 _
      have hb9 : Below w.heap.size w W9 := by rw [hW9]; exact (HB1.out.trans (HB3.out.mono (Nat.le_of_lt HSZ.out))).setCell (p := ⟨w.heap.size, 0, none⟩) (Nat.le_refl _) _
      have hO9 : OwnB W9 w1.heap.size (.slice A3 (K + n) c3) (L ++ p.take n) := by rw [hW9]; exact HV3.out.kept (grown_set w3 ⟨w.heap.size, 0, none⟩ _) (.inr (fun e => by have := (HV3.out.lt w.heap.size e).1; have h2 := HSZ.out; omega))
      rw [← hW9]
      clear hW9 e2 e3
      have HT9 := Lib.hid hT9
      have HB9 := Lib.hid hb9
      have HO9 := Lib.hid hO9
      clear hT9 hb9 hO9
      refine wp_region_noPanic ?_
      refine wp_region_held (S := fun w' => w'.cell? ⟨w.heap.size, 0, none⟩ = some (.slice A3 (K + n) c3) ∧ w'.cell? ⟨w.heap.size, 1, none⟩ = some (.int .i64 r) ∧ w'.cell? ⟨w.heap.size, 2, none⟩ = some (.bool false) ∧ w'.cell? ⟨w.heap.size, 3, none⟩ = some (.int .i64 lo)) (by kernel_rfl) ?_
      change wpAnyH _ _ _ _ _ _ _ _ W9.drew
      have HS9 := Lib.hid (show W9.drew.cell? ⟨w.heap.size, 0, none⟩ = some (.slice A3 (K + n) c3) ∧ W9.drew.cell? ⟨w.heap.size, 1, none⟩ = some (.int .i64 r) ∧ W9.drew.cell? ⟨w.heap.size, 2, none⟩ = some (.bool false) ∧ W9.drew.cell? ⟨w.heap.size, 3, none⟩ = some (.int .i64 lo) from ⟨HT9.out.at (o := 0) rfl, HT9.out.at (o := 1) rfl, HT9.out.at (o := 2) rfl, HT9.out.at (o := 3) rfl⟩)
      refine takeH 0 44 (tP c) rfl rfl (by kernel_rfl) (by kernel_rfl) (by kernel_rfl) (fun _ _ _ h => h) rfl (fun w' h => by obtain ⟨z0, z1, z2, z3⟩ := h; go_simp) HS9.out ?_
      go_frame
      refine takeH 1 45 (.int .i64 1) rfl rfl (by kernel_rfl) (by kernel_rfl) (by kernel_rfl) (fun _ _ _ h => h) rfl (fun w' h => by obtain ⟨z0, z1, z2, z3⟩ := h; go_simp) HS9.out ?_
      go_frame
      refine takeH 2 46 (.agg #[.slice A3 (K + n) c3, .int .i64 r, .bool false, .int .i64 lo]) rfl rfl (by kernel_rfl) (by kernel_rfl) (by kernel_rfl) (fun _ _ _ h => h) rfl (fun w' h => by obtain ⟨z0, z1, z2, z3⟩ := h; go_simp) HS9.out ?_
      go_frame
      refine takeH 3 47 (tP c) rfl rfl (by kernel_rfl) (by kernel_rfl) (by kernel_rfl) (fun _ _ _ h => h) rfl (fun w' h => by obtain ⟨z0, z1, z2, z3⟩ := h; go_simp) HS9.out ?_
      go_frame
      refine takeH 4 48 (.pointer (some ⟨c, 1, none⟩)) rfl rfl (by kernel_rfl) (by kernel_rfl) (by kernel_rfl) (fun _ _ _ h => h) rfl (fun w' h => by obtain ⟨z0, z1, z2, z3⟩ := h; go_simp) HS9.out ?_
      go_frame
      refine takeH 5 49 (.pointer (some ⟨c, 5, none⟩)) rfl rfl (by kernel_rfl) (by kernel_rfl) (by kernel_rfl) (fun _ _ _ h => h) rfl (fun w' h => by obtain ⟨z0, z1, z2, z3⟩ := h; go_simp) HS9.out ?_
      go_frame
      refine wpAnyH_all (rs := [6]) (by kernel_rfl) (by simp) ?_
      simp only [List.mem_singleton, forall_eq]
      have hth : W9.drew.there c 5 4 := there_rx (HP.out.below HB9.out) 1 (by omega)
      obtain ⟨W10, hW10⟩ : ∃ W, W = W9.drew.setCells c 5 [.slice A3 (K + n) c3, .int .i64 r, .bool false, .int .i64 lo] := ⟨_, rfl⟩
      have HF := Lib.hid (rWrite_fin HP.out 1 (by omega) (W9 := W9.drew) HB9.out.drew w1.heap.size (Nat.le_of_lt HSZ.out) (.slice A3 (K + n) c3) y2 n p (by rw [HY2.out, HLl.out]) Hq.out HWr.out (by rw [← HLl.out, ← HK.out]; omega) (by rw [← HLl.out]; exact HO9.out))
      rw [← Hr.out, ← Hlo.out, HSh.out] at HF
      have HSX := Lib.hid (show W10.cell? ⟨w.heap.size, 0, none⟩ = some (.slice A3 (K + n) c3) ∧ W10.cell? ⟨w.heap.size, 1, none⟩ = some (.int .i64 r) ∧ W10.cell? ⟨w.heap.size, 2, none⟩ = some (.bool false) ∧ W10.cell? ⟨w.heap.size, 3, none⟩ = some (.int .i64 lo) from by
        rw [hW10]
        have hgs := grown_setCells c [.slice A3 (K + n) c3, .int .i64 r, .bool false, .int .i64 lo] W9.drew 5
        have hne : some w.heap.size ≠ some c := by intro e; have := Option.some.inj e; omega
        exact ⟨hgs.cell HS9.out.1 hne, hgs.cell HS9.out.2.1 hne, hgs.cell HS9.out.2.2.1 hne, hgs.cell HS9.out.2.2.2 hne⟩)
      replace HF : Hid (PX W10 base c room (upd A 1 (.slice A3 (K + n) c3)) (upd Y 1 y2) ∧ Trs [c] w W10 ∧ (∀ k ∈ pxS c (upd A 1 (.slice A3 (K + n) c3)), k ∈ pxS c A ∨ w.heap.size ≤ k)) := Lib.hid (by rw [hW10]; exact HF.out)
      refine wpOp_storeN rfl rfl rfl 31 (.tmp 49) (.tmp 46) rfl c 5 #[.slice A3 (K + n) c3, .int .i64 r, .bool false, .int .i64 lo] rfl rfl hth (by kernel_rfl) (by simp [Value.oneCell']) ?_
      rw [show (#[.slice A3 (K + n) c3, .int .i64 r, .bool false, .int .i64 lo] : Array Value).toList = [.slice A3 (K + n) c3, .int .i64 r, .bool false, .int .i64 lo] from rfl, ← hW10]
      clear hW10 hth
      refine ⟨HSX.out, wpAnyH_done (by kernel_rfl) ?_ _⟩
      refine NoPanic.normal ?_
      go_wp2_with fail
      go_ret2
      exact ⟨rfl, _, HF.out⟩
end
end Go.Proofs.YtlobmffcnobgeaaDoor
