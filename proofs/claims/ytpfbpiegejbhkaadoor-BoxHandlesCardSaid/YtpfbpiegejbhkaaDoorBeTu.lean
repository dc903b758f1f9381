/- (*Box).Turn of a symbolic box. -/
import Derived.Test.YtpfbpiegejbhkaaDoorBeTg
set_option maxRecDepth 100000
namespace Go.Proofs.YtpfbpiegejbhkaaDoor
open Go.RowKit
attribute [local go_sem] Oper.semAt_some
set_option maxHeartbeats 4000000 in
theorem turn_sym {w : World} {base b m : Nat} {rv v1 v2 : Value} {full : Bool} {es : List EnL} {x y : List UInt8} (h : BX w base b m rv true full es) (hT : OkT es) (h1 : Sl w w.heap.size v1 x) (h2 : Sl w w.heap.size v2 y)
    (ht1 : isTagL true es.length x = true) (ht2 : isTagL true es.length y = true) (hn1 : tagN x ≤ es.length) (hn2 : tagN y ≤ es.length) (hl1 : (suL es x).1.length ≤ 10000) (hl2 : (suL es y).1.length ≤ 10000) (hm1 : (suL es x).2.length ≤ 10000) (hm2 : (suL es y).2.length ≤ 10000)
    (R : Value → World → Prop)
    (htag : ∀ W vl vm, BX W base b m rv true full es → JS W W.heap.size vl (onceL (suL es x).1 (suL es y).1) → Sl W W.heap.size vm (xorL (suL es x).2 (suL es y).2) → Below w.heap.size w W →
      Calls Tryd.prog 31 #[tP b, .agg #[vl, vm]] W fun e W' => ∃ v, e = .returned v ∧ R v W' ∧ ∀ j, w.heap.size ≤ j → j < W.heap.size → W'.heap[j]? = W.heap[j]?) :
    Calls Tryd.prog 16 #[tP b, v1, v2] w fun e W' => ∃ v, e = .returned (.tuple #[v, .int .i64 0]) ∧ R v W' := by
  have H1 := Lib.hid h1
  have H2 := Lib.hid h2
  have HX := Lib.hid h
  have HI1 := Lib.hid (fun W (hW : BX W base b m rv true full es) (hv : Sl W w.heap.size v1 x) => isTag_any hW hv)
  have HI2 := Lib.hid (fun W (hW : BX W base b m rv true full es) (hv : Sl W w.heap.size v2 y) => isTag_any hW hv)
  rw [ht1] at HI1
  rw [ht2] at HI2
  have k0 := h.blk.at (o := 0) rfl
  clear h
  obtain ⟨A1, c1, rfl, _⟩ := h1
  obtain ⟨A2, c2, rfl, _⟩ := h2
  go_enter Tryd.func16, Tryd.ntmps16
  go_wp2_with fail
  refine (HI1.out _ HX.out H1.out).mono ?_
  rintro e Wa ⟨rfl, q1, hq1⟩
  have HBa := Lib.hid (show Below w.heap.size w Wa from by rw [hq1]; exact ⟨rfl, rfl, rfl, Nat.le_refl _, fun _ _ => rfl⟩)
  clear hq1
  have ka := (HX.out.below HBa.out).blk.at (o := 0) rfl
  go_wp2_with fail
  refine (HI2.out _ (HX.out.below HBa.out) (H2.out.below HBa.out (Nat.le_refl _))).mono ?_
  rintro e Wb ⟨rfl, q2, hq2⟩
  have HBb := Lib.hid (show Below w.heap.size w Wb from by rw [hq2]; exact ⟨HBa.out.os, HBa.out.tape, HBa.out.output, HBa.out.size, HBa.out.block⟩)
  clear hq2 ka k0
  have HXb := Lib.hid (HX.out.below HBb.out)
  have kb := HXb.out.blk.at (o := 0) rfl
  have HS1 := Lib.hid (sumOf_any HXb.out hT ((H1.out.below HBb.out (Nat.le_refl _)).more HBb.out.size) hn1)
  go_wp2_with fail
  refine HS1.out.mono ?_
  rintro e Wc ⟨vl1, vm1, rfl, hJ1, hM1, hBc⟩
  have HBc := Lib.hid (HBb.out.trans (hBc.mono HBb.out.size))
  have HXc := Lib.hid (HX.out.below HBc.out)
  have HJ1 := Lib.hid hJ1
  have HM1 := Lib.hid hM1
  clear hJ1 hM1 hBc kb
  have HS2 := Lib.hid (sumOf_any HXc.out hT ((H2.out.below HBc.out (Nat.le_refl _)).more HBc.out.size) hn2)
  go_wp2_with fail
  refine HS2.out.mono ?_
  rintro e Wd ⟨vl2, vm2, rfl, hJ2, hM2, hBd⟩
  have HBd := Lib.hid (HBc.out.trans (hBd.mono HBc.out.size))
  have HXd := Lib.hid (HX.out.below HBd.out)
  have HJ1d := Lib.hid ((HJ1.out.below hBd (Nat.le_refl _)).more hBd.size)
  have HM1d := Lib.hid ((HM1.out.below hBd (Nat.le_refl _)).more hBd.size)
  have HJ2 := Lib.hid hJ2
  have HM2 := Lib.hid hM2
  obtain ⟨A3, c3, rfl, _⟩ := HJ1.out
  obtain ⟨A4, c4, rfl, _⟩ := hJ2
  obtain ⟨A5, c5, rfl, _⟩ := HM1.out
  obtain ⟨A6, c6, rfl, _⟩ := hM2
  clear hBd
  go_wp2_with fail
  refine wp_region_noPanic ?_
  refine wp_region_held (S := fun W => (W.cell? ⟨Wd.heap.size, 0, none⟩ = some (.slice A3 (suL es x).1.length c3) ∧ W.cell? ⟨Wd.heap.size, 1, none⟩ = some (.slice A5 (suL es x).2.length c5)) ∧ W.cell? ⟨Wd.heap.size + 1, 0, none⟩ = some (.slice A4 (suL es y).1.length c4) ∧ W.cell? ⟨Wd.heap.size + 1, 1, none⟩ = some (.slice A6 (suL es y).2.length c6)) (by kernel_rfl) ?_
  obtain ⟨Wf, hWf⟩ : ∃ W, W = ((Wd.alloc (.cells #[.slice A3 (suL es x).1.length c3, .slice A5 (suL es x).2.length c5] 65)).alloc (.cells #[.slice A4 (suL es y).1.length c4, .slice A6 (suL es y).2.length c6] 65)).drew := ⟨_, rfl⟩
  change wpAnyH _ _ _ _ _ _ _ _ ((Wd.alloc (.cells #[.slice A3 (suL es x).1.length c3, .slice A5 (suL es x).2.length c5] 65)).alloc (.cells #[.slice A4 (suL es y).1.length c4, .slice A6 (suL es y).2.length c6] 65)).drew
  rw [← hWf]
  have HBf := Lib.hid (show Below Wd.heap.size Wd Wf from by rw [hWf]; exact (((Below.refl _ _).alloc (Nat.le_refl _) _).alloc (by simp) _).drew)
  have HK8 := Lib.hid (show Blk Wf Wd.heap.size [.slice A3 (suL es x).1.length c3, .slice A5 (suL es x).2.length c5] from by rw [hWf]; exact ((Blk.new Wd [.slice A3 (suL es x).1.length c3, .slice A5 (suL es x).2.length c5] _).alloc _).drew)
  have HK9 := Lib.hid (show Blk Wf (Wd.heap.size + 1) [.slice A4 (suL es y).1.length c4, .slice A6 (suL es y).2.length c6] from by rw [hWf]; exact (Blk.newAt (Wd.alloc (.cells #[.slice A3 (suL es x).1.length c3, .slice A5 (suL es x).2.length c5] 65)) _ _ (by simp) rfl).drew)
  clear hWf
  have hsd := HBd.out.size
  have hsf := HBf.out.size
  have HBwf := Lib.hid (HBd.out.trans (HBf.out.mono hsd))
  refine takeH 0 36 (tP b) rfl rfl (by kernel_rfl) (by kernel_rfl) (by kernel_rfl) (fun _ _ _ h => h) rfl (fun w' h => by obtain ⟨⟨h0, h1⟩, h2, h3⟩ := h; go_simp) ⟨⟨HK8.out.at (o := 0) rfl, HK8.out.at (o := 1) rfl⟩, HK9.out.at (o := 0) rfl, HK9.out.at (o := 1) rfl⟩ ?_
  go_frame
  refine takeH 1 37 (.pointer (some ⟨Wd.heap.size, 0, none⟩)) rfl rfl (by kernel_rfl) (by kernel_rfl) (by kernel_rfl) (fun _ _ _ h => h) rfl (fun w' h => by obtain ⟨⟨h0, h1⟩, h2, h3⟩ := h; go_simp) ⟨⟨HK8.out.at (o := 0) rfl, HK8.out.at (o := 1) rfl⟩, HK9.out.at (o := 0) rfl, HK9.out.at (o := 1) rfl⟩ ?_
  go_frame
  refine takeH 2 38 (.slice A3 (suL es x).1.length c3) rfl rfl (by kernel_rfl) (by kernel_rfl) (by kernel_rfl) (fun _ _ _ h => h) rfl (fun w' h => by obtain ⟨⟨h0, h1⟩, h2, h3⟩ := h; go_simp) ⟨⟨HK8.out.at (o := 0) rfl, HK8.out.at (o := 1) rfl⟩, HK9.out.at (o := 0) rfl, HK9.out.at (o := 1) rfl⟩ ?_
  go_frame
  refine takeH 3 39 (.pointer (some ⟨Wd.heap.size + 1, 0, none⟩)) rfl rfl (by kernel_rfl) (by kernel_rfl) (by kernel_rfl) (fun _ _ _ h => h) rfl (fun w' h => by obtain ⟨⟨h0, h1⟩, h2, h3⟩ := h; go_simp) ⟨⟨HK8.out.at (o := 0) rfl, HK8.out.at (o := 1) rfl⟩, HK9.out.at (o := 0) rfl, HK9.out.at (o := 1) rfl⟩ ?_
  go_frame
  refine takeH 4 40 (.slice A4 (suL es y).1.length c4) rfl rfl (by kernel_rfl) (by kernel_rfl) (by kernel_rfl) (fun _ _ _ h => h) rfl (fun w' h => by obtain ⟨⟨h0, h1⟩, h2, h3⟩ := h; go_simp) ⟨⟨HK8.out.at (o := 0) rfl, HK8.out.at (o := 1) rfl⟩, HK9.out.at (o := 0) rfl, HK9.out.at (o := 1) rfl⟩ ?_
  go_frame
  refine takeH 6 42 (.pointer (some ⟨Wd.heap.size, 1, none⟩)) rfl rfl (by kernel_rfl) (by kernel_rfl) (by kernel_rfl) (fun _ _ _ h => h) rfl (fun w' h => by obtain ⟨⟨h0, h1⟩, h2, h3⟩ := h; go_simp) ⟨⟨HK8.out.at (o := 0) rfl, HK8.out.at (o := 1) rfl⟩, HK9.out.at (o := 0) rfl, HK9.out.at (o := 1) rfl⟩ ?_
  go_frame
  refine takeH 7 43 (.slice A5 (suL es x).2.length c5) rfl rfl (by kernel_rfl) (by kernel_rfl) (by kernel_rfl) (fun _ _ _ h => h) rfl (fun w' h => by obtain ⟨⟨h0, h1⟩, h2, h3⟩ := h; go_simp) ⟨⟨HK8.out.at (o := 0) rfl, HK8.out.at (o := 1) rfl⟩, HK9.out.at (o := 0) rfl, HK9.out.at (o := 1) rfl⟩ ?_
  go_frame
  refine takeH 8 44 (.pointer (some ⟨Wd.heap.size + 1, 1, none⟩)) rfl rfl (by kernel_rfl) (by kernel_rfl) (by kernel_rfl) (fun _ _ _ h => h) rfl (fun w' h => by obtain ⟨⟨h0, h1⟩, h2, h3⟩ := h; go_simp) ⟨⟨HK8.out.at (o := 0) rfl, HK8.out.at (o := 1) rfl⟩, HK9.out.at (o := 0) rfl, HK9.out.at (o := 1) rfl⟩ ?_
  go_frame
  refine takeH 9 45 (.slice A6 (suL es y).2.length c6) rfl rfl (by kernel_rfl) (by kernel_rfl) (by kernel_rfl) (fun _ _ _ h => h) rfl (fun w' h => by obtain ⟨⟨h0, h1⟩, h2, h3⟩ := h; go_simp) ⟨⟨HK8.out.at (o := 0) rfl, HK8.out.at (o := 1) rfl⟩, HK9.out.at (o := 0) rfl, HK9.out.at (o := 1) rfl⟩ ?_
  go_frame
  refine wpAnyH_all (rs := [5]) (by kernel_rfl) (by simp) ?_
  simp only [List.mem_singleton, forall_eq]
  refine wpOp_callD 41 rfl rfl rfl 32 #[.slice A3 (suL es x).1.length c3, .slice A4 (suL es y).1.length c4] (by go_simp) ?_
  refine (once_any _ _ (suL es x).1 (suL es y).1 Wf ((HJ1d.out.below HBf.out (Nat.le_refl _)).more hsf) ((HJ2.out.below HBf.out (Nat.le_refl _)).more hsf) hl1 hl2).mono ?_
  rintro e Wg ⟨v3, rfl, hO3, hBg⟩
  have HO3 := Lib.hid hO3
  have HBg := Lib.hid hBg
  have hsg := hBg.size
  clear hO3 hBg
  have HK8g := Lib.hid (HK8.out.below HBg.out HK8.out.lt)
  have HK9g := Lib.hid (HK9.out.below HBg.out HK9.out.lt)
  refine ⟨_, rfl, ⟨⟨HK8g.out.at (o := 0) rfl, HK8g.out.at (o := 1) rfl⟩, HK9g.out.at (o := 0) rfl, HK9g.out.at (o := 1) rfl⟩, ?_⟩
  go_frame
  refine wpAnyH_all (rs := [10]) (by kernel_rfl) (by simp) ?_
  simp only [List.mem_singleton, forall_eq]
  refine wpOp_callD 46 rfl rfl rfl 29 #[.slice A5 (suL es x).2.length c5, .slice A6 (suL es y).2.length c6] (by go_simp) ?_
  refine (xor_any Wd.heap.size _ _ (suL es x).2 (suL es y).2 Wg ((HM1d.out.below HBf.out (Nat.le_refl _)).below HBg.out hsf) ((HM2.out.below HBf.out (Nat.le_refl _)).below HBg.out hsf) (by omega) hm1 hm2).mono ?_
  rintro e Wh ⟨v4, rfl, hO4, hBh⟩
  have HO3h := Lib.hid (HO3.out.below hBh)
  have HO4 := Lib.hid hO4
  have HBh := Lib.hid hBh
  have hsh := hBh.size
  clear hO4 hBh
  have HK8h := Lib.hid (HK8g.out.below HBh.out HK8g.out.lt)
  have HK9h := Lib.hid (HK9g.out.below HBh.out HK9g.out.lt)
  obtain ⟨A7, c7, rfl, _⟩ := HO3h.out.jIn
  obtain ⟨A8, c8, rfl, _⟩ := HO4.out.sl
  refine ⟨_, rfl, ⟨⟨HK8h.out.at (o := 0) rfl, HK8h.out.at (o := 1) rfl⟩, HK9h.out.at (o := 0) rfl, HK9h.out.at (o := 1) rfl⟩, ?_⟩
  go_frame
  refine takeH 11 47 (.agg #[.slice A7 (onceL (suL es x).1 (suL es y).1).length c7, .slice A8 (xorL (suL es x).2 (suL es y).2).length c8]) rfl rfl (by kernel_rfl) (by kernel_rfl) (by kernel_rfl) (fun _ _ _ h => h) rfl (fun w' h => by obtain ⟨⟨h0, h1⟩, h2, h3⟩ := h; go_simp) ⟨⟨HK8h.out.at (o := 0) rfl, HK8h.out.at (o := 1) rfl⟩, HK9h.out.at (o := 0) rfl, HK9h.out.at (o := 1) rfl⟩ ?_
  go_frame
  have HBwh := Lib.hid (HBwf.out.trans ((HBg.out.mono (by omega)).trans (HBh.out.mono (by omega))))
  refine wpAnyH_all (rs := [12]) (by kernel_rfl) (by simp) ?_
  simp only [List.mem_singleton, forall_eq]
  refine wpOp_callD 48 rfl rfl rfl 31 #[tP b, .agg #[.slice A7 (onceL (suL es x).1 (suL es y).1).length c7, .slice A8 (xorL (suL es x).2 (suL es y).2).length c8]] (by go_simp) ?_
  refine (htag Wh _ _ (HX.out.below HBwh.out) HO3h.out.js HO4.out.sl HBwh.out).mono ?_
  rintro e Wi ⟨v, rfl, hR, hblk⟩
  have HR := Lib.hid hR
  have l8 := HK8h.out.lt
  have l9 := HK9h.out.lt
  have HK8i := Lib.hid (show Blk Wi Wd.heap.size _ from by obtain ⟨t, h⟩ := HK8h.out; exact ⟨t, (hblk _ hsd l8).trans h⟩)
  have HK9i := Lib.hid (show Blk Wi (Wd.heap.size + 1) _ from by obtain ⟨t, h⟩ := HK9h.out; exact ⟨t, (hblk _ (by omega) l9).trans h⟩)
  clear hR hblk
  refine ⟨_, rfl, ⟨⟨HK8i.out.at (o := 0) rfl, HK8i.out.at (o := 1) rfl⟩, HK9i.out.at (o := 0) rfl, HK9i.out.at (o := 1) rfl⟩, ?_⟩
  go_frame
  refine takeH 13 6 (v) rfl rfl (by kernel_rfl) (by kernel_rfl) (by kernel_rfl) (fun _ _ _ h => h) rfl (fun w' h => by obtain ⟨⟨h0, h1⟩, h2, h3⟩ := h; go_simp) ⟨⟨HK8i.out.at (o := 0) rfl, HK8i.out.at (o := 1) rfl⟩, HK9i.out.at (o := 0) rfl, HK9i.out.at (o := 1) rfl⟩ ?_
  go_frame
  refine takeH 14 7 (.int .i64 0) rfl rfl (by kernel_rfl) (by kernel_rfl) (by kernel_rfl) (fun _ _ _ h => h) rfl (fun w' h => by obtain ⟨⟨h0, h1⟩, h2, h3⟩ := h; go_simp) ⟨⟨HK8i.out.at (o := 0) rfl, HK8i.out.at (o := 1) rfl⟩, HK9i.out.at (o := 0) rfl, HK9i.out.at (o := 1) rfl⟩ ?_
  go_frame
  refine wpAnyH_done (by kernel_rfl) ?_ _
  refine NoPanic.normal ?_
  go_wp2_with fail
  go_ret2
  exact ⟨_, rfl, HR.out⟩
end Go.Proofs.YtpfbpiegejbhkaaDoor
