/- (*Box).Turn of a symbolic box. The document's example of layer 5, as lists. A slice of one part of one byte, as the law's literals lay it. awake of the law of boxes. -/
import Derived.Test.YtlnjpmpddomjiaaGreatDoorGmBeXo
import Derived.Test.YtlnjpmpddomjiaaGreatDoorGmBeNew
set_option maxRecDepth 100000
namespace Go.Proofs.YtlnjpmpddomjiaaGreatDoor
open Go.RowKit
attribute [local go_sem] Oper.semAt_some
set_option maxHeartbeats 4000000 in
theorem turn_sym {w : World} {base b m : Nat} {rv v1 v2 : Value} {full : Bool} {es : List EnL} {x y : List UInt8} (h : BX w base b m rv true full es) (hT : OkT es) (h1 : Sl w w.heap.size v1 x) (h2 : Sl w w.heap.size v2 y)
    (ht1 : isTagL true es.length x = true) (ht2 : isTagL true es.length y = true) (hn1 : tagN x ≤ es.length) (hn2 : tagN y ≤ es.length) (hl1 : (suL es x).1.length ≤ 10000) (hl2 : (suL es y).1.length ≤ 10000) (hm1 : (suL es x).2.length ≤ 10000) (hm2 : (suL es y).2.length ≤ 10000)
    (R : Value → World → Prop)
    (htag : ∀ W vl vm, BX W base b m rv true full es → JS W W.heap.size vl (onceL (suL es x).1 (suL es y).1) → OwnB W w.heap.size vm (xorL (suL es x).2 (suL es y).2) → Below w.heap.size w W →
      Calls Tryz.prog 39 #[tP b, .agg #[vl, vm]] W fun e W' => ∃ v, e = .returned v ∧ R v W' ∧ ∀ j, w.heap.size ≤ j → j < W.heap.size → W'.heap[j]? = W.heap[j]?) :
    Calls Tryz.prog 17 #[tP b, v1, v2] w fun e W' => ∃ v, e = .returned (.tuple #[v, .int .i64 0]) ∧ R v W' := by
  have H1 := Lib.hid h1
  have H2 := Lib.hid h2
  have HX := Lib.hid h
  have HI1 := Lib.hid (fun W (hW : BX W base b m rv true full es) (hv : Sl W w.heap.size v1 x) => isTag_any hW hv)
  have HI2 := Lib.hid (fun W (hW : BX W base b m rv true full es) (hv : Sl W w.heap.size v2 y) => isTag_any hW hv)
  rw [ht1] at HI1
  rw [ht2] at HI2
  have k0 := h.blk.at (o := 0) rfl
  clear h
  obtain ⟨A1, c1, rfl, _⟩ := h1
  obtain ⟨A2, c2, rfl, _⟩ := h2
  go_enter Tryz.func17, Tryz.ntmps17
  go_wp2_with fail
  refine (HI1.out _ HX.out H1.out).mono ?_
  rintro e Wa ⟨rfl, q1, hq1⟩
  have HBa := Lib.hid (show Below w.heap.size w Wa from by rw [hq1]; exact ⟨rfl, rfl, rfl, Nat.le_refl _, fun _ _ => rfl⟩)
  clear hq1
  have ka := (HX.out.below HBa.out).blk.at (o := 0) rfl
  go_wp2_with fail
  refine (HI2.out _ (HX.out.below HBa.out) (H2.out.below HBa.out (Nat.le_refl _))).mono ?_
  rintro e Wb ⟨rfl, q2, hq2⟩
  have HBb := Lib.hid (show Below w.heap.size w Wb from by rw [hq2]; exact ⟨HBa.out.os, HBa.out.tape, HBa.out.output, HBa.out.size, HBa.out.block⟩)
  clear hq2 ka k0
  have HXb := Lib.hid (HX.out.below HBb.out)
  have kb := HXb.out.blk.at (o := 0) rfl
  have HS1 := Lib.hid (sumOf_any HXb.out hT ((H1.out.below HBb.out (Nat.le_refl _)).more HBb.out.size) hn1)
  go_wp2_with fail
  refine HS1.out.mono ?_
  rintro e Wc ⟨vl1, vm1, rfl, hJ1, hM1, hBc⟩
  have HBc := Lib.hid (HBb.out.trans (hBc.mono HBb.out.size))
  have HXc := Lib.hid (HX.out.below HBc.out)
  have HJ1 := Lib.hid hJ1
  have HM1 := Lib.hid hM1
  clear hJ1 hM1 hBc kb
  have HS2 := Lib.hid (sumOf_any HXc.out hT ((H2.out.below HBc.out (Nat.le_refl _)).more HBc.out.size) hn2)
  go_wp2_with fail
  refine HS2.out.mono ?_
  rintro e Wd ⟨vl2, vm2, rfl, hJ2, hM2, hBd⟩
  have HBd := Lib.hid (HBc.out.trans (hBd.mono HBc.out.size))
  have HXd := Lib.hid (HX.out.below HBd.out)
  have HJ1d := Lib.hid ((HJ1.out.below hBd (Nat.le_refl _)).more hBd.size)
  have HM1d := Lib.hid ((HM1.out.below hBd (Nat.le_refl _)).more hBd.size)
  have HJ2 := Lib.hid hJ2
  have HM2 := Lib.hid hM2
  obtain ⟨A3, c3, rfl, _⟩ := HJ1.out
  obtain ⟨A4, c4, rfl, _⟩ := hJ2
  obtain ⟨A5, c5, rfl, _⟩ := HM1.out
  obtain ⟨A6, c6, rfl, _⟩ := hM2
  clear hBd
  go_wp2_with fail
  refine wp_region_noPanic ?_
  refine wp_region_held (S := fun W => (W.cell? ⟨Wd.heap.size, 0, none⟩ = some (.slice A3 (suL es x).1.length c3) ∧ W.cell? ⟨Wd.heap.size, 1, none⟩ = some (.slice A5 (suL es x).2.length c5)) ∧ W.cell? ⟨Wd.heap.size + 1, 0, none⟩ = some (.slice A4 (suL es y).1.length c4) ∧ W.cell? ⟨Wd.heap.size + 1, 1, none⟩ = some (.slice A6 (suL es y).2.length c6)) (by kernel_rfl) ?_
  obtain ⟨Wf, hWf⟩ : ∃ W, W = ((Wd.alloc (.cells #[.slice A3 (suL es x).1.length c3, .slice A5 (suL es x).2.length c5] 82)).alloc (.cells #[.slice A4 (suL es y).1.length c4, .slice A6 (suL es y).2.length c6] 82)).drew := ⟨_, rfl⟩
  change wpAnyH _ _ _ _ _ _ _ _ ((Wd.alloc (.cells #[.slice A3 (suL es x).1.length c3, .slice A5 (suL es x).2.length c5] 82)).alloc (.cells #[.slice A4 (suL es y).1.length c4, .slice A6 (suL es y).2.length c6] 82)).drew
  rw [← hWf]
  have HBf := Lib.hid (show Below Wd.heap.size Wd Wf from by rw [hWf]; exact (((Below.refl _ _).alloc (Nat.le_refl _) _).alloc (by simp) _).drew)
  have HK8 := Lib.hid (show Blk Wf Wd.heap.size [.slice A3 (suL es x).1.length c3, .slice A5 (suL es x).2.length c5] from by rw [hWf]; exact ((Blk.new Wd [.slice A3 (suL es x).1.length c3, .slice A5 (suL es x).2.length c5] _).alloc _).drew)
  have HK9 := Lib.hid (show Blk Wf (Wd.heap.size + 1) [.slice A4 (suL es y).1.length c4, .slice A6 (suL es y).2.length c6] from by rw [hWf]; exact (Blk.newAt (Wd.alloc (.cells #[.slice A3 (suL es x).1.length c3, .slice A5 (suL es x).2.length c5] 82)) _ _ (by simp) rfl).drew)
  clear hWf
  have hsd := HBd.out.size
  have hsf := HBf.out.size
  have HBwf := Lib.hid (HBd.out.trans (HBf.out.mono hsd))
  refine takeH 0 36 (tP b) rfl rfl (by kernel_rfl) (by kernel_rfl) (by kernel_rfl) (fun _ _ _ h => h) rfl (fun w' h => by obtain ⟨⟨h0, h1⟩, h2, h3⟩ := h; go_simp) ⟨⟨HK8.out.at (o := 0) rfl, HK8.out.at (o := 1) rfl⟩, HK9.out.at (o := 0) rfl, HK9.out.at (o := 1) rfl⟩ ?_
  go_frame
  refine takeH 1 37 (.pointer (some ⟨Wd.heap.size, 0, none⟩)) rfl rfl (by kernel_rfl) (by kernel_rfl) (by kernel_rfl) (fun _ _ _ h => h) rfl (fun w' h => by obtain ⟨⟨h0, h1⟩, h2, h3⟩ := h; go_simp) ⟨⟨HK8.out.at (o := 0) rfl, HK8.out.at (o := 1) rfl⟩, HK9.out.at (o := 0) rfl, HK9.out.at (o := 1) rfl⟩ ?_
  go_frame
  refine takeH 2 38 (.slice A3 (suL es x).1.length c3) rfl rfl (by kernel_rfl) (by kernel_rfl) (by kernel_rfl) (fun _ _ _ h => h) rfl (fun w' h => by obtain ⟨⟨h0, h1⟩, h2, h3⟩ := h; go_simp) ⟨⟨HK8.out.at (o := 0) rfl, HK8.out.at (o := 1) rfl⟩, HK9.out.at (o := 0) rfl, HK9.out.at (o := 1) rfl⟩ ?_
  go_frame
  refine takeH 3 39 (.pointer (some ⟨Wd.heap.size + 1, 0, none⟩)) rfl rfl (by kernel_rfl) (by kernel_rfl) (by kernel_rfl) (fun _ _ _ h => h) rfl (fun w' h => by obtain ⟨⟨h0, h1⟩, h2, h3⟩ := h; go_simp) ⟨⟨HK8.out.at (o := 0) rfl, HK8.out.at (o := 1) rfl⟩, HK9.out.at (o := 0) rfl, HK9.out.at (o := 1) rfl⟩ ?_
  go_frame
  refine takeH 4 40 (.slice A4 (suL es y).1.length c4) rfl rfl (by kernel_rfl) (by kernel_rfl) (by kernel_rfl) (fun _ _ _ h => h) rfl (fun w' h => by obtain ⟨⟨h0, h1⟩, h2, h3⟩ := h; go_simp) ⟨⟨HK8.out.at (o := 0) rfl, HK8.out.at (o := 1) rfl⟩, HK9.out.at (o := 0) rfl, HK9.out.at (o := 1) rfl⟩ ?_
  go_frame
  refine takeH 6 42 (.pointer (some ⟨Wd.heap.size, 1, none⟩)) rfl rfl (by kernel_rfl) (by kernel_rfl) (by kernel_rfl) (fun _ _ _ h => h) rfl (fun w' h => by obtain ⟨⟨h0, h1⟩, h2, h3⟩ := h; go_simp) ⟨⟨HK8.out.at (o := 0) rfl, HK8.out.at (o := 1) rfl⟩, HK9.out.at (o := 0) rfl, HK9.out.at (o := 1) rfl⟩ ?_
  go_frame
  refine takeH 7 43 (.slice A5 (suL es x).2.length c5) rfl rfl (by kernel_rfl) (by kernel_rfl) (by kernel_rfl) (fun _ _ _ h => h) rfl (fun w' h => by obtain ⟨⟨h0, h1⟩, h2, h3⟩ := h; go_simp) ⟨⟨HK8.out.at (o := 0) rfl, HK8.out.at (o := 1) rfl⟩, HK9.out.at (o := 0) rfl, HK9.out.at (o := 1) rfl⟩ ?_
  go_frame
  refine takeH 8 44 (.pointer (some ⟨Wd.heap.size + 1, 1, none⟩)) rfl rfl (by kernel_rfl) (by kernel_rfl) (by kernel_rfl) (fun _ _ _ h => h) rfl (fun w' h => by obtain ⟨⟨h0, h1⟩, h2, h3⟩ := h; go_simp) ⟨⟨HK8.out.at (o := 0) rfl, HK8.out.at (o := 1) rfl⟩, HK9.out.at (o := 0) rfl, HK9.out.at (o := 1) rfl⟩ ?_
  go_frame
  refine takeH 9 45 (.slice A6 (suL es y).2.length c6) rfl rfl (by kernel_rfl) (by kernel_rfl) (by kernel_rfl) (fun _ _ _ h => h) rfl (fun w' h => by obtain ⟨⟨h0, h1⟩, h2, h3⟩ := h; go_simp) ⟨⟨HK8.out.at (o := 0) rfl, HK8.out.at (o := 1) rfl⟩, HK9.out.at (o := 0) rfl, HK9.out.at (o := 1) rfl⟩ ?_
  go_frame
  refine wpAnyH_all (rs := [5]) (by kernel_rfl) (by simp) ?_
  simp only [List.mem_singleton, forall_eq]
  refine wpOp_callD 41 rfl rfl rfl 40 #[.slice A3 (suL es x).1.length c3, .slice A4 (suL es y).1.length c4] (by go_simp) ?_
  refine (once_any _ _ (suL es x).1 (suL es y).1 Wf ((HJ1d.out.below HBf.out (Nat.le_refl _)).more hsf) ((HJ2.out.below HBf.out (Nat.le_refl _)).more hsf) hl1 hl2).mono ?_
  rintro e Wg ⟨v3, rfl, hO3, hBg⟩
  have HO3 := Lib.hid hO3
  have HBg := Lib.hid hBg
  have hsg := hBg.size
  clear hO3 hBg
  have HK8g := Lib.hid (HK8.out.below HBg.out HK8.out.lt)
  have HK9g := Lib.hid (HK9.out.below HBg.out HK9.out.lt)
  refine ⟨_, rfl, ⟨⟨HK8g.out.at (o := 0) rfl, HK8g.out.at (o := 1) rfl⟩, HK9g.out.at (o := 0) rfl, HK9g.out.at (o := 1) rfl⟩, ?_⟩
  go_frame
  refine wpAnyH_all (rs := [10]) (by kernel_rfl) (by simp) ?_
  simp only [List.mem_singleton, forall_eq]
  refine wpOp_callD 46 rfl rfl rfl 37 #[.slice A5 (suL es x).2.length c5, .slice A6 (suL es y).2.length c6] (by go_simp) ?_
  refine (xor_any Wd.heap.size _ _ (suL es x).2 (suL es y).2 Wg ((HM1d.out.below HBf.out (Nat.le_refl _)).below HBg.out hsf) ((HM2.out.below HBf.out (Nat.le_refl _)).below HBg.out hsf) (by omega) hm1 hm2).mono ?_
  rintro e Wh ⟨v4, rfl, hO4, hBh⟩
  have HO3h := Lib.hid (HO3.out.below hBh)
  have HO4 := Lib.hid hO4
  have HBh := Lib.hid hBh
  have hsh := hBh.size
  clear hO4 hBh
  have HK8h := Lib.hid (HK8g.out.below HBh.out HK8g.out.lt)
  have HK9h := Lib.hid (HK9g.out.below HBh.out HK9g.out.lt)
  obtain ⟨A7, c7, rfl, _⟩ := HO3h.out.jIn
  obtain ⟨A8, c8, rfl, _⟩ := HO4.out.sl
  refine ⟨_, rfl, ⟨⟨HK8h.out.at (o := 0) rfl, HK8h.out.at (o := 1) rfl⟩, HK9h.out.at (o := 0) rfl, HK9h.out.at (o := 1) rfl⟩, ?_⟩
  go_frame
  refine takeH 11 47 (.agg #[.slice A7 (onceL (suL es x).1 (suL es y).1).length c7, .slice A8 (xorL (suL es x).2 (suL es y).2).length c8]) rfl rfl (by kernel_rfl) (by kernel_rfl) (by kernel_rfl) (fun _ _ _ h => h) rfl (fun w' h => by obtain ⟨⟨h0, h1⟩, h2, h3⟩ := h; go_simp) ⟨⟨HK8h.out.at (o := 0) rfl, HK8h.out.at (o := 1) rfl⟩, HK9h.out.at (o := 0) rfl, HK9h.out.at (o := 1) rfl⟩ ?_
  go_frame
  have HBwh := Lib.hid (HBwf.out.trans ((HBg.out.mono (by omega)).trans (HBh.out.mono (by omega))))
  refine wpAnyH_all (rs := [12]) (by kernel_rfl) (by simp) ?_
  simp only [List.mem_singleton, forall_eq]
  refine wpOp_callD 48 rfl rfl rfl 39 #[tP b, .agg #[.slice A7 (onceL (suL es x).1 (suL es y).1).length c7, .slice A8 (xorL (suL es x).2 (suL es y).2).length c8]] (by go_simp) ?_
  refine (htag Wh _ _ (HX.out.below HBwh.out) HO3h.out.js (HO4.out.lower (by have h1 := HBwf.out.size; omega)) HBwh.out).mono ?_
  rintro e Wi ⟨v, rfl, hR, hblk⟩
  have HR := Lib.hid hR
  have l8 := HK8h.out.lt
  have l9 := HK9h.out.lt
  have HK8i := Lib.hid (show Blk Wi Wd.heap.size _ from by obtain ⟨t, h⟩ := HK8h.out; exact ⟨t, (hblk _ hsd l8).trans h⟩)
  have HK9i := Lib.hid (show Blk Wi (Wd.heap.size + 1) _ from by obtain ⟨t, h⟩ := HK9h.out; exact ⟨t, (hblk _ (by omega) l9).trans h⟩)
  clear hR hblk
  refine ⟨_, rfl, ⟨⟨HK8i.out.at (o := 0) rfl, HK8i.out.at (o := 1) rfl⟩, HK9i.out.at (o := 0) rfl, HK9i.out.at (o := 1) rfl⟩, ?_⟩
  go_frame
  refine takeH 13 6 (v) rfl rfl (by kernel_rfl) (by kernel_rfl) (by kernel_rfl) (fun _ _ _ h => h) rfl (fun w' h => by obtain ⟨⟨h0, h1⟩, h2, h3⟩ := h; go_simp) ⟨⟨HK8i.out.at (o := 0) rfl, HK8i.out.at (o := 1) rfl⟩, HK9i.out.at (o := 0) rfl, HK9i.out.at (o := 1) rfl⟩ ?_
  go_frame
  refine takeH 14 7 (.int .i64 0) rfl rfl (by kernel_rfl) (by kernel_rfl) (by kernel_rfl) (fun _ _ _ h => h) rfl (fun w' h => by obtain ⟨⟨h0, h1⟩, h2, h3⟩ := h; go_simp) ⟨⟨HK8i.out.at (o := 0) rfl, HK8i.out.at (o := 1) rfl⟩, HK9i.out.at (o := 0) rfl, HK9i.out.at (o := 1) rfl⟩ ?_
  go_frame
  refine wpAnyH_done (by kernel_rfl) ?_ _
  refine NoPanic.normal ?_
  go_wp2_with fail
  go_ret2
  exact ⟨_, rfl, HR.out⟩
end Go.Proofs.YtlnjpmpddomjiaaGreatDoor
set_option maxRecDepth 100000
namespace Go.Proofs.YtlnjpmpddomjiaaGreatDoor
open Go.RowKit
def es1 : List EnL := [hashE [97]]
def es2 : List EnL := [hashE [97], hashE [98]]
def es3 : List EnL := [hashE [97], hashE [98], turnE [1, 2] noughtsL]
theorem eg_tag1 : tagN (fro ++ len4 1) = 1 := by decide +kernel
theorem eg_tag2 : tagN (fro ++ len4 2) = 2 := by decide +kernel
theorem eg_tag3 : tagN (fro ++ len4 3) = 3 := by decide +kernel
theorem eg_h1 : tagE [] (hashE [97]) = fro ++ len4 1 ∧ esE [] (hashE [97]) = es1 ∧ fullE false [] (hashE [97]) = false := by
  refine ⟨?_, ?_, ?_⟩ <;> simp [tagE, esE, fullE, es1]
theorem eg_h2 : tagE es1 (hashE [98]) = fro ++ len4 2 ∧ esE es1 (hashE [98]) = es2 ∧ fullE false es1 (hashE [98]) = false := by
  refine ⟨?_, ?_, ?_⟩ <;> simp [tagE, esE, fullE, es1, es2, hashE]
theorem eg_t : tagE es2 (turnE [1, 2] noughtsL) = fro ++ len4 3 ∧ esE es2 (turnE [1, 2] noughtsL) = es3 ∧ fullE false es2 (turnE [1, 2] noughtsL) = false := by
  refine ⟨?_, ?_, ?_⟩ <;> simp [tagE, esE, fullE, es2, es3, hashE, turnE]
theorem eg_s1 : suL es2 (fro ++ len4 1) = ([1], noughtsL) := by unfold suL; rw [eg_tag1]; simp [es2, hashE]
theorem eg_s2 : suL es2 (fro ++ len4 2) = ([2], noughtsL) := by unfold suL; rw [eg_tag2]; simp [es2, hashE]
theorem eg_s3 : suL es3 (fro ++ len4 3) = ([1, 2], noughtsL) := by
  unfold suL; rw [eg_tag3]
  show (if (4 : Int) = 4 then (numsL ([1, 2].map len4).flatten, noughtsL) else _) = _
  rw [if_pos rfl, numsL_flat [1, 2] (by simp)]
theorem eg_s4 : suL es3 (fro ++ len4 1) = ([1], noughtsL) := by unfold suL; rw [eg_tag1]; simp [es3, hashE]
theorem eg_x : xorL noughtsL noughtsL = noughtsL := by decide
theorem eg_o1 : onceL [1] [2] = [1, 2] := by
  unfold onceL sortL
  rw [List.mergeSort_of_pairwise (by decide)]
  rfl
theorem eg_o2 : onceL [1, 2] [1] = [2] := by
  have h : sortL ([1, 2] ++ [1]) = [1, 1, 2] := by
    unfold sortL
    refine List.Perm.eq_of_pairwise (le := fun x y : Nat => decide (x ≤ y) = true) ?_ (List.pairwise_mergeSort (by simp; omega) (by simp; omega) _) (by decide) ((List.mergeSort_perm _ _).trans (by decide))
    intro a b _ _ h1 h2
    simp at h1 h2
    omega
  unfold onceL
  rw [h]
  rfl
theorem eg_k : OkT es2 ∧ OkT es3 := by
  constructor
  · intro e he hk
    simp only [es2, List.mem_cons, List.not_mem_nil, or_false] at he
    rcases he with rfl | rfl <;> simp [hashE] at hk
  · intro e he hk
    simp only [es3, List.mem_cons, List.not_mem_nil, or_false] at he
    rcases he with rfl | rfl | rfl
    · simp [hashE] at hk
    · simp [hashE] at hk
    · exact ⟨⟨[1, 2], rfl, by simp, by simp⟩, by decide⟩
theorem eg_i : isTagL true 2 (fro ++ len4 1) = true ∧ isTagL true 2 (fro ++ len4 2) = true ∧ isTagL true 3 (fro ++ len4 3) = true ∧ isTagL true 3 (fro ++ len4 1) = true := by
  decide +kernel
end Go.Proofs.YtlnjpmpddomjiaaGreatDoor
set_option maxRecDepth 100000
namespace Go.Proofs.YtlnjpmpddomjiaaGreatDoor
open Go.RowKit
attribute [local go_sem] Oper.semAt_some
theorem sls_one (W : World) (c : UInt8) (B : Nat) (hB : W.heap.size + 2 ≤ B) : Sls ((W.alloc (.cells #[vb c] 5 (1, 2))).alloc (.cells #[.slice (some ⟨W.heap.size, 0, none⟩) 1 1] 34)) B (.slice (some ⟨W.heap.size + 1, 0, none⟩) 1 1) [[c]] := by
  refine ⟨_, 1, rfl, by simp, by omega, fun _ => ⟨_, 0, rfl, by omega, fun j hj => ?_⟩⟩
  obtain rfl : j = 0 := by simpa using hj
  have h1 := (Blk.newAt (W.alloc (.cells #[vb c] 5 (1, 2))) #[.slice (some ⟨W.heap.size, 0, none⟩) 1 1] 34 (n := W.heap.size + 1) (by simp) rfl).at (o := 0) rfl
  refine ⟨_, h1, _, 1, rfl, (fun e => by cases e), by simp, by omega, fun _ => ⟨W.heap.size, 0, rfl, by omega, fun i hi => ?_⟩⟩
  obtain rfl : i = 0 := by simpa using hi
  have h2 : (W.alloc (.cells #[vb c] 5 (1, 2))).heap[W.heap.size]? = some (.cells #[vb c] 5 (1, 2)) := heap_alloc_new W _
  have h3 := (Below.refl (W.alloc (.cells #[vb c] 5 (1, 2))).heap.size (W.alloc (.cells #[vb c] 5 (1, 2)))).alloc (Nat.le_refl _) (.cells #[.slice (some ⟨W.heap.size, 0, none⟩) 1 1] 34)
  have h4 := (h3.block W.heap.size (by simp)).trans h2
  simp [World.cell?, h4]
/-- A tag told earlier stays while the Box is worked on. -/
theorem OwnB.trs {S : List Nat} {w w' : World} {base : Nat} {v : Value} {l : List UInt8} (h : OwnB w base v l) (ht : Trs S w w') (hk : ∀ k, v.ownBlock = some k → k ∉ S) : OwnB w' base v l := by
  refine ⟨h.1, ?_⟩
  rcases h.2 with hn | ⟨g, cap, cur, rfl, hb, hg, rest⟩
  · exact .inl hn
  · exact .inr ⟨g, cap, cur, rfl, hb, (ht.block g (Array.getElem?_eq_some_iff.1 hg).1 (hk g rfl)).trans hg, rest⟩
/-- Apart from the Box: its block is none of those that may turn. -/
def Apt (b m : Nat) (rv v : Value) : Prop := ∀ k, v.ownBlock = some k → k ≠ b ∧ k ≠ m ∧ rv.ownBlock ≠ some k
theorem Apt.not {b m : Nat} {rv v : Value} (h : Apt b m rv v) : ∀ k, v.ownBlock = some k → k ∉ bS b m rv := by
  intro k hk hm
  obtain ⟨h1, h2, h3⟩ := h k hk
  rcases mem_bS.1 hm with e | e | e
  · exact h1 e
  · exact h2 e
  · exact h3 e
/-- What a call on the Box tells is apart from it. -/
theorem EnR.apt {w w' : World} {b m : Nat} {rv' v : Value} {tag : List UInt8} (hb : b < w.heap.size) (hm : m < w.heap.size) (ho : OwnB w' w.heap.size v tag) (hne : v.ownBlock ≠ rv'.ownBlock) : Apt b m rv' v := by
  intro k hk
  have := (ho.lt k hk).1
  exact ⟨by omega, by omega, fun e => hne (by rw [hk, e])⟩
/-- An elder tag stays apart: the Box's row is the elder one, in its place, or new. -/
theorem Apt.on {w : World} {b m : Nat} {rv rv' v : Value} (h : Apt b m rv v) (hlt : ∀ k, v.ownBlock = some k → k < w.heap.size) (hr : rv' = rv ∨ rv'.ownBlock = rv.ownBlock ∨ ∃ k, rv'.ownBlock = some k ∧ w.heap.size ≤ k) : Apt b m rv' v := by
  intro k hk
  obtain ⟨h1, h2, h3⟩ := h k hk
  refine ⟨h1, h2, fun e => ?_⟩
  rcases hr with rfl | hr | ⟨j, hj, hjz⟩
  · exact h3 e
  · exact h3 (hr ▸ e)
  · rw [hj] at e
    have := hlt k hk
    have := Option.some.inj e
    omega
end Go.Proofs.YtlnjpmpddomjiaaGreatDoor
set_option maxRecDepth 100000
namespace Go.Proofs.YtlnjpmpddomjiaaGreatDoor
open Go.RowKit
attribute [local go_sem] Oper.semAt_some
set_option maxHeartbeats 8000000 in
theorem awake5 (w : World) : Calls Tryz.prog 7 #[] w fun e w' => e = .returned (.bool true) ∧ Below w.heap.size w w' := by
  go_enter Tryz.func7, Tryz.ntmps7
  go_wp2_with fail
  refine (new_box true w).mono ?_
  rintro e W1 ⟨b, m, rfl, hX1, hB1⟩
  have HX1 := Lib.hid hX1
  have HB1 := Lib.hid hB1
  have hz1 := hB1.size
  clear hX1 hB1
  have hcv := Lib.run_convert_bytes_const (P := Tryz.prog) W1 34 5 #[.int .u8 97] 1 1 Tryz.underlying34 Tryz.underlying5
  go_wp2_with fail
  clear hcv
  obtain ⟨W2, hW2⟩ : ∃ W, W = (W1.alloc (.cells #[.int .u8 97] 5 (1, 2))).alloc (.cells #[.slice (some ⟨W1.heap.size, 0, none⟩) 1 1] 34) := ⟨_, rfl⟩
  have hS2 : Sls W2 W2.heap.size (.slice (some ⟨W1.heap.size + 1, 0, none⟩) 1 1) [[97]] := by rw [hW2]; exact sls_one W1 97 _ (by simp)
  have HB2 := Lib.hid (show Below W1.heap.size W1 W2 from by rw [hW2]; exact ((Below.refl _ _).alloc (Nat.le_refl _) _).alloc (by simp) _)
  rw [← hW2]
  have hz2 := HB2.out.size
  clear hW2
  have HX2 := Lib.hid (HX1.out.below HB2.out)
  have hh := hash_any HX2.out hS2 (by simp) (by decide) (by omega)
  rw [show ([[97]] : List (List UInt8)).flatten = [97] from rfl, eg_h1.1, eg_h1.2.1, eg_h1.2.2] at hh
  have HH := Lib.hid hh
  clear hh hS2
  refine HH.out.mono ?_
  rintro e W3 ⟨vx, rv1, rfl, hO3, hX3, hT3, hr3, hne3⟩
  have HX3 := Lib.hid hX3
  have HOx3 := Lib.hid hO3
  have HL3 := Lib.hid (HX2.out.low hT3 (by omega))
  have HA3 := Lib.hid (EnR.apt (by have := HX2.out.blk.lt; omega) (by have := HX2.out.mp.lt; omega) hO3 hne3)
  have hz3 := hT3.size
  clear hO3 hX3 hT3 hr3 hne3 HH
  have hcv := Lib.run_convert_bytes_const (P := Tryz.prog) W3 34 5 #[.int .u8 98] 1 1 Tryz.underlying34 Tryz.underlying5
  go_wp2_with fail
  clear hcv
  obtain ⟨W4, hW4⟩ : ∃ W, W = (W3.alloc (.cells #[.int .u8 98] 5 (1, 2))).alloc (.cells #[.slice (some ⟨W3.heap.size, 0, none⟩) 1 1] 34) := ⟨_, rfl⟩
  have hS4 : Sls W4 W4.heap.size (.slice (some ⟨W3.heap.size + 1, 0, none⟩) 1 1) [[98]] := by rw [hW4]; exact sls_one W3 98 _ (by simp)
  have HB4 := Lib.hid (show Below W3.heap.size W3 W4 from by rw [hW4]; exact ((Below.refl _ _).alloc (Nat.le_refl _) _).alloc (by simp) _)
  rw [← hW4]
  have hz4 := HB4.out.size
  clear hW4
  have HX4 := Lib.hid (HX3.out.below HB4.out)
  have HOx4 := Lib.hid (HOx3.out.below HB4.out)
  have hh := hash_any HX4.out hS4 (by simp) (by decide) (by omega)
  rw [show ([[98]] : List (List UInt8)).flatten = [98] from rfl, eg_h2.1, eg_h2.2.1, eg_h2.2.2] at hh
  have HH := Lib.hid hh
  clear hh hS4
  refine HH.out.mono ?_
  rintro e W5 ⟨vy, rv2, rfl, hO5, hX5, hT5, hr5, hne5⟩
  have HX5 := Lib.hid hX5
  have HOy5 := Lib.hid hO5
  have HOx5 := Lib.hid (HOx4.out.trs hT5 HA3.out.not)
  have HL5 := Lib.hid (HX4.out.low hT5 (by omega))
  have HAx5 := Lib.hid (HA3.out.on (w := W4) (fun k hk => (HOx4.out.lt k hk).2) hr5)
  have HAy5 := Lib.hid (EnR.apt (by have := HX4.out.blk.lt; omega) (by have := HX4.out.mp.lt; omega) hO5 hne5)
  have hz5 := hT5.size
  clear hO5 hX5 hT5 hr5 hne5 HH
  have HT1 := Lib.hid (turn_sym (w := W5) (v1 := vx) (v2 := vy) HX5.out eg_k.1 HOx5.out.sl HOy5.out.sl eg_i.1 eg_i.2.1 (by rw [eg_tag1]; decide) (by rw [eg_tag2]; decide) (by rw [eg_s1]; decide) (by rw [eg_s2]; decide) (by rw [eg_s1]; decide) (by rw [eg_s2]; decide)
    (fun v W' => EnR W5 w.heap.size b m rv2 true (fro ++ len4 3) false es3 (.returned v) W') (by
      rw [eg_s1, eg_s2]
      intro W vl vm hX hJ hS hB
      rw [show onceL ([1], noughtsL).1 ([2], noughtsL).1 = [1, 2] from eg_o1] at hJ
      rw [show xorL ([1], noughtsL).2 ([2], noughtsL).2 = noughtsL from eg_x] at hS
      have hm := tagOf_many hX hJ hS.sl (by decide) (by decide) (by simp) (by decide) (by have := hB.size; omega)
      rw [eg_t.1, eg_t.2.1, eg_t.2.2] at hm
      refine hm.mono ?_
      rintro e W' hR
      have hl := hR.lift hB
      obtain ⟨v, rv', rfl, _, _, hT, _⟩ := hR
      refine ⟨v, rfl, hl, fun j hj1 hj2 => hT.block j hj2 (fun hm => ?_)⟩
      rcases mem_bS.1 hm with e | e | e
      · have := HX5.out.blk.lt; omega
      · have := HX5.out.mp.lt; omega
      · have := (World.ownsRow.lt HX5.out.row j e).2; omega))
  go_wp2_with fail
  refine HT1.out.mono ?_
  rintro e W6 ⟨vt, rfl, vt', rv3, hvt, hO6, hX6, hT6, hr6, hne6⟩
  injection hvt with hvt
  subst hvt
  have HX6 := Lib.hid hX6
  have HOt6 := Lib.hid hO6
  have HOx6 := Lib.hid (HOx5.out.trs hT6 HAx5.out.not)
  have HOy6 := Lib.hid (HOy5.out.trs hT6 HAy5.out.not)
  have HL6 := Lib.hid (HX5.out.low hT6 (by omega))
  have hz6 := hT6.size
  clear hO6 hX6 hT6 hr6 hne6 HT1
  have HT2 := Lib.hid (turn_sym (w := W6) (v1 := vt) (v2 := vx) HX6.out eg_k.2 HOt6.out.sl HOx6.out.sl eg_i.2.2.1 eg_i.2.2.2 (by rw [eg_tag3]; decide) (by rw [eg_tag1]; decide) (by rw [eg_s3]; decide) (by rw [eg_s4]; decide) (by rw [eg_s3]; decide) (by rw [eg_s4]; decide)
    (fun v W' => OwnB W' W6.heap.size v (fro ++ len4 2) ∧ Below W6.heap.size W6 W') (by
      rw [eg_s3, eg_s4]
      intro W vl vm hX hJ hS hB
      rw [show onceL ([1, 2], noughtsL).1 ([1], noughtsL).1 = [2] from eg_o2] at hJ
      rw [show xorL ([1, 2], noughtsL).2 ([1], noughtsL).2 = noughtsL from eg_x] at hS
      refine (tagOf_one hJ hS.sl (by decide)).mono ?_
      rintro e W' ⟨v, rfl, hO, hb⟩
      exact ⟨v, rfl, ⟨hO.lower hB.size, hB.trans (hb.mono hB.size)⟩, fun j hj1 hj2 => hb.block j hj2⟩))
  go_wp2_with fail
  refine HT2.out.mono ?_
  rintro e W7 ⟨vu, rfl, hOu, hB7⟩
  have HX7 := Lib.hid (HX6.out.below hB7)
  have HOt7 := Lib.hid (HOt6.out.below hB7)
  have HOy7 := Lib.hid (HOy6.out.below hB7)
  have HOu7 := Lib.hid hOu
  have HB7 := Lib.hid hB7
  have hz7 := hB7.size
  clear hOu hB7 HT2
  have hnn := number_all W7.heap.size vt _ W7 HOt7.out.sl
  rw [eg_tag3] at hnn
  have HNN := Lib.hid hnn
  clear hnn
  go_wp2_with fail
  refine HNN.out.mono ?_
  rintro e W8 ⟨rfl, q, hq⟩
  have HB8 := Lib.hid (show Below W7.heap.size W7 W8 from by rw [hq]; exact ⟨rfl, rfl, rfl, Nat.le_refl _, fun _ _ => rfl⟩)
  clear hq
  have HX8 := Lib.hid (HX7.out.below HB8.out)
  have HOy8 := Lib.hid (HOy7.out.below HB8.out)
  have HOu8 := Lib.hid (HOu7.out.below HB8.out)
  have HSM := Lib.hid (same_any _ _ vu vy _ _ W8 HOu8.out.sl HOy8.out.sl)
  have HLN := Lib.hid (blen_any HX8.out)
  have hdd : decide (0 < 3) = true := rfl
  rw [hdd]
  have HLOW := Lib.hid (show Below w.heap.size w W8 from HB1.out.trans ((HB2.out.mono hz1).trans (HL3.out.trans ((HB4.out.mono (by omega)).trans (HL5.out.trans (HL6.out.trans ((HB7.out.mono (by omega)).trans (HB8.out.mono (by omega)))))))))
  go_wp2_with fail
  refine HSM.out.mono ?_
  rintro e W9 ⟨rfl, rfl⟩
  rw [show ((fro ++ len4 2) == (fro ++ len4 2)) = true from by simp]
  go_wp2_with fail
  refine HLN.out.mono ?_
  rintro e W10 ⟨rfl, rfl⟩
  rw [show (es3.length : Int) = 3 from rfl]
  go_wp2_with fail
  go_ret
  exact ⟨rfl, HLOW.out⟩
end Go.Proofs.YtlnjpmpddomjiaaGreatDoor
