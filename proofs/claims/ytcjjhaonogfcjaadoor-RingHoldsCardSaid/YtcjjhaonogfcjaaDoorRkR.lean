/- ring: Rotate of a Ring over a plain box. (By mkrr17.py.) -/
import Derived.Test.YtcjjhaonogfcjaaDoorRkB
import Derived.Lib.ItoaLen
set_option maxRecDepth 100000
namespace Go.Proofs.YtcjjhaonogfcjaaDoor
open Go.RowKit
attribute [local go_sem] Oper.semAt_some
/-- What there is room for. -/
def keepN (room : Nat) (xs : List Nat) : List Nat := if room < xs.length then xs.drop 1 else xs
set_option maxHeartbeats 8000000 in
theorem rotate_any {w : World} {base r bx room last : Nat} {V MV : Value} {L : List KyL} {key : List UInt8} (h : RG w base r bx V MV room last L key) (hl : L.length ≤ 50) (hlast : last < 1000) :
    Calls Tryd.prog 10 #[.pointer (some ⟨r, 0, none⟩)] w fun e w' => e = .returned (.tuple #[.int .u64 ((last + 1 : Nat) : Int), .int .i64 0]) ∧
      ∃ V' L', RG w' base r bx V' MV room (last + 1) L' key ∧ L'.map KyL.n = keepN room (L.map KyL.n ++ [last + 1]) ∧ Trs (rgS r V) w w' ∧ (∀ k ∈ rgS r V', k ∈ rgS r V ∨ w.heap.size ≤ k) := by
  obtain ⟨N, hN⟩ : ∃ N, N = last + 1 := ⟨_, rfl⟩
  rw [← hN]
  have k3 : w.cell? ⟨r, 3, none⟩ = some (.int .u64 (last : Int)) := h.blk.at (o := 3) rfl
  have f3 := h.blk.free 3
  have hge : decide ((4294967296 : Int) ≤ (last : Int)) = false := decide_eq_false (by omega)
  have hge2 : ¬ (4294967296 : Int) ≤ (last : Int) := by omega
  have hwr : IntKind.u64.wrap ((last : Int) + 1) = (N : Int) := by rw [hN]; rw [IntWalk.u64_in _ (by omega)]; omega
  obtain ⟨h1, ht1⟩ := h.num N (by omega)
  obtain ⟨w1, hw1⟩ : ∃ w1, w1 = w.setCell ⟨r, 3, none⟩ (.int .u64 (N : Int)) := ⟨_, rfl⟩
  rw [← hw1] at h1 ht1
  have HL := Lib.hid hl
  have H1 := Lib.hid h1
  have HT1 := Lib.hid ht1
  have HNL := Lib.hid (show N ≤ 1000 from by omega)
  have k3' := h1.blk.at (o := 3) (v := .int .u64 (N : Int)) rfl
  clear h h1 ht1 hlast hl
  have HN := Lib.hid hN
  clear hN
  go_enter Tryd.func10, Tryd.ntmps10
  go_wp2_with fail
  rw [← hw1]
  clear hw1 k3 f3 hge hge2 hwr
  refine (fmtU_b N (by have := HNL.out; omega) w1 H1.out.pow).mono ?_
  rintro e w2 ⟨rfl, hb⟩
  have HD := Lib.hid (show (Lib.decDigits N).length ≤ 20 from by rw [Lib.decDigits_length]; exact Lib.nDigits_le20 N (by have := HNL.out; omega))
  generalize Lib.decDigits N = D at HD ⊢
  have H2 := Lib.hid (H1.out.below hb)
  have HT2 := Lib.hid (HT1.out.below hb)
  clear hb k3' H1 HT1
  have hcat : ByteArray.mk #[107, 101, 121, 32] ++ ByteArray.mk D.toArray = ByteArray.mk ([107, 101, 121, 32] ++ D).toArray := by
    apply ByteArray.ext
    simp
  obtain ⟨TX, hTX⟩ : ∃ TX, TX = [107, 101, 121, 32] ++ D := ⟨_, rfl⟩
  have HTX := Lib.hid (show TX.length ≤ 24 from by rw [hTX]; simp; have := HD.out; omega)
  rw [← hTX] at hcat
  clear hTX
  have hdl := HD.out
  have hdl2 : (4 : Int) + (D.length : Int) ≤ 9223372036854775807 := by omega
  go_wp2_with fail
  refine wp_region_noPanic ?_
  refine wp_region_held (S := fun W' => W'.cell? ⟨r, 3, none⟩ = some (.int .u64 (N : Int)) ∧ W'.cell? ⟨r, 0, none⟩ = some (.pointer (some ⟨bx, 0, none⟩)) ∧ W'.cell? ⟨r, 1, none⟩ = some MV) (by kernel_rfl) ?_
  change wpAnyH _ _ _ _ _ _ _ _ (World.drew _)
  obtain ⟨X0, hX0⟩ : ∃ X, X = World.drew w2 := ⟨_, rfl⟩
  have H3 := Lib.hid (show RG X0 base r bx V MV room N L key from by rw [hX0]; exact H2.out.below (Below.refl _ _).drew)
  have HT3 := Lib.hid (show Trs (rgS r V) w X0 from by rw [hX0]; exact HT2.out.drew)
  rw [← hX0]
  clear hX0 H2 HT2 hcat
  have HSX := Lib.hid (fun (W' : World) (hb : Below X0.heap.size X0 W') => (show W'.cell? ⟨r, 3, none⟩ = some (.int .u64 (N : Int)) ∧ W'.cell? ⟨r, 0, none⟩ = some (.pointer (some ⟨bx, 0, none⟩)) ∧ W'.cell? ⟨r, 1, none⟩ = some MV from ⟨(H3.out.below hb).blk.at (o := 3) rfl, (H3.out.below hb).blk.at (o := 0) rfl, (H3.out.below hb).blk.at (o := 1) rfl⟩))
  have HB0 := Lib.hid (Below.refl X0.heap.size X0)
  have HX := Lib.hid (HSX.out X0 HB0.out)
  refine takeH 0 25 (.pointer (some ⟨r, 0, none⟩)) rfl rfl (by kernel_rfl) (by kernel_rfl) (by kernel_rfl) (fun _ _ _ h => h) rfl (fun w' h => by obtain ⟨h1, h2, h3⟩ := h; go_simp) HX.out ?_
  go_frame
  refine takeH 1 26 (.pointer (some ⟨r, 0, none⟩)) rfl rfl (by kernel_rfl) (by kernel_rfl) (by kernel_rfl) (fun _ _ _ h => h) rfl (fun w' h => by obtain ⟨h1, h2, h3⟩ := h; go_simp) HX.out ?_
  go_frame
  refine takeH 2 27 (.pointer (some ⟨r, 0, none⟩)) rfl rfl (by kernel_rfl) (by kernel_rfl) (by kernel_rfl) (fun _ _ _ h => h) rfl (fun w' h => by obtain ⟨h1, h2, h3⟩ := h; go_simp) HX.out ?_
  go_frame
  refine takeH 3 28 (.pointer (some ⟨r, 4, none⟩)) rfl rfl (by kernel_rfl) (by kernel_rfl) (by kernel_rfl) (fun _ _ _ h => h) rfl (fun w' h => by obtain ⟨h1, h2, h3⟩ := h; go_simp) HX.out ?_
  go_frame
  refine takeH 5 30 (.pointer (some ⟨r, 0, none⟩)) rfl rfl (by kernel_rfl) (by kernel_rfl) (by kernel_rfl) (fun _ _ _ h => h) rfl (fun w' h => by obtain ⟨h1, h2, h3⟩ := h; go_simp) HX.out ?_
  go_frame
  refine takeH 6 31 (.pointer (some ⟨r, 0, none⟩)) rfl rfl (by kernel_rfl) (by kernel_rfl) (by kernel_rfl) (fun _ _ _ h => h) rfl (fun w' h => by obtain ⟨h1, h2, h3⟩ := h; go_simp) HX.out ?_
  go_frame
  refine takeH 7 32 (.pointer (some ⟨r, 3, none⟩)) rfl rfl (by kernel_rfl) (by kernel_rfl) (by kernel_rfl) (fun _ _ _ h => h) rfl (fun w' h => by obtain ⟨h1, h2, h3⟩ := h; go_simp) HX.out ?_
  go_frame
  refine takeH 8 33 (.int .u64 (N : Int)) rfl rfl (by kernel_rfl) (by kernel_rfl) (by kernel_rfl) (fun _ _ _ h => h) rfl (fun w' h => by obtain ⟨h1, h2, h3⟩ := h; go_simp) HX.out ?_
  go_frame
  refine takeH 9 34 (.pointer (some ⟨r, 0, none⟩)) rfl rfl (by kernel_rfl) (by kernel_rfl) (by kernel_rfl) (fun _ _ _ h => h) rfl (fun w' h => by obtain ⟨h1, h2, h3⟩ := h; go_simp) HX.out ?_
  go_frame
  refine takeH 10 35 (.pointer (some ⟨r, 0, none⟩)) rfl rfl (by kernel_rfl) (by kernel_rfl) (by kernel_rfl) (fun _ _ _ h => h) rfl (fun w' h => by obtain ⟨h1, h2, h3⟩ := h; go_simp) HX.out ?_
  go_frame
  refine takeH 11 36 (.pointer (some ⟨r, 0, none⟩)) rfl rfl (by kernel_rfl) (by kernel_rfl) (by kernel_rfl) (fun _ _ _ h => h) rfl (fun w' h => by obtain ⟨h1, h2, h3⟩ := h; go_simp) HX.out ?_
  go_frame
  refine takeH 12 37 (.pointer (some ⟨bx, 0, none⟩)) rfl rfl (by kernel_rfl) (by kernel_rfl) (by kernel_rfl) (fun _ _ _ h => h) rfl (fun w' h => by obtain ⟨h1, h2, h3⟩ := h; go_simp) HX.out ?_
  go_frame
  refine takeH 13 38 (.pointer (some ⟨r, 0, none⟩)) rfl rfl (by kernel_rfl) (by kernel_rfl) (by kernel_rfl) (fun _ _ _ h => h) rfl (fun w' h => by obtain ⟨h1, h2, h3⟩ := h; go_simp) HX.out ?_
  go_frame
  refine takeH 14 39 (.pointer (some ⟨r, 0, none⟩)) rfl rfl (by kernel_rfl) (by kernel_rfl) (by kernel_rfl) (fun _ _ _ h => h) rfl (fun w' h => by obtain ⟨h1, h2, h3⟩ := h; go_simp) HX.out ?_
  go_frame
  refine takeH 15 40 (.pointer (some ⟨r, 1, none⟩)) rfl rfl (by kernel_rfl) (by kernel_rfl) (by kernel_rfl) (fun _ _ _ h => h) rfl (fun w' h => by obtain ⟨h1, h2, h3⟩ := h; go_simp) HX.out ?_
  go_frame
  refine takeH 16 41 (MV) rfl rfl (by kernel_rfl) (by kernel_rfl) (by kernel_rfl) (fun _ _ _ h => h) rfl (fun w' h => by obtain ⟨h1, h2, h3⟩ := h; go_simp) HX.out ?_
  go_frame
  refine takeH 17 42 (str TX) rfl rfl (by kernel_rfl) (by kernel_rfl) (by kernel_rfl) (fun _ _ _ h => h) rfl (fun w' h => by obtain ⟨h1, h2, h3⟩ := h; go_simp) HX.out ?_
  go_frame
  refine wpAnyH_all (rs := [4, 18]) (by kernel_rfl) (by simp) ?_
  simp only [List.mem_cons, List.not_mem_nil, or_false, forall_eq_or_imp, forall_eq]
  refine ⟨?_, ?_⟩
  have c4 : X0.cell? ⟨r, 4, none⟩ = some V := (H3.out.below HB0.out).blk.at (o := 4) rfl
  refine wpOp_valueD 29 rfl rfl rfl V (by go_simp) ⟨HSX.out X0 HB0.out, ?_⟩
  go_frame
  clear c4
  refine wpAnyH_all (rs := [18]) (by kernel_rfl) (by simp) ?_
  simp only [List.mem_singleton, forall_eq]
  obtain ⟨vT, X1, hcv, hb1, hsT⟩ := conv_tx TX X0 (by have := HTX.out; omega)
  have HB1 := Lib.hid hb1
  have HST := Lib.hid hsT
  obtain ⟨AT, cT, rfl, -⟩ := id hsT
  refine wpOp_valueX 43 rfl rfl rfl (.slice AT TX.length cT) X1 (by go_simp) ⟨HSX.out X1 hb1, ?_⟩
  go_frame
  clear hcv hb1 hsT
  refine wpAnyH_all (rs := [19]) (by kernel_rfl) (by simp) ?_
  simp only [List.mem_singleton, forall_eq]
  obtain ⟨X2, hX2⟩ : ∃ X, X = X1.alloc (.cells #[.slice AT TX.length cT] 22) := ⟨_, rfl⟩
  have hb12 : Below X1.heap.size X1 X2 := by rw [hX2]; exact (Below.refl _ _).alloc (Nat.le_refl _) _
  have HB2 := Lib.hid (HB1.out.trans (hb12.mono HB1.out.size))
  have HSLS := Lib.hid (show Sls X2 X2.heap.size (.slice (some ⟨X1.heap.size, 0, none⟩) 1 1) [TX] from by rw [hX2, World.size_alloc]; exact Sls.one X1 TX (.slice AT TX.length cT) _ HST.out)
  refine wpOp_valueX 44 rfl rfl rfl (.slice (some ⟨X1.heap.size, 0, none⟩) 1 1) X2 (by rw [hX2]; go_simp) ⟨HSX.out X2 HB2.out, ?_⟩
  go_frame
  clear hX2 hb12
  refine wpAnyH_all (rs := [20]) (by kernel_rfl) (by simp) ?_
  simp only [List.mem_singleton, forall_eq]
  obtain ⟨bcs, hbcs⟩ := (H3.out.below HB2.out).box
  refine wpOp_callD 45 rfl rfl rfl 15 #[.pointer (some ⟨bx, 0, none⟩), MV, .slice (some ⟨X1.heap.size, 0, none⟩) 1 1] (by go_simp) ?_
  refine (mac_plain bx bcs MV _ key [TX] X2 hbcs (H3.out.below HB2.out).mst.sl (by have := H3.out.kl; omega) HSLS.out (fun l hl => by rw [List.mem_singleton] at hl; rw [hl]; have := HTX.out; omega) (H3.out.below HB2.out).tab).mono ?_
  rintro e X3 ⟨vM, rfl, hOM, hb23⟩
  obtain ⟨AM, cM, hvM, -⟩ := hOM.sl
  generalize (hm key [TX].flatten).length = mM at hvM
  subst hvM
  have HB3 := Lib.hid (HB2.out.trans (hb23.mono HB2.out.size))
  refine ⟨_, rfl, HSX.out X3 HB3.out, ?_⟩
  go_frame
  clear hOM hb23 hbcs HX
  have HX := Lib.hid (HSX.out X3 HB3.out)
  refine takeH 21 46 (.agg #[.int .u64 (N : Int), .slice AM mM cM]) rfl rfl (by kernel_rfl) (by kernel_rfl) (by kernel_rfl) (fun _ _ _ h => h) rfl (fun w' h => by obtain ⟨h1, h2, h3⟩ := h; go_simp) HX.out ?_
  go_frame
  refine wpAnyH_all (rs := [22]) (by kernel_rfl) (by simp) ?_
  simp only [List.mem_singleton, forall_eq]
  obtain ⟨X4, hX4⟩ : ∃ X, X = X3.alloc (.cells #[.int .u64 (N : Int), .slice AM mM cM] 55) := ⟨_, rfl⟩
  have hb34 : Below X3.heap.size X3 X4 := by rw [hX4]; exact (Below.refl _ _).alloc (Nat.le_refl _) _
  have HB4 := Lib.hid (HB3.out.trans (hb34.mono HB3.out.size))
  obtain ⟨q, hq⟩ : ∃ q : KyL, q = ⟨N, AM, mM, cM⟩ := ⟨_, rfl⟩
  have HQN := Lib.hid (show q.n = N from by rw [hq])
  have HN4 := Lib.hid (show X4.heap[X3.heap.size]? = some (.cells q.cells.toArray tKy (0, 0)) from by rw [hX4, hq]; exact heap_alloc_new X3 _)
  refine wpOp_valueX 47 rfl rfl rfl (.slice (some ⟨X3.heap.size, 0, none⟩) 1 1) X4 (by rw [hX4]; go_simp) ⟨HSX.out X4 HB4.out, ?_⟩
  go_frame
  clear hX4 hb34 hq
  refine wpAnyH_all (rs := [23]) (by kernel_rfl) (by simp) ?_
  simp only [List.mem_singleton, forall_eq]
  refine wpOp_appKy kyT 48 rfl rfl rfl (.tmp 29) (.tmp 47) rfl base V L rfl (H3.out.below HB4.out).own X3.heap.size q rfl HN4.out (by have := HL.out; omega) (H3.out.below HB4.out).size ?_
  intro g cap w5 hO hg ho
  obtain ⟨h5, ht5, hv5⟩ := H3.out.push q (by have := HL.out; omega) HB4.out hO hg (by rcases ho with e | e; exact .inl e.symm; exact .inr (by rw [e]; rfl))
  have H5 := Lib.hid h5
  have HT5 := Lib.hid (HT3.out.trans ht5)
  have HV5 := Lib.hid hv5
  have hkk := (H3.out.below HB4.out).blk.grown hg (fun e => H3.out.apv.1 e.symm)
  have c5 : w5.cell? ⟨r, 4, none⟩ = some V := hkk.at (o := 4) rfl
  have f5 : w5.frozen? ⟨r, 4, none⟩ = false := hkk.free _
  clear HX
  have HX := Lib.hid (show w5.cell? ⟨r, 3, none⟩ = some (.int .u64 (N : Int)) ∧ w5.cell? ⟨r, 0, none⟩ = some (.pointer (some ⟨bx, 0, none⟩)) ∧ w5.cell? ⟨r, 1, none⟩ = some MV from ⟨hkk.at (o := 3) rfl, hkk.at (o := 0) rfl, hkk.at (o := 1) rfl⟩)
  refine ⟨HX.out, ?_⟩
  go_frame
  refine takeH 24 49 (.pointer (some ⟨r, 0, none⟩)) rfl rfl (by kernel_rfl) (by kernel_rfl) (by kernel_rfl) (fun _ _ _ h => h) rfl (fun w' h => by obtain ⟨h1, h2, h3⟩ := h; go_simp) HX.out ?_
  go_frame
  refine takeH 25 50 (.pointer (some ⟨r, 4, none⟩)) rfl rfl (by kernel_rfl) (by kernel_rfl) (by kernel_rfl) (fun _ _ _ h => h) rfl (fun w' h => by obtain ⟨h1, h2, h3⟩ := h; go_simp) HX.out ?_
  go_frame
  refine wpAnyH_all (rs := [26]) (by kernel_rfl) (by simp) ?_
  simp only [List.mem_singleton, forall_eq]
  refine wpOp_storeV rfl rfl rfl (w' := w5.setCell ⟨r, 4, none⟩ (.slice (some ⟨g, 0, none⟩) (L.length + 1) cap)) (by go_simp) ?_
  refine ⟨⟨h5.blk.at (o := 3) rfl, h5.blk.at (o := 0) rfl, h5.blk.at (o := 1) rfl⟩, ?_⟩
  refine wpAnyH_done (by kernel_rfl) ?_ _
  refine NoPanic.normal ?_
  obtain ⟨w6, hw6⟩ : ∃ w6, w6 = w5.setCell ⟨r, 4, none⟩ (.slice (some ⟨g, 0, none⟩) (L.length + 1) cap) := ⟨_, rfl⟩
  rw [← hw6] at H5 HT5 ⊢
  have HZ := Lib.hid HT3.out.size
  clear HX h5 ht5 hv5 hkk c5 f5 hO hg ho hw6 HN4 HSLS HST HSX H3 HT3 HB0 HB1 HB2 HB3 HB4
  rotate_left
  obtain ⟨vT, X1, hcv, hb1, hsT⟩ := conv_tx TX X0 (by have := HTX.out; omega)
  have HB1 := Lib.hid hb1
  have HST := Lib.hid hsT
  obtain ⟨AT, cT, rfl, -⟩ := id hsT
  refine wpOp_valueX 43 rfl rfl rfl (.slice AT TX.length cT) X1 (by go_simp) ⟨HSX.out X1 hb1, ?_⟩
  go_frame
  clear hcv hb1 hsT
  refine wpAnyH_all (rs := [4, 19]) (by kernel_rfl) (by simp) ?_
  simp only [List.mem_cons, List.not_mem_nil, or_false, forall_eq_or_imp, forall_eq]
  refine ⟨?_, ?_⟩
  have c4 : X1.cell? ⟨r, 4, none⟩ = some V := (H3.out.below HB1.out).blk.at (o := 4) rfl
  refine wpOp_valueD 29 rfl rfl rfl V (by go_simp) ⟨HSX.out X1 HB1.out, ?_⟩
  go_frame
  clear c4
  refine wpAnyH_all (rs := [19]) (by kernel_rfl) (by simp) ?_
  simp only [List.mem_singleton, forall_eq]
  obtain ⟨X2, hX2⟩ : ∃ X, X = X1.alloc (.cells #[.slice AT TX.length cT] 22) := ⟨_, rfl⟩
  have hb12 : Below X1.heap.size X1 X2 := by rw [hX2]; exact (Below.refl _ _).alloc (Nat.le_refl _) _
  have HB2 := Lib.hid (HB1.out.trans (hb12.mono HB1.out.size))
  have HSLS := Lib.hid (show Sls X2 X2.heap.size (.slice (some ⟨X1.heap.size, 0, none⟩) 1 1) [TX] from by rw [hX2, World.size_alloc]; exact Sls.one X1 TX (.slice AT TX.length cT) _ HST.out)
  refine wpOp_valueX 44 rfl rfl rfl (.slice (some ⟨X1.heap.size, 0, none⟩) 1 1) X2 (by rw [hX2]; go_simp) ⟨HSX.out X2 HB2.out, ?_⟩
  go_frame
  clear hX2 hb12
  refine wpAnyH_all (rs := [20]) (by kernel_rfl) (by simp) ?_
  simp only [List.mem_singleton, forall_eq]
  obtain ⟨bcs, hbcs⟩ := (H3.out.below HB2.out).box
  refine wpOp_callD 45 rfl rfl rfl 15 #[.pointer (some ⟨bx, 0, none⟩), MV, .slice (some ⟨X1.heap.size, 0, none⟩) 1 1] (by go_simp) ?_
  refine (mac_plain bx bcs MV _ key [TX] X2 hbcs (H3.out.below HB2.out).mst.sl (by have := H3.out.kl; omega) HSLS.out (fun l hl => by rw [List.mem_singleton] at hl; rw [hl]; have := HTX.out; omega) (H3.out.below HB2.out).tab).mono ?_
  rintro e X3 ⟨vM, rfl, hOM, hb23⟩
  obtain ⟨AM, cM, hvM, -⟩ := hOM.sl
  generalize (hm key [TX].flatten).length = mM at hvM
  subst hvM
  have HB3 := Lib.hid (HB2.out.trans (hb23.mono HB2.out.size))
  refine ⟨_, rfl, HSX.out X3 HB3.out, ?_⟩
  go_frame
  clear hOM hb23 hbcs HX
  have HX := Lib.hid (HSX.out X3 HB3.out)
  refine takeH 21 46 (.agg #[.int .u64 (N : Int), .slice AM mM cM]) rfl rfl (by kernel_rfl) (by kernel_rfl) (by kernel_rfl) (fun _ _ _ h => h) rfl (fun w' h => by obtain ⟨h1, h2, h3⟩ := h; go_simp) HX.out ?_
  go_frame
  refine wpAnyH_all (rs := [22]) (by kernel_rfl) (by simp) ?_
  simp only [List.mem_singleton, forall_eq]
  obtain ⟨X4, hX4⟩ : ∃ X, X = X3.alloc (.cells #[.int .u64 (N : Int), .slice AM mM cM] 55) := ⟨_, rfl⟩
  have hb34 : Below X3.heap.size X3 X4 := by rw [hX4]; exact (Below.refl _ _).alloc (Nat.le_refl _) _
  have HB4 := Lib.hid (HB3.out.trans (hb34.mono HB3.out.size))
  obtain ⟨q, hq⟩ : ∃ q : KyL, q = ⟨N, AM, mM, cM⟩ := ⟨_, rfl⟩
  have HQN := Lib.hid (show q.n = N from by rw [hq])
  have HN4 := Lib.hid (show X4.heap[X3.heap.size]? = some (.cells q.cells.toArray tKy (0, 0)) from by rw [hX4, hq]; exact heap_alloc_new X3 _)
  refine wpOp_valueX 47 rfl rfl rfl (.slice (some ⟨X3.heap.size, 0, none⟩) 1 1) X4 (by rw [hX4]; go_simp) ⟨HSX.out X4 HB4.out, ?_⟩
  go_frame
  clear hX4 hb34 hq
  refine wpAnyH_all (rs := [23]) (by kernel_rfl) (by simp) ?_
  simp only [List.mem_singleton, forall_eq]
  refine wpOp_appKy kyT 48 rfl rfl rfl (.tmp 29) (.tmp 47) rfl base V L rfl (H3.out.below HB4.out).own X3.heap.size q rfl HN4.out (by have := HL.out; omega) (H3.out.below HB4.out).size ?_
  intro g cap w5 hO hg ho
  obtain ⟨h5, ht5, hv5⟩ := H3.out.push q (by have := HL.out; omega) HB4.out hO hg (by rcases ho with e | e; exact .inl e.symm; exact .inr (by rw [e]; rfl))
  have H5 := Lib.hid h5
  have HT5 := Lib.hid (HT3.out.trans ht5)
  have HV5 := Lib.hid hv5
  have hkk := (H3.out.below HB4.out).blk.grown hg (fun e => H3.out.apv.1 e.symm)
  have c5 : w5.cell? ⟨r, 4, none⟩ = some V := hkk.at (o := 4) rfl
  have f5 : w5.frozen? ⟨r, 4, none⟩ = false := hkk.free _
  clear HX
  have HX := Lib.hid (show w5.cell? ⟨r, 3, none⟩ = some (.int .u64 (N : Int)) ∧ w5.cell? ⟨r, 0, none⟩ = some (.pointer (some ⟨bx, 0, none⟩)) ∧ w5.cell? ⟨r, 1, none⟩ = some MV from ⟨hkk.at (o := 3) rfl, hkk.at (o := 0) rfl, hkk.at (o := 1) rfl⟩)
  refine ⟨HX.out, ?_⟩
  go_frame
  refine takeH 24 49 (.pointer (some ⟨r, 0, none⟩)) rfl rfl (by kernel_rfl) (by kernel_rfl) (by kernel_rfl) (fun _ _ _ h => h) rfl (fun w' h => by obtain ⟨h1, h2, h3⟩ := h; go_simp) HX.out ?_
  go_frame
  refine takeH 25 50 (.pointer (some ⟨r, 4, none⟩)) rfl rfl (by kernel_rfl) (by kernel_rfl) (by kernel_rfl) (fun _ _ _ h => h) rfl (fun w' h => by obtain ⟨h1, h2, h3⟩ := h; go_simp) HX.out ?_
  go_frame
  refine wpAnyH_all (rs := [26]) (by kernel_rfl) (by simp) ?_
  simp only [List.mem_singleton, forall_eq]
  refine wpOp_storeV rfl rfl rfl (w' := w5.setCell ⟨r, 4, none⟩ (.slice (some ⟨g, 0, none⟩) (L.length + 1) cap)) (by go_simp) ?_
  refine ⟨⟨h5.blk.at (o := 3) rfl, h5.blk.at (o := 0) rfl, h5.blk.at (o := 1) rfl⟩, ?_⟩
  refine wpAnyH_done (by kernel_rfl) ?_ _
  refine NoPanic.normal ?_
  obtain ⟨w6, hw6⟩ : ∃ w6, w6 = w5.setCell ⟨r, 4, none⟩ (.slice (some ⟨g, 0, none⟩) (L.length + 1) cap) := ⟨_, rfl⟩
  rw [← hw6] at H5 HT5 ⊢
  have HZ := Lib.hid HT3.out.size
  clear HX h5 ht5 hv5 hkk c5 f5 hO hg ho hw6 HN4 HSLS HST HSX H3 HT3 HB0 HB1 HB2 HB3 HB4
  rotate_left
  obtain ⟨X2, hX2⟩ : ∃ X, X = X1.alloc (.cells #[.slice AT TX.length cT] 22) := ⟨_, rfl⟩
  have hb12 : Below X1.heap.size X1 X2 := by rw [hX2]; exact (Below.refl _ _).alloc (Nat.le_refl _) _
  have HB2 := Lib.hid (HB1.out.trans (hb12.mono HB1.out.size))
  have HSLS := Lib.hid (show Sls X2 X2.heap.size (.slice (some ⟨X1.heap.size, 0, none⟩) 1 1) [TX] from by rw [hX2, World.size_alloc]; exact Sls.one X1 TX (.slice AT TX.length cT) _ HST.out)
  refine wpOp_valueX 44 rfl rfl rfl (.slice (some ⟨X1.heap.size, 0, none⟩) 1 1) X2 (by rw [hX2]; go_simp) ⟨HSX.out X2 HB2.out, ?_⟩
  go_frame
  clear hX2 hb12
  refine wpAnyH_all (rs := [4, 20]) (by kernel_rfl) (by simp) ?_
  simp only [List.mem_cons, List.not_mem_nil, or_false, forall_eq_or_imp, forall_eq]
  refine ⟨?_, ?_⟩
  have c4 : X2.cell? ⟨r, 4, none⟩ = some V := (H3.out.below HB2.out).blk.at (o := 4) rfl
  refine wpOp_valueD 29 rfl rfl rfl V (by go_simp) ⟨HSX.out X2 HB2.out, ?_⟩
  go_frame
  clear c4
  refine wpAnyH_all (rs := [20]) (by kernel_rfl) (by simp) ?_
  simp only [List.mem_singleton, forall_eq]
  obtain ⟨bcs, hbcs⟩ := (H3.out.below HB2.out).box
  refine wpOp_callD 45 rfl rfl rfl 15 #[.pointer (some ⟨bx, 0, none⟩), MV, .slice (some ⟨X1.heap.size, 0, none⟩) 1 1] (by go_simp) ?_
  refine (mac_plain bx bcs MV _ key [TX] X2 hbcs (H3.out.below HB2.out).mst.sl (by have := H3.out.kl; omega) HSLS.out (fun l hl => by rw [List.mem_singleton] at hl; rw [hl]; have := HTX.out; omega) (H3.out.below HB2.out).tab).mono ?_
  rintro e X3 ⟨vM, rfl, hOM, hb23⟩
  obtain ⟨AM, cM, hvM, -⟩ := hOM.sl
  generalize (hm key [TX].flatten).length = mM at hvM
  subst hvM
  have HB3 := Lib.hid (HB2.out.trans (hb23.mono HB2.out.size))
  refine ⟨_, rfl, HSX.out X3 HB3.out, ?_⟩
  go_frame
  clear hOM hb23 hbcs HX
  have HX := Lib.hid (HSX.out X3 HB3.out)
  refine takeH 21 46 (.agg #[.int .u64 (N : Int), .slice AM mM cM]) rfl rfl (by kernel_rfl) (by kernel_rfl) (by kernel_rfl) (fun _ _ _ h => h) rfl (fun w' h => by obtain ⟨h1, h2, h3⟩ := h; go_simp) HX.out ?_
  go_frame
  refine wpAnyH_all (rs := [22]) (by kernel_rfl) (by simp) ?_
  simp only [List.mem_singleton, forall_eq]
  obtain ⟨X4, hX4⟩ : ∃ X, X = X3.alloc (.cells #[.int .u64 (N : Int), .slice AM mM cM] 55) := ⟨_, rfl⟩
  have hb34 : Below X3.heap.size X3 X4 := by rw [hX4]; exact (Below.refl _ _).alloc (Nat.le_refl _) _
  have HB4 := Lib.hid (HB3.out.trans (hb34.mono HB3.out.size))
  obtain ⟨q, hq⟩ : ∃ q : KyL, q = ⟨N, AM, mM, cM⟩ := ⟨_, rfl⟩
  have HQN := Lib.hid (show q.n = N from by rw [hq])
  have HN4 := Lib.hid (show X4.heap[X3.heap.size]? = some (.cells q.cells.toArray tKy (0, 0)) from by rw [hX4, hq]; exact heap_alloc_new X3 _)
  refine wpOp_valueX 47 rfl rfl rfl (.slice (some ⟨X3.heap.size, 0, none⟩) 1 1) X4 (by rw [hX4]; go_simp) ⟨HSX.out X4 HB4.out, ?_⟩
  go_frame
  clear hX4 hb34 hq
  refine wpAnyH_all (rs := [23]) (by kernel_rfl) (by simp) ?_
  simp only [List.mem_singleton, forall_eq]
  refine wpOp_appKy kyT 48 rfl rfl rfl (.tmp 29) (.tmp 47) rfl base V L rfl (H3.out.below HB4.out).own X3.heap.size q rfl HN4.out (by have := HL.out; omega) (H3.out.below HB4.out).size ?_
  intro g cap w5 hO hg ho
  obtain ⟨h5, ht5, hv5⟩ := H3.out.push q (by have := HL.out; omega) HB4.out hO hg (by rcases ho with e | e; exact .inl e.symm; exact .inr (by rw [e]; rfl))
  have H5 := Lib.hid h5
  have HT5 := Lib.hid (HT3.out.trans ht5)
  have HV5 := Lib.hid hv5
  have hkk := (H3.out.below HB4.out).blk.grown hg (fun e => H3.out.apv.1 e.symm)
  have c5 : w5.cell? ⟨r, 4, none⟩ = some V := hkk.at (o := 4) rfl
  have f5 : w5.frozen? ⟨r, 4, none⟩ = false := hkk.free _
  clear HX
  have HX := Lib.hid (show w5.cell? ⟨r, 3, none⟩ = some (.int .u64 (N : Int)) ∧ w5.cell? ⟨r, 0, none⟩ = some (.pointer (some ⟨bx, 0, none⟩)) ∧ w5.cell? ⟨r, 1, none⟩ = some MV from ⟨hkk.at (o := 3) rfl, hkk.at (o := 0) rfl, hkk.at (o := 1) rfl⟩)
  refine ⟨HX.out, ?_⟩
  go_frame
  refine takeH 24 49 (.pointer (some ⟨r, 0, none⟩)) rfl rfl (by kernel_rfl) (by kernel_rfl) (by kernel_rfl) (fun _ _ _ h => h) rfl (fun w' h => by obtain ⟨h1, h2, h3⟩ := h; go_simp) HX.out ?_
  go_frame
  refine takeH 25 50 (.pointer (some ⟨r, 4, none⟩)) rfl rfl (by kernel_rfl) (by kernel_rfl) (by kernel_rfl) (fun _ _ _ h => h) rfl (fun w' h => by obtain ⟨h1, h2, h3⟩ := h; go_simp) HX.out ?_
  go_frame
  refine wpAnyH_all (rs := [26]) (by kernel_rfl) (by simp) ?_
  simp only [List.mem_singleton, forall_eq]
  refine wpOp_storeV rfl rfl rfl (w' := w5.setCell ⟨r, 4, none⟩ (.slice (some ⟨g, 0, none⟩) (L.length + 1) cap)) (by go_simp) ?_
  refine ⟨⟨h5.blk.at (o := 3) rfl, h5.blk.at (o := 0) rfl, h5.blk.at (o := 1) rfl⟩, ?_⟩
  refine wpAnyH_done (by kernel_rfl) ?_ _
  refine NoPanic.normal ?_
  obtain ⟨w6, hw6⟩ : ∃ w6, w6 = w5.setCell ⟨r, 4, none⟩ (.slice (some ⟨g, 0, none⟩) (L.length + 1) cap) := ⟨_, rfl⟩
  rw [← hw6] at H5 HT5 ⊢
  have HZ := Lib.hid HT3.out.size
  clear HX h5 ht5 hv5 hkk c5 f5 hO hg ho hw6 HN4 HSLS HST HSX H3 HT3 HB0 HB1 HB2 HB3 HB4
  rotate_left
  obtain ⟨bcs, hbcs⟩ := (H3.out.below HB2.out).box
  refine wpOp_callD 45 rfl rfl rfl 15 #[.pointer (some ⟨bx, 0, none⟩), MV, .slice (some ⟨X1.heap.size, 0, none⟩) 1 1] (by go_simp) ?_
  refine (mac_plain bx bcs MV _ key [TX] X2 hbcs (H3.out.below HB2.out).mst.sl (by have := H3.out.kl; omega) HSLS.out (fun l hl => by rw [List.mem_singleton] at hl; rw [hl]; have := HTX.out; omega) (H3.out.below HB2.out).tab).mono ?_
  rintro e X3 ⟨vM, rfl, hOM, hb23⟩
  obtain ⟨AM, cM, hvM, -⟩ := hOM.sl
  generalize (hm key [TX].flatten).length = mM at hvM
  subst hvM
  have HB3 := Lib.hid (HB2.out.trans (hb23.mono HB2.out.size))
  refine ⟨_, rfl, HSX.out X3 HB3.out, ?_⟩
  go_frame
  clear hOM hb23 hbcs HX
  have HX := Lib.hid (HSX.out X3 HB3.out)
  refine takeH 21 46 (.agg #[.int .u64 (N : Int), .slice AM mM cM]) rfl rfl (by kernel_rfl) (by kernel_rfl) (by kernel_rfl) (fun _ _ _ h => h) rfl (fun w' h => by obtain ⟨h1, h2, h3⟩ := h; go_simp) HX.out ?_
  go_frame
  refine wpAnyH_all (rs := [4, 22]) (by kernel_rfl) (by simp) ?_
  simp only [List.mem_cons, List.not_mem_nil, or_false, forall_eq_or_imp, forall_eq]
  refine ⟨?_, ?_⟩
  have c4 : X3.cell? ⟨r, 4, none⟩ = some V := (H3.out.below HB3.out).blk.at (o := 4) rfl
  refine wpOp_valueD 29 rfl rfl rfl V (by go_simp) ⟨HSX.out X3 HB3.out, ?_⟩
  go_frame
  clear c4
  refine wpAnyH_all (rs := [22]) (by kernel_rfl) (by simp) ?_
  simp only [List.mem_singleton, forall_eq]
  obtain ⟨X4, hX4⟩ : ∃ X, X = X3.alloc (.cells #[.int .u64 (N : Int), .slice AM mM cM] 55) := ⟨_, rfl⟩
  have hb34 : Below X3.heap.size X3 X4 := by rw [hX4]; exact (Below.refl _ _).alloc (Nat.le_refl _) _
  have HB4 := Lib.hid (HB3.out.trans (hb34.mono HB3.out.size))
  obtain ⟨q, hq⟩ : ∃ q : KyL, q = ⟨N, AM, mM, cM⟩ := ⟨_, rfl⟩
  have HQN := Lib.hid (show q.n = N from by rw [hq])
  have HN4 := Lib.hid (show X4.heap[X3.heap.size]? = some (.cells q.cells.toArray tKy (0, 0)) from by rw [hX4, hq]; exact heap_alloc_new X3 _)
  refine wpOp_valueX 47 rfl rfl rfl (.slice (some ⟨X3.heap.size, 0, none⟩) 1 1) X4 (by rw [hX4]; go_simp) ⟨HSX.out X4 HB4.out, ?_⟩
  go_frame
  clear hX4 hb34 hq
  refine wpAnyH_all (rs := [23]) (by kernel_rfl) (by simp) ?_
  simp only [List.mem_singleton, forall_eq]
  refine wpOp_appKy kyT 48 rfl rfl rfl (.tmp 29) (.tmp 47) rfl base V L rfl (H3.out.below HB4.out).own X3.heap.size q rfl HN4.out (by have := HL.out; omega) (H3.out.below HB4.out).size ?_
  intro g cap w5 hO hg ho
  obtain ⟨h5, ht5, hv5⟩ := H3.out.push q (by have := HL.out; omega) HB4.out hO hg (by rcases ho with e | e; exact .inl e.symm; exact .inr (by rw [e]; rfl))
  have H5 := Lib.hid h5
  have HT5 := Lib.hid (HT3.out.trans ht5)
  have HV5 := Lib.hid hv5
  have hkk := (H3.out.below HB4.out).blk.grown hg (fun e => H3.out.apv.1 e.symm)
  have c5 : w5.cell? ⟨r, 4, none⟩ = some V := hkk.at (o := 4) rfl
  have f5 : w5.frozen? ⟨r, 4, none⟩ = false := hkk.free _
  clear HX
  have HX := Lib.hid (show w5.cell? ⟨r, 3, none⟩ = some (.int .u64 (N : Int)) ∧ w5.cell? ⟨r, 0, none⟩ = some (.pointer (some ⟨bx, 0, none⟩)) ∧ w5.cell? ⟨r, 1, none⟩ = some MV from ⟨hkk.at (o := 3) rfl, hkk.at (o := 0) rfl, hkk.at (o := 1) rfl⟩)
  refine ⟨HX.out, ?_⟩
  go_frame
  refine takeH 24 49 (.pointer (some ⟨r, 0, none⟩)) rfl rfl (by kernel_rfl) (by kernel_rfl) (by kernel_rfl) (fun _ _ _ h => h) rfl (fun w' h => by obtain ⟨h1, h2, h3⟩ := h; go_simp) HX.out ?_
  go_frame
  refine takeH 25 50 (.pointer (some ⟨r, 4, none⟩)) rfl rfl (by kernel_rfl) (by kernel_rfl) (by kernel_rfl) (fun _ _ _ h => h) rfl (fun w' h => by obtain ⟨h1, h2, h3⟩ := h; go_simp) HX.out ?_
  go_frame
  refine wpAnyH_all (rs := [26]) (by kernel_rfl) (by simp) ?_
  simp only [List.mem_singleton, forall_eq]
  refine wpOp_storeV rfl rfl rfl (w' := w5.setCell ⟨r, 4, none⟩ (.slice (some ⟨g, 0, none⟩) (L.length + 1) cap)) (by go_simp) ?_
  refine ⟨⟨h5.blk.at (o := 3) rfl, h5.blk.at (o := 0) rfl, h5.blk.at (o := 1) rfl⟩, ?_⟩
  refine wpAnyH_done (by kernel_rfl) ?_ _
  refine NoPanic.normal ?_
  obtain ⟨w6, hw6⟩ : ∃ w6, w6 = w5.setCell ⟨r, 4, none⟩ (.slice (some ⟨g, 0, none⟩) (L.length + 1) cap) := ⟨_, rfl⟩
  rw [← hw6] at H5 HT5 ⊢
  have HZ := Lib.hid HT3.out.size
  clear HX h5 ht5 hv5 hkk c5 f5 hO hg ho hw6 HN4 HSLS HST HSX H3 HT3 HB0 HB1 HB2 HB3 HB4
  rotate_left
  obtain ⟨X4, hX4⟩ : ∃ X, X = X3.alloc (.cells #[.int .u64 (N : Int), .slice AM mM cM] 55) := ⟨_, rfl⟩
  have hb34 : Below X3.heap.size X3 X4 := by rw [hX4]; exact (Below.refl _ _).alloc (Nat.le_refl _) _
  have HB4 := Lib.hid (HB3.out.trans (hb34.mono HB3.out.size))
  obtain ⟨q, hq⟩ : ∃ q : KyL, q = ⟨N, AM, mM, cM⟩ := ⟨_, rfl⟩
  have HQN := Lib.hid (show q.n = N from by rw [hq])
  have HN4 := Lib.hid (show X4.heap[X3.heap.size]? = some (.cells q.cells.toArray tKy (0, 0)) from by rw [hX4, hq]; exact heap_alloc_new X3 _)
  refine wpOp_valueX 47 rfl rfl rfl (.slice (some ⟨X3.heap.size, 0, none⟩) 1 1) X4 (by rw [hX4]; go_simp) ⟨HSX.out X4 HB4.out, ?_⟩
  go_frame
  clear hX4 hb34 hq
  refine wpAnyH_all (rs := [4]) (by kernel_rfl) (by simp) ?_
  simp only [List.mem_singleton, forall_eq]
  have c4 : X4.cell? ⟨r, 4, none⟩ = some V := (H3.out.below HB4.out).blk.at (o := 4) rfl
  refine wpOp_valueD 29 rfl rfl rfl V (by go_simp) ⟨HSX.out X4 HB4.out, ?_⟩
  go_frame
  clear c4
  refine wpAnyH_all (rs := [23]) (by kernel_rfl) (by simp) ?_
  simp only [List.mem_singleton, forall_eq]
  refine wpOp_appKy kyT 48 rfl rfl rfl (.tmp 29) (.tmp 47) rfl base V L rfl (H3.out.below HB4.out).own X3.heap.size q rfl HN4.out (by have := HL.out; omega) (H3.out.below HB4.out).size ?_
  intro g cap w5 hO hg ho
  obtain ⟨h5, ht5, hv5⟩ := H3.out.push q (by have := HL.out; omega) HB4.out hO hg (by rcases ho with e | e; exact .inl e.symm; exact .inr (by rw [e]; rfl))
  have H5 := Lib.hid h5
  have HT5 := Lib.hid (HT3.out.trans ht5)
  have HV5 := Lib.hid hv5
  have hkk := (H3.out.below HB4.out).blk.grown hg (fun e => H3.out.apv.1 e.symm)
  have c5 : w5.cell? ⟨r, 4, none⟩ = some V := hkk.at (o := 4) rfl
  have f5 : w5.frozen? ⟨r, 4, none⟩ = false := hkk.free _
  clear HX
  have HX := Lib.hid (show w5.cell? ⟨r, 3, none⟩ = some (.int .u64 (N : Int)) ∧ w5.cell? ⟨r, 0, none⟩ = some (.pointer (some ⟨bx, 0, none⟩)) ∧ w5.cell? ⟨r, 1, none⟩ = some MV from ⟨hkk.at (o := 3) rfl, hkk.at (o := 0) rfl, hkk.at (o := 1) rfl⟩)
  refine ⟨HX.out, ?_⟩
  go_frame
  refine takeH 24 49 (.pointer (some ⟨r, 0, none⟩)) rfl rfl (by kernel_rfl) (by kernel_rfl) (by kernel_rfl) (fun _ _ _ h => h) rfl (fun w' h => by obtain ⟨h1, h2, h3⟩ := h; go_simp) HX.out ?_
  go_frame
  refine takeH 25 50 (.pointer (some ⟨r, 4, none⟩)) rfl rfl (by kernel_rfl) (by kernel_rfl) (by kernel_rfl) (fun _ _ _ h => h) rfl (fun w' h => by obtain ⟨h1, h2, h3⟩ := h; go_simp) HX.out ?_
  go_frame
  refine wpAnyH_all (rs := [26]) (by kernel_rfl) (by simp) ?_
  simp only [List.mem_singleton, forall_eq]
  refine wpOp_storeV rfl rfl rfl (w' := w5.setCell ⟨r, 4, none⟩ (.slice (some ⟨g, 0, none⟩) (L.length + 1) cap)) (by go_simp) ?_
  refine ⟨⟨h5.blk.at (o := 3) rfl, h5.blk.at (o := 0) rfl, h5.blk.at (o := 1) rfl⟩, ?_⟩
  refine wpAnyH_done (by kernel_rfl) ?_ _
  refine NoPanic.normal ?_
  obtain ⟨w6, hw6⟩ : ∃ w6, w6 = w5.setCell ⟨r, 4, none⟩ (.slice (some ⟨g, 0, none⟩) (L.length + 1) cap) := ⟨_, rfl⟩
  rw [← hw6] at H5 HT5 ⊢
  have HZ := Lib.hid HT3.out.size
  clear HX h5 ht5 hv5 hkk c5 f5 hO hg ho hw6 HN4 HSLS HST HSX H3 HT3 HB0 HB1 HB2 HB3 HB4
  rotate_left
  all_goals
    obtain ⟨M, hM⟩ : ∃ M, M = L ++ [q] := ⟨_, rfl⟩
    have hMl : L.length + 1 = M.length := by rw [hM]; simp
    have HMN := Lib.hid (show M.map KyL.n = L.map KyL.n ++ [N] from by rw [hM, List.map_append, List.map_singleton, HQN.out])
    rw [← hM, hMl] at H5
    rw [hMl] at HV5 ⊢
    have HML := Lib.hid (show M.length ≤ 51 ∧ 1 ≤ M.length from by have := HL.out; omega)
    have k4 := H5.out.blk.at (o := 4) (v := .slice (some ⟨g, 0, none⟩) M.length cap) rfl
    have k2 := H5.out.blk.at (o := 2) (v := .int .i64 (room : Int)) rfl
    have k3 := H5.out.blk.at (o := 3) (v := .int .u64 (N : Int)) rfl
    have HVS := Lib.hid (show ∀ i ∈ rgS r (.slice (some ⟨g, 0, none⟩) M.length cap), i ∈ rgS r V ∨ w.heap.size ≤ i from by
      intro i hi
      rcases mem_rgS.1 hi with e | e
      · exact .inl (mem_rgS.2 (.inl e))
      · rcases HV5.out with q1 | q1
        · exact .inl (mem_rgS.2 (.inr (q1 ▸ e)))
        · exact .inr (Nat.le_trans HZ.out (q1 i e)))
    clear hM hMl HQN HZ HV5
    by_cases hov : room < M.length
    · have d1 : decide ((room : Int) < (M.length : Int)) = true := decide_eq_true (by omega)
      have d2 : (room : Int) < (M.length : Int) := by omega
      have HK := Lib.hid (show keepN room (L.map KyL.n ++ [N]) = (M.drop 1).map KyL.n from by unfold keepN; rw [← HMN.out, List.length_map, if_pos hov, List.map_drop])
      clear hov
      go_wp2_with fail
      go_quiet (fail)
      obtain ⟨W7, hW7⟩ : ∃ W7, W7 = w6.drewN nq := ⟨_, rfl⟩
      have H7 := Lib.hid (show RG W7 base r bx (.slice (some ⟨g, 0, none⟩) M.length cap) MV room N M key from by rw [hW7]; exact H5.out.below (below_drewN (Below.refl _ _) nq))
      have HT7 := Lib.hid (show Trs (rgS r V) w W7 from by rw [hW7]; exact HT5.out.below (below_drewN (Below.refl _ _) nq))
      rw [← hW7]
      clear hW7 H5 HT5 k4 k2 k3
      have k4 := H7.out.blk.at (o := 4) (v := .slice (some ⟨g, 0, none⟩) M.length cap) rfl
      have HDEL := Lib.hid (delete_ky base g cap M 0 1 rfl W7 H7.out.own (by have := HML.out; omega) (by have := HML.out; omega))
      go_wp2_with fail
      refine HDEL.out.mono ?_
      rintro e w8 ⟨rfl, hO8, hg8⟩
      obtain ⟨h9, ht9⟩ := H7.out.gone hO8 hg8 (by rw [List.length_append, List.length_take, List.length_drop]; have := HML.out; omega)
      have hk8 := H7.out.blk.grown hg8 (fun e => H7.out.apv.1 e.symm)
      have HT9 := Lib.hid (HT7.out.next ht9 HVS.out)
      have H9 := Lib.hid h9
      have c8 : w8.cell? ⟨r, 4, none⟩ = some (.slice (some ⟨g, 0, none⟩) M.length cap) := hk8.at (o := 4) rfl
      have f8 := hk8.free 4
      have n8 : w8.cell? ⟨r, 3, none⟩ = some (.int .u64 (N : Int)) := hk8.at (o := 3) rfl
      clear h9 ht9 hk8 hO8 hg8 HDEL H7 HT7 k4
      go_wp2_with fail
      go_ret2
      refine ⟨rfl, _, _, H9.out, ?_, HT9.out, fun k hk => HVS.out k (by rcases mem_rgS.1 hk with e | e; exact mem_rgS.2 (.inl e); exact mem_rgS.2 (.inr e))⟩
      rw [HK.out]; rfl
    · have d1 : decide ((room : Int) < (M.length : Int)) = false := decide_eq_false (by omega)
      have d2 : ¬ (room : Int) < (M.length : Int) := by omega
      have HK := Lib.hid (show keepN room (L.map KyL.n ++ [N]) = M.map KyL.n from by unfold keepN; rw [← HMN.out, List.length_map, if_neg hov])
      clear hov
      go_wp2_with fail
      go_quiet (fail)
      obtain ⟨W7, hW7⟩ : ∃ W7, W7 = w6.drewN nq := ⟨_, rfl⟩
      have H7 := Lib.hid (show RG W7 base r bx (.slice (some ⟨g, 0, none⟩) M.length cap) MV room N M key from by rw [hW7]; exact H5.out.below (below_drewN (Below.refl _ _) nq))
      have HT7 := Lib.hid (show Trs (rgS r V) w W7 from by rw [hW7]; exact HT5.out.below (below_drewN (Below.refl _ _) nq))
      rw [← hW7]
      clear hW7 H5 HT5 k4 k2 k3
      have k3 := H7.out.blk.at (o := 3) (v := .int .u64 (N : Int)) rfl
      go_wp2_with fail
      go_ret2
      exact ⟨rfl, _, _, H7.out, HK.out.symm, HT7.out, HVS.out⟩
end Go.Proofs.YtcjjhaonogfcjaaDoor
