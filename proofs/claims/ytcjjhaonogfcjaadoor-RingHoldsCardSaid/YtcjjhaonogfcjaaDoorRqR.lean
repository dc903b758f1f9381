/- ring: Rotate of a Ring over a symbolic box. (By mkrq17.py.) -/
import Derived.Test.YtcjjhaonogfcjaaDoorRqAB
import Derived.Lib.ItoaLen
set_option maxRecDepth 100000
namespace Go.Proofs.YtcjjhaonogfcjaaDoor
open Go.RowKit
attribute [local go_sem] Oper.semAt_some
/-- What there is room for. -/
def keepQ (room : Nat) (xs : List Nat) : List Nat := if room < xs.length then xs.drop 1 else xs
/-- What the master secret signs. -/
def keyT (n : Nat) : List UInt8 := [107, 101, 121, 32] ++ Lib.decDigits n
set_option maxHeartbeats 8000000 in
theorem rotate_q {w : World} {base r b m room last : Nat} {V MV rv : Value} {full : Bool} {L : List KyL} {es : List EnL} {key K1 : List UInt8} (h : RQ w base r b V MV room last L key K1) (hX : BX w base b m rv true full es) (hl : L.length ≤ 50) (hlast : last < 1000) (hK : last + 1 = 1 → K1 = tagE es (macE key (keyT (last + 1)))) :
    Calls Tryd.prog 10 #[.pointer (some ⟨r, 0, none⟩)] w fun e w' => e = .returned (.tuple #[.int .u64 ((last + 1 : Nat) : Int), .int .i64 0]) ∧
      ∃ V' L' rv', RQ w' base r b V' MV room (last + 1) L' key K1 ∧ BX w' base b m rv' true (fullE full es (macE key (keyT (last + 1)))) (esE es (macE key (keyT (last + 1)))) ∧ L'.map KyL.n = keepQ room (L.map KyL.n ++ [last + 1]) ∧ Trs (rgS r V ++ bS b m rv) w w' := by
  obtain ⟨N, hN⟩ : ∃ N, N = last + 1 := ⟨_, rfl⟩
  rw [← hN] at hK ⊢
  obtain ⟨EE, hEE⟩ : ∃ EE, EE = macE key (keyT N) := ⟨_, rfl⟩
  rw [← hEE] at hK ⊢
  have HEE := Lib.hid hEE
  have HK := Lib.hid hK
  have HBB := Lib.hid (And.intro hX.bb hX.blk.lt)
  clear hEE hK
  have k3 : w.cell? ⟨r, 3, none⟩ = some (.int .u64 (last : Int)) := h.blk.at (o := 3) rfl
  have f3 := h.blk.free 3
  have hge : decide ((4294967296 : Int) ≤ (last : Int)) = false := decide_eq_false (by omega)
  have hge2 : ¬ (4294967296 : Int) ≤ (last : Int) := by omega
  have hwr : IntKind.u64.wrap ((last : Int) + 1) = (N : Int) := by rw [hN]; rw [IntWalk.u64_in _ (by omega)]; omega
  obtain ⟨h1, ht1⟩ := h.num N (by omega)
  obtain ⟨w1, hw1⟩ : ∃ w1, w1 = w.setCell ⟨r, 3, none⟩ (.int .u64 (N : Int)) := ⟨_, rfl⟩
  rw [← hw1] at h1 ht1
  have HL := Lib.hid hl
  have H1 := Lib.hid h1
  have HX1 := Lib.hid (hX.ring h ht1)
  have HM1 := Lib.hid (show Trs (rgS r V ++ bS b m rv) w w1 from ht1.mono (fun k hk => List.mem_append_left _ hk))
  have HNL := Lib.hid (show N ≤ 1000 from by omega)
  have k3' := h1.blk.at (o := 3) (v := .int .u64 (N : Int)) rfl
  clear h hX h1 ht1 hlast hl
  have HN := Lib.hid hN
  clear hN
  go_enter Tryd.func10, Tryd.ntmps10
  go_wp2_with fail
  rw [← hw1]
  clear hw1 k3 f3 hge hge2 hwr
  refine (fmtU_b N (by have := HNL.out; omega) w1 H1.out.pow).mono ?_
  rintro e w2 ⟨rfl, hb⟩
  have HD := Lib.hid (show (Lib.decDigits N).length ≤ 20 from by rw [Lib.decDigits_length]; exact Lib.nDigits_le20 N (by have := HNL.out; omega))
  obtain ⟨D, hD⟩ : ∃ D, D = Lib.decDigits N := ⟨_, rfl⟩
  have HKT := Lib.hid (show keyT N = [107, 101, 121, 32] ++ D from by rw [hD]; rfl)
  rw [← hD] at HD ⊢
  clear hD
  have H2 := Lib.hid (H1.out.below hb)
  have HX2 := Lib.hid (HX1.out.below hb)
  have HM2 := Lib.hid (HM1.out.below hb)
  clear hb k3' H1 HX1 HM1
  have hcat : ByteArray.mk #[107, 101, 121, 32] ++ ByteArray.mk D.toArray = ByteArray.mk ([107, 101, 121, 32] ++ D).toArray := by
    apply ByteArray.ext
    simp
  obtain ⟨TX, hTX⟩ : ∃ TX, TX = [107, 101, 121, 32] ++ D := ⟨_, rfl⟩
  have HTX := Lib.hid (show TX.length ≤ 24 from by rw [hTX]; simp; have := HD.out; omega)
  rw [← hTX] at hcat
  have HET := Lib.hid (show EE = macE key TX from by rw [HEE.out, HKT.out, hTX])
  clear hTX
  have hdl := HD.out
  have hdl2 : (4 : Int) + (D.length : Int) ≤ 9223372036854775807 := by omega
  go_wp2_with fail
  refine wp_region_noPanic ?_
  refine wp_region_held (S := fun W' => W'.cell? ⟨r, 3, none⟩ = some (.int .u64 (N : Int)) ∧ W'.cell? ⟨r, 0, none⟩ = some (.pointer (some ⟨b, 0, none⟩)) ∧ W'.cell? ⟨r, 1, none⟩ = some MV) (by kernel_rfl) ?_
  change wpAnyH _ _ _ _ _ _ _ _ (World.drew _)
  obtain ⟨X0, hX0⟩ : ∃ X, X = World.drew w2 := ⟨_, rfl⟩
  have H3 := Lib.hid (show RQ X0 base r b V MV room N L key K1 from by rw [hX0]; exact H2.out.below (Below.refl _ _).drew)
  have HX3 := Lib.hid (show BX X0 base b m rv true full es from by rw [hX0]; exact HX2.out.below (Below.refl _ _).drew)
  have HM3 := Lib.hid (show Trs (rgS r V ++ bS b m rv) w X0 from by rw [hX0]; exact HM2.out.drew)
  rw [← hX0]
  clear hX0 H2 HX2 HM2 hcat
  have HSX := Lib.hid (fun (W' : World) (hq : RQ W' base r b V MV room N L key K1) => (show W'.cell? ⟨r, 3, none⟩ = some (.int .u64 (N : Int)) ∧ W'.cell? ⟨r, 0, none⟩ = some (.pointer (some ⟨b, 0, none⟩)) ∧ W'.cell? ⟨r, 1, none⟩ = some MV from ⟨hq.blk.at (o := 3) rfl, hq.blk.at (o := 0) rfl, hq.blk.at (o := 1) rfl⟩))
  have HQ0 := Lib.hid H3.out
  have HX := Lib.hid (HSX.out X0 HQ0.out)
  refine takeH 0 25 (.pointer (some ⟨r, 0, none⟩)) rfl rfl (by kernel_rfl) (by kernel_rfl) (by kernel_rfl) (fun _ _ _ h => h) rfl (fun w' h => by obtain ⟨h1, h2, h3⟩ := h; go_simp) HX.out ?_
  go_frame
  refine takeH 1 26 (.pointer (some ⟨r, 0, none⟩)) rfl rfl (by kernel_rfl) (by kernel_rfl) (by kernel_rfl) (fun _ _ _ h => h) rfl (fun w' h => by obtain ⟨h1, h2, h3⟩ := h; go_simp) HX.out ?_
  go_frame
  refine takeH 2 27 (.pointer (some ⟨r, 0, none⟩)) rfl rfl (by kernel_rfl) (by kernel_rfl) (by kernel_rfl) (fun _ _ _ h => h) rfl (fun w' h => by obtain ⟨h1, h2, h3⟩ := h; go_simp) HX.out ?_
  go_frame
  refine takeH 3 28 (.pointer (some ⟨r, 4, none⟩)) rfl rfl (by kernel_rfl) (by kernel_rfl) (by kernel_rfl) (fun _ _ _ h => h) rfl (fun w' h => by obtain ⟨h1, h2, h3⟩ := h; go_simp) HX.out ?_
  go_frame
  refine takeH 5 30 (.pointer (some ⟨r, 0, none⟩)) rfl rfl (by kernel_rfl) (by kernel_rfl) (by kernel_rfl) (fun _ _ _ h => h) rfl (fun w' h => by obtain ⟨h1, h2, h3⟩ := h; go_simp) HX.out ?_
  go_frame
  refine takeH 6 31 (.pointer (some ⟨r, 0, none⟩)) rfl rfl (by kernel_rfl) (by kernel_rfl) (by kernel_rfl) (fun _ _ _ h => h) rfl (fun w' h => by obtain ⟨h1, h2, h3⟩ := h; go_simp) HX.out ?_
  go_frame
  refine takeH 7 32 (.pointer (some ⟨r, 3, none⟩)) rfl rfl (by kernel_rfl) (by kernel_rfl) (by kernel_rfl) (fun _ _ _ h => h) rfl (fun w' h => by obtain ⟨h1, h2, h3⟩ := h; go_simp) HX.out ?_
  go_frame
  refine takeH 8 33 (.int .u64 (N : Int)) rfl rfl (by kernel_rfl) (by kernel_rfl) (by kernel_rfl) (fun _ _ _ h => h) rfl (fun w' h => by obtain ⟨h1, h2, h3⟩ := h; go_simp) HX.out ?_
  go_frame
  refine takeH 9 34 (.pointer (some ⟨r, 0, none⟩)) rfl rfl (by kernel_rfl) (by kernel_rfl) (by kernel_rfl) (fun _ _ _ h => h) rfl (fun w' h => by obtain ⟨h1, h2, h3⟩ := h; go_simp) HX.out ?_
  go_frame
  refine takeH 10 35 (.pointer (some ⟨r, 0, none⟩)) rfl rfl (by kernel_rfl) (by kernel_rfl) (by kernel_rfl) (fun _ _ _ h => h) rfl (fun w' h => by obtain ⟨h1, h2, h3⟩ := h; go_simp) HX.out ?_
  go_frame
  refine takeH 11 36 (.pointer (some ⟨r, 0, none⟩)) rfl rfl (by kernel_rfl) (by kernel_rfl) (by kernel_rfl) (fun _ _ _ h => h) rfl (fun w' h => by obtain ⟨h1, h2, h3⟩ := h; go_simp) HX.out ?_
  go_frame
  refine takeH 12 37 (.pointer (some ⟨b, 0, none⟩)) rfl rfl (by kernel_rfl) (by kernel_rfl) (by kernel_rfl) (fun _ _ _ h => h) rfl (fun w' h => by obtain ⟨h1, h2, h3⟩ := h; go_simp) HX.out ?_
  go_frame
  refine takeH 13 38 (.pointer (some ⟨r, 0, none⟩)) rfl rfl (by kernel_rfl) (by kernel_rfl) (by kernel_rfl) (fun _ _ _ h => h) rfl (fun w' h => by obtain ⟨h1, h2, h3⟩ := h; go_simp) HX.out ?_
  go_frame
  refine takeH 14 39 (.pointer (some ⟨r, 0, none⟩)) rfl rfl (by kernel_rfl) (by kernel_rfl) (by kernel_rfl) (fun _ _ _ h => h) rfl (fun w' h => by obtain ⟨h1, h2, h3⟩ := h; go_simp) HX.out ?_
  go_frame
  refine takeH 15 40 (.pointer (some ⟨r, 1, none⟩)) rfl rfl (by kernel_rfl) (by kernel_rfl) (by kernel_rfl) (fun _ _ _ h => h) rfl (fun w' h => by obtain ⟨h1, h2, h3⟩ := h; go_simp) HX.out ?_
  go_frame
  refine takeH 16 41 (MV) rfl rfl (by kernel_rfl) (by kernel_rfl) (by kernel_rfl) (fun _ _ _ h => h) rfl (fun w' h => by obtain ⟨h1, h2, h3⟩ := h; go_simp) HX.out ?_
  go_frame
  refine takeH 17 42 (str TX) rfl rfl (by kernel_rfl) (by kernel_rfl) (by kernel_rfl) (fun _ _ _ h => h) rfl (fun w' h => by obtain ⟨h1, h2, h3⟩ := h; go_simp) HX.out ?_
  go_frame
  refine wpAnyH_all (rs := [4, 18]) (by kernel_rfl) (by simp) ?_
  simp only [List.mem_cons, List.not_mem_nil, or_false, forall_eq_or_imp, forall_eq]
  refine ⟨?_, ?_⟩
  have c4 : X0.cell? ⟨r, 4, none⟩ = some V := HQ0.out.blk.at (o := 4) rfl
  refine wpOp_valueD 29 rfl rfl rfl V (by go_simp) ⟨HSX.out X0 HQ0.out, ?_⟩
  go_frame
  clear c4
  refine wpAnyH_all (rs := [18]) (by kernel_rfl) (by simp) ?_
  simp only [List.mem_singleton, forall_eq]
  obtain ⟨vT, X1, hcv, hb1, hsT⟩ := conv_tx TX X0 (by have := HTX.out; omega)
  have HQ1 := Lib.hid (H3.out.below hb1)
  have HB1 := Lib.hid hb1
  have HST := Lib.hid hsT
  obtain ⟨AT, cT, rfl, -⟩ := id hsT
  refine wpOp_valueX 43 rfl rfl rfl (.slice AT TX.length cT) X1 (by go_simp) ⟨HSX.out X1 HQ1.out, ?_⟩
  go_frame
  clear hcv hb1 hsT
  refine wpAnyH_all (rs := [19]) (by kernel_rfl) (by simp) ?_
  simp only [List.mem_singleton, forall_eq]
  obtain ⟨X2, hX2⟩ : ∃ X, X = X1.alloc (.cells #[.slice AT TX.length cT] 22) := ⟨_, rfl⟩
  have hb12 : Below X1.heap.size X1 X2 := by rw [hX2]; exact (Below.refl _ _).alloc (Nat.le_refl _) _
  have HB2 := Lib.hid (HB1.out.trans (hb12.mono HB1.out.size))
  have HQ2 := Lib.hid (H3.out.below HB2.out)
  have HSLS := Lib.hid (show Sls X2 X2.heap.size (.slice (some ⟨X1.heap.size, 0, none⟩) 1 1) [TX] from by rw [hX2, World.size_alloc]; exact Sls.one X1 TX (.slice AT TX.length cT) _ HST.out)
  refine wpOp_valueX 44 rfl rfl rfl (.slice (some ⟨X1.heap.size, 0, none⟩) 1 1) X2 (by rw [hX2]; go_simp) ⟨HSX.out X2 HQ2.out, ?_⟩
  go_frame
  clear hX2 hb12
  refine wpAnyH_all (rs := [20]) (by kernel_rfl) (by simp) ?_
  simp only [List.mem_singleton, forall_eq]
  have HXX2 := Lib.hid (HX3.out.below HB2.out)
  have HM2 := Lib.hid (HM3.out.below HB2.out)
  refine wpOp_callD 45 rfl rfl rfl 15 #[.pointer (some ⟨b, 0, none⟩), MV, .slice (some ⟨X1.heap.size, 0, none⟩) 1 1] (by go_simp) ?_
  refine (mac_sym HXX2.out HQ2.out.mst (HQ2.out.offB HXX2.out).2.2.1 (by have := HQ2.out.kl; omega) HSLS.out (by simp) (by simp [Lib.lens]; have := HTX.out; omega) HQ2.out.size (Nat.le_refl _)).mono ?_
  rintro e X3 ⟨vM, rv3, rfl, hOM, hX3', ht3, -, -⟩
  simp only [List.flatten_cons, List.flatten_nil, List.append_nil] at hOM hX3'
  rw [← HET.out] at hOM hX3'
  obtain ⟨AM, cM, hvM, -⟩ := hOM.sl
  have HTL := Lib.hid (show OwnB X3 X2.heap.size vM (tagE es EE) from hOM)
  generalize (tagE es EE).length = mM at hvM
  subst hvM
  have HQ3 := Lib.hid (HQ2.out.box HXX2.out ht3)
  have HXX3 := Lib.hid hX3'
  have HM3' := Lib.hid (show Trs (rgS r V ++ bS b m rv) w X3 from HM2.out.trans (ht3.mono (fun k hk => List.mem_append_right _ hk)))
  have HZ2 := Lib.hid (show r < X2.heap.size ∧ b < X2.heap.size ∧ base ≤ X2.heap.size from ⟨HQ2.out.blk.lt, HXX2.out.blk.lt, HQ2.out.size⟩)
  refine ⟨_, rfl, HSX.out X3 HQ3.out, ?_⟩
  go_frame
  clear hOM hX3' ht3 HX HXX2 HM2
  have HX := Lib.hid (HSX.out X3 HQ3.out)
  refine takeH 21 46 (.agg #[.int .u64 (N : Int), .slice AM mM cM]) rfl rfl (by kernel_rfl) (by kernel_rfl) (by kernel_rfl) (fun _ _ _ h => h) rfl (fun w' h => by obtain ⟨h1, h2, h3⟩ := h; go_simp) HX.out ?_
  go_frame
  refine wpAnyH_all (rs := [22]) (by kernel_rfl) (by simp) ?_
  simp only [List.mem_singleton, forall_eq]
  obtain ⟨X4, hX4⟩ : ∃ X, X = X3.alloc (.cells #[.int .u64 (N : Int), .slice AM mM cM] 55) := ⟨_, rfl⟩
  have hb34 : Below X3.heap.size X3 X4 := by rw [hX4]; exact (Below.refl _ _).alloc (Nat.le_refl _) _
  have HQ4 := Lib.hid (HQ3.out.below hb34)
  have HXX4 := Lib.hid (HXX3.out.below hb34)
  have HM4 := Lib.hid (HM3'.out.below hb34)
  obtain ⟨q, hq⟩ : ∃ q : KyL, q = ⟨N, AM, mM, cM⟩ := ⟨_, rfl⟩
  have HQN := Lib.hid (show q.n = N from by rw [hq])
  have HQQ := Lib.hid (show q.n = 1 → OwnB X4 base (qv q) K1 ∧ (qv q).ownBlock ≠ some r ∧ (qv q).ownBlock ≠ some b from by
    intro hn
    have hlt := (HTL.out.lt)
    rw [HK.out (by rw [← hn, hq])]
    refine ⟨by rw [hq]; exact (HTL.out.lower HZ2.out.2.2).below hb34, fun e => ?_, fun e => ?_⟩
    · have := (hlt r (by rw [hq] at e; exact e)).1; have := HZ2.out.1; omega
    · have := (hlt b (by rw [hq] at e; exact e)).1; have := HZ2.out.2.1; omega)
  have HN4 := Lib.hid (show X4.heap[X3.heap.size]? = some (.cells q.cells.toArray tKy (0, 0)) from by rw [hX4, hq]; exact heap_alloc_new X3 _)
  refine wpOp_valueX 47 rfl rfl rfl (.slice (some ⟨X3.heap.size, 0, none⟩) 1 1) X4 (by rw [hX4]; go_simp) ⟨HSX.out X4 HQ4.out, ?_⟩
  go_frame
  clear hX4 hb34 hq
  refine wpAnyH_all (rs := [23]) (by kernel_rfl) (by simp) ?_
  simp only [List.mem_singleton, forall_eq]
  refine wpOp_appKy kyT 48 rfl rfl rfl (.tmp 29) (.tmp 47) rfl base V L rfl HQ4.out.own X3.heap.size q rfl HN4.out (by have := HL.out; omega) HQ4.out.size ?_
  intro g cap w5 hO hg ho
  obtain ⟨h5, ht5, hv5⟩ := HQ4.out.push q (by have := HL.out; omega) hO hg (by rcases ho with e | e; exact .inl e.symm; exact .inr (by rw [e]; rfl)) HQQ.out HXX4.out.blk.lt
  have H5 := Lib.hid h5
  have HX5 := Lib.hid (HXX4.out.ring HQ4.out ht5)
  have HM5 := Lib.hid (HM4.out.trans (ht5.mono (fun k hk => List.mem_append_left _ hk)))
  have HV5 := Lib.hid hv5
  have hkk := HQ4.out.blk.grown hg (fun e => HQ4.out.vr e.symm)
  have c5 : w5.cell? ⟨r, 4, none⟩ = some V := hkk.at (o := 4) rfl
  have f5 : w5.frozen? ⟨r, 4, none⟩ = false := hkk.free _
  clear HX
  have HX := Lib.hid (show w5.cell? ⟨r, 3, none⟩ = some (.int .u64 (N : Int)) ∧ w5.cell? ⟨r, 0, none⟩ = some (.pointer (some ⟨b, 0, none⟩)) ∧ w5.cell? ⟨r, 1, none⟩ = some MV from ⟨hkk.at (o := 3) rfl, hkk.at (o := 0) rfl, hkk.at (o := 1) rfl⟩)
  refine ⟨HX.out, ?_⟩
  go_frame
  refine takeH 24 49 (.pointer (some ⟨r, 0, none⟩)) rfl rfl (by kernel_rfl) (by kernel_rfl) (by kernel_rfl) (fun _ _ _ h => h) rfl (fun w' h => by obtain ⟨h1, h2, h3⟩ := h; go_simp) HX.out ?_
  go_frame
  refine takeH 25 50 (.pointer (some ⟨r, 4, none⟩)) rfl rfl (by kernel_rfl) (by kernel_rfl) (by kernel_rfl) (fun _ _ _ h => h) rfl (fun w' h => by obtain ⟨h1, h2, h3⟩ := h; go_simp) HX.out ?_
  go_frame
  refine wpAnyH_all (rs := [26]) (by kernel_rfl) (by simp) ?_
  simp only [List.mem_singleton, forall_eq]
  refine wpOp_storeV rfl rfl rfl (w' := w5.setCell ⟨r, 4, none⟩ (.slice (some ⟨g, 0, none⟩) (L.length + 1) cap)) (by go_simp) ?_
  refine ⟨⟨h5.blk.at (o := 3) rfl, h5.blk.at (o := 0) rfl, h5.blk.at (o := 1) rfl⟩, ?_⟩
  refine wpAnyH_done (by kernel_rfl) ?_ _
  refine NoPanic.normal ?_
  obtain ⟨w6, hw6⟩ : ∃ w6, w6 = w5.setCell ⟨r, 4, none⟩ (.slice (some ⟨g, 0, none⟩) (L.length + 1) cap) := ⟨_, rfl⟩
  rw [← hw6] at H5 HX5 HM5 ⊢
  have HZ := Lib.hid HM4.out.size
  clear HX h5 ht5 hv5 hkk c5 f5 hO hg ho hw6 HN4 HSLS HST HSX H3 HX3 HM3 HB1 HB2 HQ0 HQ1 HQ2 HQ3 HQ4 HXX3 HXX4 HM3' HM4 HTL HQQ HET
  rotate_left
  obtain ⟨vT, X1, hcv, hb1, hsT⟩ := conv_tx TX X0 (by have := HTX.out; omega)
  have HQ1 := Lib.hid (H3.out.below hb1)
  have HB1 := Lib.hid hb1
  have HST := Lib.hid hsT
  obtain ⟨AT, cT, rfl, -⟩ := id hsT
  refine wpOp_valueX 43 rfl rfl rfl (.slice AT TX.length cT) X1 (by go_simp) ⟨HSX.out X1 HQ1.out, ?_⟩
  go_frame
  clear hcv hb1 hsT
  refine wpAnyH_all (rs := [4, 19]) (by kernel_rfl) (by simp) ?_
  simp only [List.mem_cons, List.not_mem_nil, or_false, forall_eq_or_imp, forall_eq]
  refine ⟨?_, ?_⟩
  have c4 : X1.cell? ⟨r, 4, none⟩ = some V := HQ1.out.blk.at (o := 4) rfl
  refine wpOp_valueD 29 rfl rfl rfl V (by go_simp) ⟨HSX.out X1 HQ1.out, ?_⟩
  go_frame
  clear c4
  refine wpAnyH_all (rs := [19]) (by kernel_rfl) (by simp) ?_
  simp only [List.mem_singleton, forall_eq]
  obtain ⟨X2, hX2⟩ : ∃ X, X = X1.alloc (.cells #[.slice AT TX.length cT] 22) := ⟨_, rfl⟩
  have hb12 : Below X1.heap.size X1 X2 := by rw [hX2]; exact (Below.refl _ _).alloc (Nat.le_refl _) _
  have HB2 := Lib.hid (HB1.out.trans (hb12.mono HB1.out.size))
  have HQ2 := Lib.hid (H3.out.below HB2.out)
  have HSLS := Lib.hid (show Sls X2 X2.heap.size (.slice (some ⟨X1.heap.size, 0, none⟩) 1 1) [TX] from by rw [hX2, World.size_alloc]; exact Sls.one X1 TX (.slice AT TX.length cT) _ HST.out)
  refine wpOp_valueX 44 rfl rfl rfl (.slice (some ⟨X1.heap.size, 0, none⟩) 1 1) X2 (by rw [hX2]; go_simp) ⟨HSX.out X2 HQ2.out, ?_⟩
  go_frame
  clear hX2 hb12
  refine wpAnyH_all (rs := [20]) (by kernel_rfl) (by simp) ?_
  simp only [List.mem_singleton, forall_eq]
  have HXX2 := Lib.hid (HX3.out.below HB2.out)
  have HM2 := Lib.hid (HM3.out.below HB2.out)
  refine wpOp_callD 45 rfl rfl rfl 15 #[.pointer (some ⟨b, 0, none⟩), MV, .slice (some ⟨X1.heap.size, 0, none⟩) 1 1] (by go_simp) ?_
  refine (mac_sym HXX2.out HQ2.out.mst (HQ2.out.offB HXX2.out).2.2.1 (by have := HQ2.out.kl; omega) HSLS.out (by simp) (by simp [Lib.lens]; have := HTX.out; omega) HQ2.out.size (Nat.le_refl _)).mono ?_
  rintro e X3 ⟨vM, rv3, rfl, hOM, hX3', ht3, -, -⟩
  simp only [List.flatten_cons, List.flatten_nil, List.append_nil] at hOM hX3'
  rw [← HET.out] at hOM hX3'
  obtain ⟨AM, cM, hvM, -⟩ := hOM.sl
  have HTL := Lib.hid (show OwnB X3 X2.heap.size vM (tagE es EE) from hOM)
  generalize (tagE es EE).length = mM at hvM
  subst hvM
  have HQ3 := Lib.hid (HQ2.out.box HXX2.out ht3)
  have HXX3 := Lib.hid hX3'
  have HM3' := Lib.hid (show Trs (rgS r V ++ bS b m rv) w X3 from HM2.out.trans (ht3.mono (fun k hk => List.mem_append_right _ hk)))
  have HZ2 := Lib.hid (show r < X2.heap.size ∧ b < X2.heap.size ∧ base ≤ X2.heap.size from ⟨HQ2.out.blk.lt, HXX2.out.blk.lt, HQ2.out.size⟩)
  refine ⟨_, rfl, HSX.out X3 HQ3.out, ?_⟩
  go_frame
  clear hOM hX3' ht3 HX HXX2 HM2
  have HX := Lib.hid (HSX.out X3 HQ3.out)
  refine takeH 21 46 (.agg #[.int .u64 (N : Int), .slice AM mM cM]) rfl rfl (by kernel_rfl) (by kernel_rfl) (by kernel_rfl) (fun _ _ _ h => h) rfl (fun w' h => by obtain ⟨h1, h2, h3⟩ := h; go_simp) HX.out ?_
  go_frame
  refine wpAnyH_all (rs := [22]) (by kernel_rfl) (by simp) ?_
  simp only [List.mem_singleton, forall_eq]
  obtain ⟨X4, hX4⟩ : ∃ X, X = X3.alloc (.cells #[.int .u64 (N : Int), .slice AM mM cM] 55) := ⟨_, rfl⟩
  have hb34 : Below X3.heap.size X3 X4 := by rw [hX4]; exact (Below.refl _ _).alloc (Nat.le_refl _) _
  have HQ4 := Lib.hid (HQ3.out.below hb34)
  have HXX4 := Lib.hid (HXX3.out.below hb34)
  have HM4 := Lib.hid (HM3'.out.below hb34)
  obtain ⟨q, hq⟩ : ∃ q : KyL, q = ⟨N, AM, mM, cM⟩ := ⟨_, rfl⟩
  have HQN := Lib.hid (show q.n = N from by rw [hq])
  have HQQ := Lib.hid (show q.n = 1 → OwnB X4 base (qv q) K1 ∧ (qv q).ownBlock ≠ some r ∧ (qv q).ownBlock ≠ some b from by
    intro hn
    have hlt := (HTL.out.lt)
    rw [HK.out (by rw [← hn, hq])]
    refine ⟨by rw [hq]; exact (HTL.out.lower HZ2.out.2.2).below hb34, fun e => ?_, fun e => ?_⟩
    · have := (hlt r (by rw [hq] at e; exact e)).1; have := HZ2.out.1; omega
    · have := (hlt b (by rw [hq] at e; exact e)).1; have := HZ2.out.2.1; omega)
  have HN4 := Lib.hid (show X4.heap[X3.heap.size]? = some (.cells q.cells.toArray tKy (0, 0)) from by rw [hX4, hq]; exact heap_alloc_new X3 _)
  refine wpOp_valueX 47 rfl rfl rfl (.slice (some ⟨X3.heap.size, 0, none⟩) 1 1) X4 (by rw [hX4]; go_simp) ⟨HSX.out X4 HQ4.out, ?_⟩
  go_frame
  clear hX4 hb34 hq
  refine wpAnyH_all (rs := [23]) (by kernel_rfl) (by simp) ?_
  simp only [List.mem_singleton, forall_eq]
  refine wpOp_appKy kyT 48 rfl rfl rfl (.tmp 29) (.tmp 47) rfl base V L rfl HQ4.out.own X3.heap.size q rfl HN4.out (by have := HL.out; omega) HQ4.out.size ?_
  intro g cap w5 hO hg ho
  obtain ⟨h5, ht5, hv5⟩ := HQ4.out.push q (by have := HL.out; omega) hO hg (by rcases ho with e | e; exact .inl e.symm; exact .inr (by rw [e]; rfl)) HQQ.out HXX4.out.blk.lt
  have H5 := Lib.hid h5
  have HX5 := Lib.hid (HXX4.out.ring HQ4.out ht5)
  have HM5 := Lib.hid (HM4.out.trans (ht5.mono (fun k hk => List.mem_append_left _ hk)))
  have HV5 := Lib.hid hv5
  have hkk := HQ4.out.blk.grown hg (fun e => HQ4.out.vr e.symm)
  have c5 : w5.cell? ⟨r, 4, none⟩ = some V := hkk.at (o := 4) rfl
  have f5 : w5.frozen? ⟨r, 4, none⟩ = false := hkk.free _
  clear HX
  have HX := Lib.hid (show w5.cell? ⟨r, 3, none⟩ = some (.int .u64 (N : Int)) ∧ w5.cell? ⟨r, 0, none⟩ = some (.pointer (some ⟨b, 0, none⟩)) ∧ w5.cell? ⟨r, 1, none⟩ = some MV from ⟨hkk.at (o := 3) rfl, hkk.at (o := 0) rfl, hkk.at (o := 1) rfl⟩)
  refine ⟨HX.out, ?_⟩
  go_frame
  refine takeH 24 49 (.pointer (some ⟨r, 0, none⟩)) rfl rfl (by kernel_rfl) (by kernel_rfl) (by kernel_rfl) (fun _ _ _ h => h) rfl (fun w' h => by obtain ⟨h1, h2, h3⟩ := h; go_simp) HX.out ?_
  go_frame
  refine takeH 25 50 (.pointer (some ⟨r, 4, none⟩)) rfl rfl (by kernel_rfl) (by kernel_rfl) (by kernel_rfl) (fun _ _ _ h => h) rfl (fun w' h => by obtain ⟨h1, h2, h3⟩ := h; go_simp) HX.out ?_
  go_frame
  refine wpAnyH_all (rs := [26]) (by kernel_rfl) (by simp) ?_
  simp only [List.mem_singleton, forall_eq]
  refine wpOp_storeV rfl rfl rfl (w' := w5.setCell ⟨r, 4, none⟩ (.slice (some ⟨g, 0, none⟩) (L.length + 1) cap)) (by go_simp) ?_
  refine ⟨⟨h5.blk.at (o := 3) rfl, h5.blk.at (o := 0) rfl, h5.blk.at (o := 1) rfl⟩, ?_⟩
  refine wpAnyH_done (by kernel_rfl) ?_ _
  refine NoPanic.normal ?_
  obtain ⟨w6, hw6⟩ : ∃ w6, w6 = w5.setCell ⟨r, 4, none⟩ (.slice (some ⟨g, 0, none⟩) (L.length + 1) cap) := ⟨_, rfl⟩
  rw [← hw6] at H5 HX5 HM5 ⊢
  have HZ := Lib.hid HM4.out.size
  clear HX h5 ht5 hv5 hkk c5 f5 hO hg ho hw6 HN4 HSLS HST HSX H3 HX3 HM3 HB1 HB2 HQ0 HQ1 HQ2 HQ3 HQ4 HXX3 HXX4 HM3' HM4 HTL HQQ HET
  rotate_left
  obtain ⟨X2, hX2⟩ : ∃ X, X = X1.alloc (.cells #[.slice AT TX.length cT] 22) := ⟨_, rfl⟩
  have hb12 : Below X1.heap.size X1 X2 := by rw [hX2]; exact (Below.refl _ _).alloc (Nat.le_refl _) _
  have HB2 := Lib.hid (HB1.out.trans (hb12.mono HB1.out.size))
  have HQ2 := Lib.hid (H3.out.below HB2.out)
  have HSLS := Lib.hid (show Sls X2 X2.heap.size (.slice (some ⟨X1.heap.size, 0, none⟩) 1 1) [TX] from by rw [hX2, World.size_alloc]; exact Sls.one X1 TX (.slice AT TX.length cT) _ HST.out)
  refine wpOp_valueX 44 rfl rfl rfl (.slice (some ⟨X1.heap.size, 0, none⟩) 1 1) X2 (by rw [hX2]; go_simp) ⟨HSX.out X2 HQ2.out, ?_⟩
  go_frame
  clear hX2 hb12
  refine wpAnyH_all (rs := [4, 20]) (by kernel_rfl) (by simp) ?_
  simp only [List.mem_cons, List.not_mem_nil, or_false, forall_eq_or_imp, forall_eq]
  refine ⟨?_, ?_⟩
  have c4 : X2.cell? ⟨r, 4, none⟩ = some V := HQ2.out.blk.at (o := 4) rfl
  refine wpOp_valueD 29 rfl rfl rfl V (by go_simp) ⟨HSX.out X2 HQ2.out, ?_⟩
  go_frame
  clear c4
  refine wpAnyH_all (rs := [20]) (by kernel_rfl) (by simp) ?_
  simp only [List.mem_singleton, forall_eq]
  have HXX2 := Lib.hid (HX3.out.below HB2.out)
  have HM2 := Lib.hid (HM3.out.below HB2.out)
  refine wpOp_callD 45 rfl rfl rfl 15 #[.pointer (some ⟨b, 0, none⟩), MV, .slice (some ⟨X1.heap.size, 0, none⟩) 1 1] (by go_simp) ?_
  refine (mac_sym HXX2.out HQ2.out.mst (HQ2.out.offB HXX2.out).2.2.1 (by have := HQ2.out.kl; omega) HSLS.out (by simp) (by simp [Lib.lens]; have := HTX.out; omega) HQ2.out.size (Nat.le_refl _)).mono ?_
  rintro e X3 ⟨vM, rv3, rfl, hOM, hX3', ht3, -, -⟩
  simp only [List.flatten_cons, List.flatten_nil, List.append_nil] at hOM hX3'
  rw [← HET.out] at hOM hX3'
  obtain ⟨AM, cM, hvM, -⟩ := hOM.sl
  have HTL := Lib.hid (show OwnB X3 X2.heap.size vM (tagE es EE) from hOM)
  generalize (tagE es EE).length = mM at hvM
  subst hvM
  have HQ3 := Lib.hid (HQ2.out.box HXX2.out ht3)
  have HXX3 := Lib.hid hX3'
  have HM3' := Lib.hid (show Trs (rgS r V ++ bS b m rv) w X3 from HM2.out.trans (ht3.mono (fun k hk => List.mem_append_right _ hk)))
  have HZ2 := Lib.hid (show r < X2.heap.size ∧ b < X2.heap.size ∧ base ≤ X2.heap.size from ⟨HQ2.out.blk.lt, HXX2.out.blk.lt, HQ2.out.size⟩)
  refine ⟨_, rfl, HSX.out X3 HQ3.out, ?_⟩
  go_frame
  clear hOM hX3' ht3 HX HXX2 HM2
  have HX := Lib.hid (HSX.out X3 HQ3.out)
  refine takeH 21 46 (.agg #[.int .u64 (N : Int), .slice AM mM cM]) rfl rfl (by kernel_rfl) (by kernel_rfl) (by kernel_rfl) (fun _ _ _ h => h) rfl (fun w' h => by obtain ⟨h1, h2, h3⟩ := h; go_simp) HX.out ?_
  go_frame
  refine wpAnyH_all (rs := [22]) (by kernel_rfl) (by simp) ?_
  simp only [List.mem_singleton, forall_eq]
  obtain ⟨X4, hX4⟩ : ∃ X, X = X3.alloc (.cells #[.int .u64 (N : Int), .slice AM mM cM] 55) := ⟨_, rfl⟩
  have hb34 : Below X3.heap.size X3 X4 := by rw [hX4]; exact (Below.refl _ _).alloc (Nat.le_refl _) _
  have HQ4 := Lib.hid (HQ3.out.below hb34)
  have HXX4 := Lib.hid (HXX3.out.below hb34)
  have HM4 := Lib.hid (HM3'.out.below hb34)
  obtain ⟨q, hq⟩ : ∃ q : KyL, q = ⟨N, AM, mM, cM⟩ := ⟨_, rfl⟩
  have HQN := Lib.hid (show q.n = N from by rw [hq])
  have HQQ := Lib.hid (show q.n = 1 → OwnB X4 base (qv q) K1 ∧ (qv q).ownBlock ≠ some r ∧ (qv q).ownBlock ≠ some b from by
    intro hn
    have hlt := (HTL.out.lt)
    rw [HK.out (by rw [← hn, hq])]
    refine ⟨by rw [hq]; exact (HTL.out.lower HZ2.out.2.2).below hb34, fun e => ?_, fun e => ?_⟩
    · have := (hlt r (by rw [hq] at e; exact e)).1; have := HZ2.out.1; omega
    · have := (hlt b (by rw [hq] at e; exact e)).1; have := HZ2.out.2.1; omega)
  have HN4 := Lib.hid (show X4.heap[X3.heap.size]? = some (.cells q.cells.toArray tKy (0, 0)) from by rw [hX4, hq]; exact heap_alloc_new X3 _)
  refine wpOp_valueX 47 rfl rfl rfl (.slice (some ⟨X3.heap.size, 0, none⟩) 1 1) X4 (by rw [hX4]; go_simp) ⟨HSX.out X4 HQ4.out, ?_⟩
  go_frame
  clear hX4 hb34 hq
  refine wpAnyH_all (rs := [23]) (by kernel_rfl) (by simp) ?_
  simp only [List.mem_singleton, forall_eq]
  refine wpOp_appKy kyT 48 rfl rfl rfl (.tmp 29) (.tmp 47) rfl base V L rfl HQ4.out.own X3.heap.size q rfl HN4.out (by have := HL.out; omega) HQ4.out.size ?_
  intro g cap w5 hO hg ho
  obtain ⟨h5, ht5, hv5⟩ := HQ4.out.push q (by have := HL.out; omega) hO hg (by rcases ho with e | e; exact .inl e.symm; exact .inr (by rw [e]; rfl)) HQQ.out HXX4.out.blk.lt
  have H5 := Lib.hid h5
  have HX5 := Lib.hid (HXX4.out.ring HQ4.out ht5)
  have HM5 := Lib.hid (HM4.out.trans (ht5.mono (fun k hk => List.mem_append_left _ hk)))
  have HV5 := Lib.hid hv5
  have hkk := HQ4.out.blk.grown hg (fun e => HQ4.out.vr e.symm)
  have c5 : w5.cell? ⟨r, 4, none⟩ = some V := hkk.at (o := 4) rfl
  have f5 : w5.frozen? ⟨r, 4, none⟩ = false := hkk.free _
  clear HX
  have HX := Lib.hid (show w5.cell? ⟨r, 3, none⟩ = some (.int .u64 (N : Int)) ∧ w5.cell? ⟨r, 0, none⟩ = some (.pointer (some ⟨b, 0, none⟩)) ∧ w5.cell? ⟨r, 1, none⟩ = some MV from ⟨hkk.at (o := 3) rfl, hkk.at (o := 0) rfl, hkk.at (o := 1) rfl⟩)
  refine ⟨HX.out, ?_⟩
  go_frame
  refine takeH 24 49 (.pointer (some ⟨r, 0, none⟩)) rfl rfl (by kernel_rfl) (by kernel_rfl) (by kernel_rfl) (fun _ _ _ h => h) rfl (fun w' h => by obtain ⟨h1, h2, h3⟩ := h; go_simp) HX.out ?_
  go_frame
  refine takeH 25 50 (.pointer (some ⟨r, 4, none⟩)) rfl rfl (by kernel_rfl) (by kernel_rfl) (by kernel_rfl) (fun _ _ _ h => h) rfl (fun w' h => by obtain ⟨h1, h2, h3⟩ := h; go_simp) HX.out ?_
  go_frame
  refine wpAnyH_all (rs := [26]) (by kernel_rfl) (by simp) ?_
  simp only [List.mem_singleton, forall_eq]
  refine wpOp_storeV rfl rfl rfl (w' := w5.setCell ⟨r, 4, none⟩ (.slice (some ⟨g, 0, none⟩) (L.length + 1) cap)) (by go_simp) ?_
  refine ⟨⟨h5.blk.at (o := 3) rfl, h5.blk.at (o := 0) rfl, h5.blk.at (o := 1) rfl⟩, ?_⟩
  refine wpAnyH_done (by kernel_rfl) ?_ _
  refine NoPanic.normal ?_
  obtain ⟨w6, hw6⟩ : ∃ w6, w6 = w5.setCell ⟨r, 4, none⟩ (.slice (some ⟨g, 0, none⟩) (L.length + 1) cap) := ⟨_, rfl⟩
  rw [← hw6] at H5 HX5 HM5 ⊢
  have HZ := Lib.hid HM4.out.size
  clear HX h5 ht5 hv5 hkk c5 f5 hO hg ho hw6 HN4 HSLS HST HSX H3 HX3 HM3 HB1 HB2 HQ0 HQ1 HQ2 HQ3 HQ4 HXX3 HXX4 HM3' HM4 HTL HQQ HET
  rotate_left
  have HXX2 := Lib.hid (HX3.out.below HB2.out)
  have HM2 := Lib.hid (HM3.out.below HB2.out)
  refine wpOp_callD 45 rfl rfl rfl 15 #[.pointer (some ⟨b, 0, none⟩), MV, .slice (some ⟨X1.heap.size, 0, none⟩) 1 1] (by go_simp) ?_
  refine (mac_sym HXX2.out HQ2.out.mst (HQ2.out.offB HXX2.out).2.2.1 (by have := HQ2.out.kl; omega) HSLS.out (by simp) (by simp [Lib.lens]; have := HTX.out; omega) HQ2.out.size (Nat.le_refl _)).mono ?_
  rintro e X3 ⟨vM, rv3, rfl, hOM, hX3', ht3, -, -⟩
  simp only [List.flatten_cons, List.flatten_nil, List.append_nil] at hOM hX3'
  rw [← HET.out] at hOM hX3'
  obtain ⟨AM, cM, hvM, -⟩ := hOM.sl
  have HTL := Lib.hid (show OwnB X3 X2.heap.size vM (tagE es EE) from hOM)
  generalize (tagE es EE).length = mM at hvM
  subst hvM
  have HQ3 := Lib.hid (HQ2.out.box HXX2.out ht3)
  have HXX3 := Lib.hid hX3'
  have HM3' := Lib.hid (show Trs (rgS r V ++ bS b m rv) w X3 from HM2.out.trans (ht3.mono (fun k hk => List.mem_append_right _ hk)))
  have HZ2 := Lib.hid (show r < X2.heap.size ∧ b < X2.heap.size ∧ base ≤ X2.heap.size from ⟨HQ2.out.blk.lt, HXX2.out.blk.lt, HQ2.out.size⟩)
  refine ⟨_, rfl, HSX.out X3 HQ3.out, ?_⟩
  go_frame
  clear hOM hX3' ht3 HX HXX2 HM2
  have HX := Lib.hid (HSX.out X3 HQ3.out)
  refine takeH 21 46 (.agg #[.int .u64 (N : Int), .slice AM mM cM]) rfl rfl (by kernel_rfl) (by kernel_rfl) (by kernel_rfl) (fun _ _ _ h => h) rfl (fun w' h => by obtain ⟨h1, h2, h3⟩ := h; go_simp) HX.out ?_
  go_frame
  refine wpAnyH_all (rs := [4, 22]) (by kernel_rfl) (by simp) ?_
  simp only [List.mem_cons, List.not_mem_nil, or_false, forall_eq_or_imp, forall_eq]
  refine ⟨?_, ?_⟩
  have c4 : X3.cell? ⟨r, 4, none⟩ = some V := HQ3.out.blk.at (o := 4) rfl
  refine wpOp_valueD 29 rfl rfl rfl V (by go_simp) ⟨HSX.out X3 HQ3.out, ?_⟩
  go_frame
  clear c4
  refine wpAnyH_all (rs := [22]) (by kernel_rfl) (by simp) ?_
  simp only [List.mem_singleton, forall_eq]
  obtain ⟨X4, hX4⟩ : ∃ X, X = X3.alloc (.cells #[.int .u64 (N : Int), .slice AM mM cM] 55) := ⟨_, rfl⟩
  have hb34 : Below X3.heap.size X3 X4 := by rw [hX4]; exact (Below.refl _ _).alloc (Nat.le_refl _) _
  have HQ4 := Lib.hid (HQ3.out.below hb34)
  have HXX4 := Lib.hid (HXX3.out.below hb34)
  have HM4 := Lib.hid (HM3'.out.below hb34)
  obtain ⟨q, hq⟩ : ∃ q : KyL, q = ⟨N, AM, mM, cM⟩ := ⟨_, rfl⟩
  have HQN := Lib.hid (show q.n = N from by rw [hq])
  have HQQ := Lib.hid (show q.n = 1 → OwnB X4 base (qv q) K1 ∧ (qv q).ownBlock ≠ some r ∧ (qv q).ownBlock ≠ some b from by
    intro hn
    have hlt := (HTL.out.lt)
    rw [HK.out (by rw [← hn, hq])]
    refine ⟨by rw [hq]; exact (HTL.out.lower HZ2.out.2.2).below hb34, fun e => ?_, fun e => ?_⟩
    · have := (hlt r (by rw [hq] at e; exact e)).1; have := HZ2.out.1; omega
    · have := (hlt b (by rw [hq] at e; exact e)).1; have := HZ2.out.2.1; omega)
  have HN4 := Lib.hid (show X4.heap[X3.heap.size]? = some (.cells q.cells.toArray tKy (0, 0)) from by rw [hX4, hq]; exact heap_alloc_new X3 _)
  refine wpOp_valueX 47 rfl rfl rfl (.slice (some ⟨X3.heap.size, 0, none⟩) 1 1) X4 (by rw [hX4]; go_simp) ⟨HSX.out X4 HQ4.out, ?_⟩
  go_frame
  clear hX4 hb34 hq
  refine wpAnyH_all (rs := [23]) (by kernel_rfl) (by simp) ?_
  simp only [List.mem_singleton, forall_eq]
  refine wpOp_appKy kyT 48 rfl rfl rfl (.tmp 29) (.tmp 47) rfl base V L rfl HQ4.out.own X3.heap.size q rfl HN4.out (by have := HL.out; omega) HQ4.out.size ?_
  intro g cap w5 hO hg ho
  obtain ⟨h5, ht5, hv5⟩ := HQ4.out.push q (by have := HL.out; omega) hO hg (by rcases ho with e | e; exact .inl e.symm; exact .inr (by rw [e]; rfl)) HQQ.out HXX4.out.blk.lt
  have H5 := Lib.hid h5
  have HX5 := Lib.hid (HXX4.out.ring HQ4.out ht5)
  have HM5 := Lib.hid (HM4.out.trans (ht5.mono (fun k hk => List.mem_append_left _ hk)))
  have HV5 := Lib.hid hv5
  have hkk := HQ4.out.blk.grown hg (fun e => HQ4.out.vr e.symm)
  have c5 : w5.cell? ⟨r, 4, none⟩ = some V := hkk.at (o := 4) rfl
  have f5 : w5.frozen? ⟨r, 4, none⟩ = false := hkk.free _
  clear HX
  have HX := Lib.hid (show w5.cell? ⟨r, 3, none⟩ = some (.int .u64 (N : Int)) ∧ w5.cell? ⟨r, 0, none⟩ = some (.pointer (some ⟨b, 0, none⟩)) ∧ w5.cell? ⟨r, 1, none⟩ = some MV from ⟨hkk.at (o := 3) rfl, hkk.at (o := 0) rfl, hkk.at (o := 1) rfl⟩)
  refine ⟨HX.out, ?_⟩
  go_frame
  refine takeH 24 49 (.pointer (some ⟨r, 0, none⟩)) rfl rfl (by kernel_rfl) (by kernel_rfl) (by kernel_rfl) (fun _ _ _ h => h) rfl (fun w' h => by obtain ⟨h1, h2, h3⟩ := h; go_simp) HX.out ?_
  go_frame
  refine takeH 25 50 (.pointer (some ⟨r, 4, none⟩)) rfl rfl (by kernel_rfl) (by kernel_rfl) (by kernel_rfl) (fun _ _ _ h => h) rfl (fun w' h => by obtain ⟨h1, h2, h3⟩ := h; go_simp) HX.out ?_
  go_frame
  refine wpAnyH_all (rs := [26]) (by kernel_rfl) (by simp) ?_
  simp only [List.mem_singleton, forall_eq]
  refine wpOp_storeV rfl rfl rfl (w' := w5.setCell ⟨r, 4, none⟩ (.slice (some ⟨g, 0, none⟩) (L.length + 1) cap)) (by go_simp) ?_
  refine ⟨⟨h5.blk.at (o := 3) rfl, h5.blk.at (o := 0) rfl, h5.blk.at (o := 1) rfl⟩, ?_⟩
  refine wpAnyH_done (by kernel_rfl) ?_ _
  refine NoPanic.normal ?_
  obtain ⟨w6, hw6⟩ : ∃ w6, w6 = w5.setCell ⟨r, 4, none⟩ (.slice (some ⟨g, 0, none⟩) (L.length + 1) cap) := ⟨_, rfl⟩
  rw [← hw6] at H5 HX5 HM5 ⊢
  have HZ := Lib.hid HM4.out.size
  clear HX h5 ht5 hv5 hkk c5 f5 hO hg ho hw6 HN4 HSLS HST HSX H3 HX3 HM3 HB1 HB2 HQ0 HQ1 HQ2 HQ3 HQ4 HXX3 HXX4 HM3' HM4 HTL HQQ HET
  rotate_left
  obtain ⟨X4, hX4⟩ : ∃ X, X = X3.alloc (.cells #[.int .u64 (N : Int), .slice AM mM cM] 55) := ⟨_, rfl⟩
  have hb34 : Below X3.heap.size X3 X4 := by rw [hX4]; exact (Below.refl _ _).alloc (Nat.le_refl _) _
  have HQ4 := Lib.hid (HQ3.out.below hb34)
  have HXX4 := Lib.hid (HXX3.out.below hb34)
  have HM4 := Lib.hid (HM3'.out.below hb34)
  obtain ⟨q, hq⟩ : ∃ q : KyL, q = ⟨N, AM, mM, cM⟩ := ⟨_, rfl⟩
  have HQN := Lib.hid (show q.n = N from by rw [hq])
  have HQQ := Lib.hid (show q.n = 1 → OwnB X4 base (qv q) K1 ∧ (qv q).ownBlock ≠ some r ∧ (qv q).ownBlock ≠ some b from by
    intro hn
    have hlt := (HTL.out.lt)
    rw [HK.out (by rw [← hn, hq])]
    refine ⟨by rw [hq]; exact (HTL.out.lower HZ2.out.2.2).below hb34, fun e => ?_, fun e => ?_⟩
    · have := (hlt r (by rw [hq] at e; exact e)).1; have := HZ2.out.1; omega
    · have := (hlt b (by rw [hq] at e; exact e)).1; have := HZ2.out.2.1; omega)
  have HN4 := Lib.hid (show X4.heap[X3.heap.size]? = some (.cells q.cells.toArray tKy (0, 0)) from by rw [hX4, hq]; exact heap_alloc_new X3 _)
  refine wpOp_valueX 47 rfl rfl rfl (.slice (some ⟨X3.heap.size, 0, none⟩) 1 1) X4 (by rw [hX4]; go_simp) ⟨HSX.out X4 HQ4.out, ?_⟩
  go_frame
  clear hX4 hb34 hq
  refine wpAnyH_all (rs := [4]) (by kernel_rfl) (by simp) ?_
  simp only [List.mem_singleton, forall_eq]
  have c4 : X4.cell? ⟨r, 4, none⟩ = some V := HQ4.out.blk.at (o := 4) rfl
  refine wpOp_valueD 29 rfl rfl rfl V (by go_simp) ⟨HSX.out X4 HQ4.out, ?_⟩
  go_frame
  clear c4
  refine wpAnyH_all (rs := [23]) (by kernel_rfl) (by simp) ?_
  simp only [List.mem_singleton, forall_eq]
  refine wpOp_appKy kyT 48 rfl rfl rfl (.tmp 29) (.tmp 47) rfl base V L rfl HQ4.out.own X3.heap.size q rfl HN4.out (by have := HL.out; omega) HQ4.out.size ?_
  intro g cap w5 hO hg ho
  obtain ⟨h5, ht5, hv5⟩ := HQ4.out.push q (by have := HL.out; omega) hO hg (by rcases ho with e | e; exact .inl e.symm; exact .inr (by rw [e]; rfl)) HQQ.out HXX4.out.blk.lt
  have H5 := Lib.hid h5
  have HX5 := Lib.hid (HXX4.out.ring HQ4.out ht5)
  have HM5 := Lib.hid (HM4.out.trans (ht5.mono (fun k hk => List.mem_append_left _ hk)))
  have HV5 := Lib.hid hv5
  have hkk := HQ4.out.blk.grown hg (fun e => HQ4.out.vr e.symm)
  have c5 : w5.cell? ⟨r, 4, none⟩ = some V := hkk.at (o := 4) rfl
  have f5 : w5.frozen? ⟨r, 4, none⟩ = false := hkk.free _
  clear HX
  have HX := Lib.hid (show w5.cell? ⟨r, 3, none⟩ = some (.int .u64 (N : Int)) ∧ w5.cell? ⟨r, 0, none⟩ = some (.pointer (some ⟨b, 0, none⟩)) ∧ w5.cell? ⟨r, 1, none⟩ = some MV from ⟨hkk.at (o := 3) rfl, hkk.at (o := 0) rfl, hkk.at (o := 1) rfl⟩)
  refine ⟨HX.out, ?_⟩
  go_frame
  refine takeH 24 49 (.pointer (some ⟨r, 0, none⟩)) rfl rfl (by kernel_rfl) (by kernel_rfl) (by kernel_rfl) (fun _ _ _ h => h) rfl (fun w' h => by obtain ⟨h1, h2, h3⟩ := h; go_simp) HX.out ?_
  go_frame
  refine takeH 25 50 (.pointer (some ⟨r, 4, none⟩)) rfl rfl (by kernel_rfl) (by kernel_rfl) (by kernel_rfl) (fun _ _ _ h => h) rfl (fun w' h => by obtain ⟨h1, h2, h3⟩ := h; go_simp) HX.out ?_
  go_frame
  refine wpAnyH_all (rs := [26]) (by kernel_rfl) (by simp) ?_
  simp only [List.mem_singleton, forall_eq]
  refine wpOp_storeV rfl rfl rfl (w' := w5.setCell ⟨r, 4, none⟩ (.slice (some ⟨g, 0, none⟩) (L.length + 1) cap)) (by go_simp) ?_
  refine ⟨⟨h5.blk.at (o := 3) rfl, h5.blk.at (o := 0) rfl, h5.blk.at (o := 1) rfl⟩, ?_⟩
  refine wpAnyH_done (by kernel_rfl) ?_ _
  refine NoPanic.normal ?_
  obtain ⟨w6, hw6⟩ : ∃ w6, w6 = w5.setCell ⟨r, 4, none⟩ (.slice (some ⟨g, 0, none⟩) (L.length + 1) cap) := ⟨_, rfl⟩
  rw [← hw6] at H5 HX5 HM5 ⊢
  have HZ := Lib.hid HM4.out.size
  clear HX h5 ht5 hv5 hkk c5 f5 hO hg ho hw6 HN4 HSLS HST HSX H3 HX3 HM3 HB1 HB2 HQ0 HQ1 HQ2 HQ3 HQ4 HXX3 HXX4 HM3' HM4 HTL HQQ HET
  rotate_left
  all_goals
    obtain ⟨M, hM⟩ : ∃ M, M = L ++ [q] := ⟨_, rfl⟩
    have hMl : L.length + 1 = M.length := by rw [hM]; simp
    have HMN := Lib.hid (show M.map KyL.n = L.map KyL.n ++ [N] from by rw [hM, List.map_append, List.map_singleton, HQN.out])
    rw [← hM, hMl] at H5
    rw [hMl] at HV5 ⊢
    have HML := Lib.hid (show M.length ≤ 51 ∧ 1 ≤ M.length from by have := HL.out; omega)
    have k4 := H5.out.blk.at (o := 4) (v := .slice (some ⟨g, 0, none⟩) M.length cap) rfl
    have k2 := H5.out.blk.at (o := 2) (v := .int .i64 (room : Int)) rfl
    have k3 := H5.out.blk.at (o := 3) (v := .int .u64 (N : Int)) rfl
    have HVS := Lib.hid (show ∀ i ∈ rgS r (.slice (some ⟨g, 0, none⟩) M.length cap), i ∈ rgS r V ∨ w.heap.size ≤ i from by
      intro i hi
      rcases mem_rgS.1 hi with e | e
      · exact .inl (mem_rgS.2 (.inl e))
      · rcases HV5.out with q1 | q1
        · exact .inl (mem_rgS.2 (.inr (q1 ▸ e)))
        · exact .inr (Nat.le_trans HZ.out (q1 i e)))
    clear hM hMl HQN HZ HV5
    by_cases hov : room < M.length
    · have d1 : decide ((room : Int) < (M.length : Int)) = true := decide_eq_true (by omega)
      have d2 : (room : Int) < (M.length : Int) := by omega
      have HKP := Lib.hid (show keepQ room (L.map KyL.n ++ [N]) = (M.drop 1).map KyL.n from by unfold keepQ; rw [← HMN.out, List.length_map, if_pos hov, List.map_drop])
      clear hov
      go_wp2_with fail
      go_quiet (fail)
      obtain ⟨W7, hW7⟩ : ∃ W7, W7 = w6.drewN nq := ⟨_, rfl⟩
      have H7 := Lib.hid (show RQ W7 base r b (.slice (some ⟨g, 0, none⟩) M.length cap) MV room N M key K1 from by rw [hW7]; exact H5.out.below (below_drewN (Below.refl _ _) nq))
      have HX7 := Lib.hid (show BX W7 base b m rv3 true (fullE full es EE) (esE es EE) from by rw [hW7]; exact HX5.out.below (below_drewN (Below.refl _ _) nq))
      have HM7 := Lib.hid (show Trs (rgS r V ++ bS b m rv) w W7 from by rw [hW7]; exact HM5.out.below (below_drewN (Below.refl _ _) nq))
      rw [← hW7]
      clear hW7 H5 HX5 HM5 k4 k2 k3
      have k4 := H7.out.blk.at (o := 4) (v := .slice (some ⟨g, 0, none⟩) M.length cap) rfl
      have HDEL := Lib.hid (delete_ky base g cap M 0 1 rfl W7 H7.out.own (by have := HML.out; omega) (by have := HML.out; omega))
      go_wp2_with fail
      refine HDEL.out.mono ?_
      rintro e w8 ⟨rfl, hO8, hg8⟩
      obtain ⟨h9, ht9⟩ := H7.out.gone hO8 hg8 (by rw [List.length_append, List.length_take, List.length_drop]; have := HML.out; omega) (fun q hq => by rcases List.mem_append.1 hq with hq | hq; exact List.mem_of_mem_take hq; exact List.mem_of_mem_drop hq)
      have hk8 := H7.out.blk.grown hg8 (fun e => H7.out.vr e.symm)
      have HX9 := Lib.hid (HX7.out.ring H7.out ht9)
      have HM9 := Lib.hid (HM7.out.next ht9 (fun i hi => (HVS.out i hi).imp (fun h => List.mem_append_left _ h) id))
      have H9 := Lib.hid h9
      have c8 : w8.cell? ⟨r, 4, none⟩ = some (.slice (some ⟨g, 0, none⟩) M.length cap) := hk8.at (o := 4) rfl
      have f8 := hk8.free 4
      have n8 : w8.cell? ⟨r, 3, none⟩ = some (.int .u64 (N : Int)) := hk8.at (o := 3) rfl
      clear h9 ht9 hk8 hO8 hg8 HDEL H7 HX7 HM7 k4
      go_wp2_with fail
      go_ret2
      refine ⟨rfl, _, _, _, H9.out, HX9.out, ?_, HM9.out⟩
      rw [HKP.out]; rfl
    · have d1 : decide ((room : Int) < (M.length : Int)) = false := decide_eq_false (by omega)
      have d2 : ¬ (room : Int) < (M.length : Int) := by omega
      have HKP := Lib.hid (show keepQ room (L.map KyL.n ++ [N]) = M.map KyL.n from by unfold keepQ; rw [← HMN.out, List.length_map, if_neg hov])
      clear hov
      go_wp2_with fail
      go_quiet (fail)
      obtain ⟨W7, hW7⟩ : ∃ W7, W7 = w6.drewN nq := ⟨_, rfl⟩
      have H7 := Lib.hid (show RQ W7 base r b (.slice (some ⟨g, 0, none⟩) M.length cap) MV room N M key K1 from by rw [hW7]; exact H5.out.below (below_drewN (Below.refl _ _) nq))
      have HX7 := Lib.hid (show BX W7 base b m rv3 true (fullE full es EE) (esE es EE) from by rw [hW7]; exact HX5.out.below (below_drewN (Below.refl _ _) nq))
      have HM7 := Lib.hid (show Trs (rgS r V ++ bS b m rv) w W7 from by rw [hW7]; exact HM5.out.below (below_drewN (Below.refl _ _) nq))
      rw [← hW7]
      clear hW7 H5 HX5 HM5 k4 k2 k3
      have k3 := H7.out.blk.at (o := 3) (v := .int .u64 (N : Int)) rfl
      go_wp2_with fail
      go_ret2
      exact ⟨rfl, _, _, _, H7.out, HX7.out, HKP.out.symm, HM7.out⟩
end Go.Proofs.YtcjjhaonogfcjaaDoor
