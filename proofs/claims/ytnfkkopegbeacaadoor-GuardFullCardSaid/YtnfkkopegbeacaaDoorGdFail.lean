/- guard: Fail. -/
import Derived.Test.YtnfkkopegbeacaaDoorGdOps
import Derived.Test.YtnfkkopegbeacaaDoorReg
set_option maxRecDepth 100000
namespace Go.Proofs.YtnfkkopegbeacaaDoor
open Go.RowKit Go.Shelf
theorem wpOp_storeG {P : Program} {ops : Array Oper} {Q : Exit → Act → World → Prop} {K : Act → World → Prop} {a : Act} {w w' : World} {i : Nat} {o : Oper} (hi : ops[i]? = some o) (hd : o.dst = none) (hw : Region.wanted o (yielded ops a.tmps) = true)
    (hr : (execOp a.eval o).run P w = .ok .skip w') (h : K a w') : wpOp P ops Q i K a w :=
  wpOp_of_wp hi hw (by unfold Oper.wp; rw [hr]; show K (a.put o.dst undef) w'; rw [hd]; exact h)
section
variable {w w1 w' : World} {base G T m cap : Nat} {b mo ho : Int} {l : List (List UInt8 × VT)}
/-- What Fail makes of an entry. -/
def fe (b mo : Int) (v : VT) (now : Int) : VT := ⟨v.s, min (v.f + 1) 60, now, aftL now (wI b (tI mo) (exN (min (v.f + 1) 60)))⟩
def failL (b mo : Int) (l : List (List UInt8 × VT)) (s : List UInt8) (now : Int) : Int × List (List UInt8 × VT) :=
  if srcB s then (match getL l s with
    | some v => setL l s (fe b mo v now)
    | none => (6, l))
  else (4, l)
set_option maxHeartbeats 1000000 in
theorem fail_some (h : GD w base G T m cap b mo ho l) (s : List UInt8) (now : Int) (v : VT) (hs : s.length ≤ 600) (hT : Lib.Utf8Tabs 0 1 w)
    (b0 : 0 ≤ b) (b1 : b < 18446744073709551616) (m0 : 0 ≤ mo) (m1 : mo < 18446744073709551616) (n0 : 0 ≤ now) (n1 : now ≤ 18446744073709551615) (hsrc : srcB s = true) (hg : getL l s = some v) (hf0 : 0 ≤ v.f) (hf1 : v.f ≤ 60) :
    Calls Tryd.prog 10 #[tP G, strT s, u64v now] w fun e w' => e = .returned (.int .i64 (setL l s (fe b mo v now)).1) ∧ GD w' base G T m cap b mo ho (setL l s (fe b mo v now)).2 ∧ Below base w w' := by
  have HI := Lib.hid (isSource_any s w hs hT)
  rw [hsrc] at HI
  have H := Lib.hid h
  have HBL := Lib.hid h.tb.base_le
  clear h hT
  obtain ⟨F, hF⟩ : ∃ F, F = min (v.f + 1) 60 := ⟨_, rfl⟩
  have hF3 : 0 ≤ F ∧ F ≤ 60 := by omega
  have hfe : fe b mo v now = ⟨v.s, F, now, aftL now (wI b (tI mo) (exN F))⟩ := by unfold fe; rw [← hF]
  rw [hfe]
  clear hfe
  have HG := Lib.hid hg; clear hg
  obtain ⟨vs, vf, va, vu⟩ := v
  simp only at hf0 hf1 hF ⊢
  have HF := Lib.hid hF; clear hF
  obtain ⟨U, hU⟩ : ∃ U, U = aftL now (wI b (tI mo) (exN F)) := ⟨_, rfl⟩
  have hwr := wI_nonneg (b := b) (m := tI mo) b0 (tI_range m0).1 (exN F)
  have hwl := wI_le (b := b) (m := tI mo) (exN F)
  have htr := (tI_range m0).2
  rw [← hU]
  go_enter Tryd.func10, Tryd.ntmps10
  go_wp2_with fail
  refine HI.out.mono ?_
  rintro e w1 ⟨rfl, hB⟩
  have h1 := H.out.keep hB
  have H1 := Lib.hid h1
  have c3 : w1.cell? ⟨G, 3, none⟩ = some (tP T) := h1.blk.at rfl
  have HB := Lib.hid (hB.mono HBL.out)
  clear hB HI h1
  go_wp2_with fail
  refine (getd_tb H1.out.tb s (by omega) HG.out).mono ?_
  rintro e w2 ⟨rfl, hB2⟩
  have H2 := Lib.hid (H1.out.keep hB2)
  have HB2 := Lib.hid (HB.out.trans (hB2.mono H1.out.tb.base_le))
  clear hB2 c3
  simp only
  go_wp2_with fail
  rw [← HF.out]
  obtain ⟨P, hP⟩ : ∃ P, P = w2.heap.size := ⟨_, rfl⟩
  obtain ⟨W, hW⟩ : ∃ W, W = w2.alloc (.cells #[.string ⟨vs.toArray⟩, .int .i64 F, .int .u64 now, .int .u64 vu] 51) := ⟨_, rfl⟩
  have hbk : BlkT W P 51 [strT vs, .int .i64 F, .int .u64 now, .int .u64 vu] := by rw [hW, hP]; exact heap_alloc_new w2 _
  have hgd : GD W base G T m cap b mo ho l := by rw [hW]; exact H2.out.keep ((Below.refl _ _).alloc (Nat.le_refl _) _)
  have hBW : Below base w W := by rw [hW]; exact HB2.out.alloc H2.out.tb.base_le _
  have hbP : base ≤ P := by rw [hP]; exact H2.out.tb.base_le
  have hGP : G ≠ P := by have := H2.out.blk.lt; omega
  have hBP : Below P w2 W := by rw [hW, hP]; exact (Below.refl _ _).alloc (Nat.le_refl _) _
  have HK : Hid (∀ X', Below P W X' → GD X' base G T m cap b mo ho l) := Lib.hid (fun X' hb => H2.out.keep (by rw [← hP]; exact hBP.trans hb))
  rw [← hW, ← hP]
  clear hW hP HB2 H2 H1 HB HG hBP
  have HBK := Lib.hid hbk
  have HGD := Lib.hid hgd
  have HBW := Lib.hid hBW
  clear hBW
  refine wp_region_noPanic ?_
  refine wp_region_held (S := fun w' => w'.cell? ⟨G, 0, none⟩ = some (u64v b) ∧ w'.cell? ⟨G, 1, none⟩ = some (u64v mo) ∧ w'.cell? ⟨P, 1, none⟩ = some (.int .i64 F)) (by kernel_rfl) ?_
  change wpAnyH _ _ _ _ _ _ _ _ W.drew
  have hS0 : W.drew.cell? ⟨G, 0, none⟩ = some (u64v b) ∧ W.drew.cell? ⟨G, 1, none⟩ = some (u64v mo) ∧ W.drew.cell? ⟨P, 1, none⟩ = some (.int .i64 F) := ⟨hgd.blk.drew.at rfl, hgd.blk.drew.at rfl, hbk.drew.at rfl⟩
  clear hgd hbk
  refine takeH 0 32 (u64v now) rfl rfl (by kernel_rfl) (by kernel_rfl) (by kernel_rfl) (fun _ _ _ h => h) rfl (fun w' hS => by obtain ⟨s0, s1, s2⟩ := hS; go_simp) hS0 ?_
  go_frame
  refine takeH 1 33 (tP G) rfl rfl (by kernel_rfl) (by kernel_rfl) (by kernel_rfl) (fun _ _ _ h => h) rfl (fun w' hS => by obtain ⟨s0, s1, s2⟩ := hS; go_simp) hS0 ?_
  go_frame
  refine takeH 2 34 (Value.pointer (some ⟨G, 0, none⟩)) rfl rfl (by kernel_rfl) (by kernel_rfl) (by kernel_rfl) (fun _ _ _ h => h) rfl (fun w' hS => by obtain ⟨s0, s1, s2⟩ := hS; go_simp) hS0 ?_
  go_frame
  refine takeH 3 35 (Value.pointer (some ⟨G, 0, none⟩)) rfl rfl (by kernel_rfl) (by kernel_rfl) (by kernel_rfl) (fun _ _ _ h => h) rfl (fun w' hS => by obtain ⟨s0, s1, s2⟩ := hS; go_simp) hS0 ?_
  go_frame
  refine takeH 4 36 (u64v b) rfl rfl (by kernel_rfl) (by kernel_rfl) (by kernel_rfl) (fun _ _ _ h => h) rfl (fun w' hS => by obtain ⟨s0, s1, s2⟩ := hS; go_simp) hS0 ?_
  go_frame
  refine takeH 5 37 (tP G) rfl rfl (by kernel_rfl) (by kernel_rfl) (by kernel_rfl) (fun _ _ _ h => h) rfl (fun w' hS => by obtain ⟨s0, s1, s2⟩ := hS; go_simp) hS0 ?_
  go_frame
  refine takeH 6 38 (Value.pointer (some ⟨G, 0, none⟩)) rfl rfl (by kernel_rfl) (by kernel_rfl) (by kernel_rfl) (fun _ _ _ h => h) rfl (fun w' hS => by obtain ⟨s0, s1, s2⟩ := hS; go_simp) hS0 ?_
  go_frame
  refine takeH 7 39 (Value.pointer (some ⟨G, 1, none⟩)) rfl rfl (by kernel_rfl) (by kernel_rfl) (by kernel_rfl) (fun _ _ _ h => h) rfl (fun w' hS => by obtain ⟨s0, s1, s2⟩ := hS; go_simp) hS0 ?_
  go_frame
  refine takeH 8 40 (u64v mo) rfl rfl (by kernel_rfl) (by kernel_rfl) (by kernel_rfl) (fun _ _ _ h => h) rfl (fun w' hS => by obtain ⟨s0, s1, s2⟩ := hS; go_simp) hS0 ?_
  go_frame
  refine takeH 9 41 (Value.pointer (some ⟨P, 1, none⟩)) rfl rfl (by kernel_rfl) (by kernel_rfl) (by kernel_rfl) (fun _ _ _ h => h) rfl (fun w' hS => by obtain ⟨s0, s1, s2⟩ := hS; go_simp) hS0 ?_
  go_frame
  refine takeH 10 42 (.int .i64 F) rfl rfl (by kernel_rfl) (by kernel_rfl) (by kernel_rfl) (fun _ _ _ h => h) rfl (fun w' hS => by obtain ⟨s0, s1, s2⟩ := hS; go_simp) hS0 ?_
  go_frame
  refine wpAnyH_all (rs := [11]) (by kernel_rfl) (by simp) ?_
  simp only [List.mem_singleton, forall_eq]
  refine wpOp_callD 43 rfl rfl rfl 25 #[u64v b, u64v mo, .int .i64 F] (by go_simp) ?_
  refine (wait_any b mo F W.drew b0 b1 m0 m1 (by omega) (by omega)).mono ?_
  rintro e w3 ⟨rfl, rfl⟩
  refine ⟨_, rfl, hS0, ?_⟩
  go_frame
  refine wpAnyH_all (rs := [12]) (by kernel_rfl) (by simp) ?_
  simp only [List.mem_singleton, forall_eq]
  refine wpOp_callD 44 rfl rfl rfl 24 #[u64v now, u64v (wI b (tI mo) (exN F))] (by go_simp) ?_
  refine (after_any now (wI b (tI mo) (exN F)) W.drew n0 n1 (by omega) (by omega)).mono ?_
  rintro e w3 ⟨rfl, rfl⟩
  rw [← hU]
  refine ⟨_, rfl, hS0, ?_⟩
  go_frame
  refine takeH 13 45 (Value.pointer (some ⟨P, 3, none⟩)) rfl rfl (by kernel_rfl) (by kernel_rfl) (by kernel_rfl) (fun _ _ _ h => h) rfl (fun w' hS => by go_simp) hS0 ?_
  go_frame
  refine wpAnyH_all (rs := [14]) (by kernel_rfl) (by simp) ?_
  simp only [List.mem_singleton, forall_eq]
  have hbk := HBK.out.drew
  have p3 : W.drew.cell? ⟨P, 3, none⟩ = some (.int .u64 vu) := hbk.at rfl
  have q3 : W.drew.frozen? ⟨P, 3, none⟩ = false := hbk.free 3
  refine wpOp_storeG rfl rfl rfl (w' := W.drew.setCell ⟨P, 3, none⟩ (u64v U)) (by go_simp) ?_
  clear p3 q3 hbk
  obtain ⟨X, hX⟩ : ∃ X, X = W.drew.setCell ⟨P, 3, none⟩ (u64v U) := ⟨_, rfl⟩
  have hbk : BlkT X P 51 [strT vs, .int .i64 F, .int .u64 now, u64v U] := by rw [hX]; exact HBK.out.drew.set 3 (u64v U)
  have hgd : GD X base G T m cap b mo ho l := HK.out X (by rw [hX]; exact (Below.refl _ _).drew.setCell (Nat.le_refl P) _)
  have hBX : Below base w X := by rw [hX]; exact HBW.out.drew.setCell hbP _
  rw [← hX]
  refine ⟨⟨hgd.blk.at rfl, hgd.blk.at rfl, hbk.at rfl⟩, ?_⟩
  clear hX hS0 HBK HGD HBW
  refine wpAnyH_done (by kernel_rfl) ?_ _
  refine NoPanic.normal ?_
  have HBK := Lib.hid hbk
  have HGD := Lib.hid hgd
  have HBX := Lib.hid hBX
  clear hBX
  go_wp2_with fail
  refine wp_region_noPanic ?_
  refine wp_region_held (S := (fun w' => w'.cell? ⟨G, 3, none⟩ = some (tP T) ∧ w'.cell? ⟨P, 0, none⟩ = some (strT vs) ∧ w'.cell? ⟨P, 1, none⟩ = some (.int .i64 F) ∧ w'.cell? ⟨P, 2, none⟩ = some (u64v now) ∧ w'.cell? ⟨P, 3, none⟩ = some (u64v U))) (by kernel_rfl) ?_
  change wpAnyH _ _ _ _ _ _ _ _ X.drew
  have hS0 : X.drew.cell? ⟨G, 3, none⟩ = some (tP T) ∧ X.drew.cell? ⟨P, 0, none⟩ = some (strT vs) ∧ X.drew.cell? ⟨P, 1, none⟩ = some (.int .i64 F) ∧ X.drew.cell? ⟨P, 2, none⟩ = some (u64v now) ∧ X.drew.cell? ⟨P, 3, none⟩ = some (u64v U) := ⟨hgd.blk.drew.at rfl, hbk.drew.at rfl, hbk.drew.at rfl, hbk.drew.at rfl, hbk.drew.at rfl⟩
  clear hgd hbk
  refine takeH 0 46 (tP G) rfl rfl (by kernel_rfl) (by kernel_rfl) (by kernel_rfl) (fun _ _ _ h => h) rfl (fun w' hS => by obtain ⟨s0, s1, s2, s3, s4⟩ := hS; go_simp) hS0 ?_
  go_frame
  refine takeH 1 47 (Value.pointer (some ⟨G, 0, none⟩)) rfl rfl (by kernel_rfl) (by kernel_rfl) (by kernel_rfl) (fun _ _ _ h => h) rfl (fun w' hS => by obtain ⟨s0, s1, s2, s3, s4⟩ := hS; go_simp) hS0 ?_
  go_frame
  refine takeH 2 48 (Value.pointer (some ⟨G, 3, none⟩)) rfl rfl (by kernel_rfl) (by kernel_rfl) (by kernel_rfl) (fun _ _ _ h => h) rfl (fun w' hS => by obtain ⟨s0, s1, s2, s3, s4⟩ := hS; go_simp) hS0 ?_
  go_frame
  refine takeH 3 49 (tP T) rfl rfl (by kernel_rfl) (by kernel_rfl) (by kernel_rfl) (fun _ _ _ h => h) rfl (fun w' hS => by obtain ⟨s0, s1, s2, s3, s4⟩ := hS; go_simp) hS0 ?_
  go_frame
  refine takeH 4 50 (strT s) rfl rfl (by kernel_rfl) (by kernel_rfl) (by kernel_rfl) (fun _ _ _ h => h) rfl (fun w' hS => by obtain ⟨s0, s1, s2, s3, s4⟩ := hS; go_simp) hS0 ?_
  go_frame
  refine takeH 5 51 (.agg #[strT vs, .int .i64 F, u64v now, u64v U]) rfl rfl (by kernel_rfl) (by kernel_rfl) (by kernel_rfl) (fun _ _ _ h => h) rfl (fun w' hS => by obtain ⟨s0, s1, s2, s3, s4⟩ := hS; go_simp) hS0 ?_
  go_frame
  refine wpAnyH_all (rs := [6]) (by kernel_rfl) (by simp) ?_
  simp only [List.mem_singleton, forall_eq]
  refine wpOp_callD 52 rfl rfl rfl 26 #[tP T, strT s, .agg #[strT vs, .int .i64 F, u64v now, u64v U]] (by go_simp) ?_
  have hgdd : GD X.drew base G T m cap b mo ho l := HGD.out.keep ((Below.refl _ _).drew)
  refine (set_tb hgdd.tb s ⟨vs, F, now, U⟩ (by omega)).mono ?_
  rintro e X2 ⟨rfl, h5, f5⟩
  have hgd5 := hgdd.to f5 h5
  have hbk5 : BlkT X2 P 51 [strT vs, .int .i64 F, .int .u64 now, u64v U] := f5.kt _ _ _ _ HBK.out.drew (by decide) (by decide)
  have hB5 : Below base w X2 := HBX.out.drew.trans f5.low
  have hS5 : X2.cell? ⟨G, 3, none⟩ = some (tP T) ∧ X2.cell? ⟨P, 0, none⟩ = some (strT vs) ∧ X2.cell? ⟨P, 1, none⟩ = some (.int .i64 F) ∧ X2.cell? ⟨P, 2, none⟩ = some (u64v now) ∧ X2.cell? ⟨P, 3, none⟩ = some (u64v U) := ⟨hgd5.blk.at rfl, hbk5.at rfl, hbk5.at rfl, hbk5.at rfl, hbk5.at rfl⟩
  refine ⟨_, rfl, hS5, ?_⟩
  go_frame
  refine takeH 7 6 (.int .i64 (setL l s ⟨vs, F, now, U⟩).1) rfl rfl (by kernel_rfl) (by kernel_rfl) (by kernel_rfl) (fun _ _ _ h => h) rfl (fun w' hS => by go_simp) hS5 ?_
  go_frame
  refine wpAnyH_done (by kernel_rfl) ?_ _
  refine NoPanic.normal ?_
  have HGD5 := Lib.hid hgd5
  have HB5 := Lib.hid hB5
  clear hgd5 hB5 hS5 hS0 hbk5 h5 f5 hgdd
  go_wp2_with fail
  go_ret
  exact ⟨rfl, HGD5.out, HB5.out⟩
theorem fail_gd (h : GD w base G T m cap b mo ho l) (s : List UInt8) (now : Int) (hs : s.length ≤ 600) (hT : Lib.Utf8Tabs 0 1 w)
    (b0 : 0 ≤ b) (b1 : b < 18446744073709551616) (m0 : 0 ≤ mo) (m1 : mo < 18446744073709551616) (n0 : 0 ≤ now) (n1 : now ≤ 18446744073709551615) (hf : ∀ v, getL l s = some v → 0 ≤ v.f ∧ v.f ≤ 60) :
    Calls Tryd.prog 10 #[tP G, strT s, u64v now] w fun e w' => e = .returned (.int .i64 (failL b mo l s now).1) ∧ GD w' base G T m cap b mo ho (failL b mo l s now).2 ∧ Below base w w' := by
  unfold failL
  cases hb : srcB s with
  | true =>
    rw [if_pos rfl]
    cases hg : getL l s with
    | some v => exact fail_some h s now v hs hT b0 b1 m0 m1 n0 n1 hb hg (hf v hg).1 (hf v hg).2
    | none =>
      have HI := Lib.hid (isSource_any s w hs hT)
      have H := Lib.hid h
      have HBL := Lib.hid h.tb.base_le
      clear h hT hf
      rw [hb] at HI
      have HG := Lib.hid hg; clear hg
      go_enter Tryd.func10, Tryd.ntmps10
      go_wp2_with fail
      refine HI.out.mono ?_
      rintro e w1 ⟨rfl, hB⟩
      have h1 := H.out.keep hB
      have H1 := Lib.hid h1
      have c3 : w1.cell? ⟨G, 3, none⟩ = some (tP T) := h1.blk.at rfl
      have HB := Lib.hid (hB.mono HBL.out)
      clear hB HI h1
      go_wp2_with fail
      refine (getn_tb H1.out.tb s (by omega) HG.out).mono ?_
      rintro e w2 ⟨rfl, hB2⟩
      have H2 := Lib.hid (H1.out.keep hB2)
      have HB2 := Lib.hid (HB.out.trans (hB2.mono H1.out.tb.base_le))
      clear hB2 c3
      go_wp2_with fail
      go_ret
      exact ⟨rfl, H2.out.keep ((Below.refl _ _).alloc (Nat.le_refl _) _), HB2.out.alloc H2.out.tb.base_le _⟩
  | false =>
    rw [if_neg (by simp)]
    have HI := Lib.hid (isSource_any s w hs hT)
    have H := Lib.hid h
    have HBL := Lib.hid h.tb.base_le
    clear h hT hf
    rw [hb] at HI
    go_enter Tryd.func10, Tryd.ntmps10
    go_wp2_with fail
    refine HI.out.mono ?_
    rintro e w1 ⟨rfl, hB⟩
    have H1 := Lib.hid (H.out.keep hB)
    have HB := Lib.hid (hB.mono HBL.out)
    clear hB HI
    go_wp2_with fail
    go_ret
    exact ⟨rfl, H1.out, HB.out⟩
end
end Go.Proofs.YtnfkkopegbeacaaDoor
