/- box's laws: do. (By mkbwd.py.) -/
import Derived.Test.YtlnjpmpddomjiaaGreatDoorGmBeP
import Derived.Test.YtlnjpmpddomjiaaGreatDoorGmBwG
import Derived.Test.YtlnjpmpddomjiaaGreatDoorGmMgC
import Derived.Test.YtlnjpmpddomjiaaGreatDoorGmCutE
import Derived.Deep.DeepCutAuto
import Derived.Deep.CutBlock
set_option maxRecDepth 100000
namespace Go.Proofs.YtlnjpmpddomjiaaGreatDoor
open Go.RowKit
attribute [local go_sem] Oper.semAt_some
set_option maxHeartbeats 16000000 in
theorem do_arm4 {w : World} {base tb b m x : Nat} {rv V : Value} {T : List TmL} {tv : Value} {vals : List Value} {sym f : Bool} {es : List EnL} {tags : List (List UInt8)} (h : TD w base tb b m x rv V T tv vals sym f f es es tags) (hok : ∀ t ∈ tags, isTagL sym es.length t = true)
    (nn : Nat) (hnn : tags.length ≤ nn ∧ es.length ≤ nn ∧ NT es) (hlt : tags.length ≤ 1000) (d p q r : Int) (hk : Int.tmod d 9 = 4) (raw : Bool) (A1 A2 : Option Addr) (c1 c2 : Nat) (l1 l2 : List UInt8) (B : Nat) (hs1 : Sl w B (.slice A1 l1.length c1) l1) (hs2 : Sl w B (.slice A2 l2.length c2) l2) (hBw : B ≤ w.heap.size) (hd0 : 0 ≤ d) (hT : TabA w) (hU : TabB w) (hbw : base ≤ w.heap.size) (hgt : 0 < base) (hgu : 2 < base) :
    Calls Tryz.prog 9 #[.pointer (some ⟨tb, 0, none⟩), .agg #[.int .u8 d, .int .i64 p, .int .i64 q, .slice A1 l1.length c1, .slice A2 l2.length c2, .int .i64 r, .bool raw]] w fun e w' => e = .returned (.bool true) ∧ TE w' base tb b x sym (nn + 1) ∧ Below base w w' := by
  obtain ⟨bo, hbo⟩ : ∃ k, k = w.heap.size := ⟨_, rfl⟩
  obtain ⟨W0, hW0⟩ : ∃ W, W = w.alloc (.cells #[.int .u8 d, .int .i64 p, .int .i64 q, .slice A1 l1.length c1, .slice A2 l2.length c2, .int .i64 r, .bool raw] 36) := ⟨_, rfl⟩
  have hb0 : Below w.heap.size w W0 := by rw [hW0]; exact (Below.refl _ _).alloc (Nat.le_refl _) _
  have HK := Lib.hid (show Blk W0 bo [.int .u8 d, .int .i64 p, .int .i64 q, .slice A1 l1.length c1, .slice A2 l2.length c2, .int .i64 r, .bool raw] from by rw [hW0, hbo]; exact Blk.new w _ _)
  have HB0 := Lib.hid hb0
  have H := Lib.hid h
  have HOK := Lib.hid hok
  have HS1 := Lib.hid (hs1.below hb0 hBw)
  have HS2 := Lib.hid (hs2.below hb0 hBw)
  have HT := Lib.hid hT
  have HU := Lib.hid hU
  have HGT := Lib.hid (And.intro hgt hgu)
  have HBO := Lib.hid hbo
  have HZ0 := Lib.hid (show W0.heap.size = w.heap.size + 1 from by rw [hW0]; simp)
  have HBB := Lib.hid hBw
  have HSW := Lib.hid hs2
  have HKK := Lib.hid hk
  clear hk
  have HNN := Lib.hid hnn
  clear hnn
  have HBASE := Lib.hid hbw
  have HBLK := Lib.hid (show ∀ k ∈ tdB tb b m x rv V T tv vals, base ≤ k from h.base)
  clear h hok hs1 hs2 hb0 hT hU hgt hgu hBw hbw
  go_enter Tryz.func9, Tryz.ntmps9
  go_wp2_with fail
  rw [← hW0, ← hbo]
  clear hW0 hbo
  refine wp_region_noPanic ?_
  refine wp_region_held (S := fun W' => W'.cell? ⟨bo, 3, none⟩ = some (.slice A1 l1.length c1) ∧ W'.cell? ⟨bo, 1, none⟩ = some (.int .i64 p) ∧ W'.cell? ⟨bo, 4, none⟩ = some (.slice A2 l2.length c2)) (by kernel_rfl) ?_
  change wpAnyH _ _ _ _ _ _ _ _ (World.drew _)
  obtain ⟨X0, hX0⟩ : ∃ X, X = World.drew W0 := ⟨_, rfl⟩
  have HBX := Lib.hid (show Below W0.heap.size W0 X0 from by rw [hX0]; exact (Below.refl _ _).drew)
  have HZX := Lib.hid (show X0.heap.size = w.heap.size + 1 from by rw [hX0]; exact HZ0.out)
  rw [← hX0]
  clear hX0
  have HKX := Lib.hid (HK.out.below HBX.out HK.out.lt)
  have HSX := Lib.hid (fun (W' : World) (hb : Below X0.heap.size X0 W') => (show W'.cell? ⟨bo, 3, none⟩ = some (.slice A1 l1.length c1) ∧ W'.cell? ⟨bo, 1, none⟩ = some (.int .i64 p) ∧ W'.cell? ⟨bo, 4, none⟩ = some (.slice A2 l2.length c2) from ⟨(HKX.out.below hb HKX.out.lt).at (o := 3) rfl, (HKX.out.below hb HKX.out.lt).at (o := 1) rfl, (HKX.out.below hb HKX.out.lt).at (o := 4) rfl⟩))
  have HX := Lib.hid (HSX.out X0 (Below.refl _ _))
  have HBW := Lib.hid (HB0.out.trans (HBX.out.mono HB0.out.size))
  refine takeH 0 18 (.pointer (some ⟨bo, 3, none⟩)) rfl rfl (by kernel_rfl) (by kernel_rfl) (by kernel_rfl) (fun _ _ _ h => h) rfl (fun w' h => by obtain ⟨h0, h1, h2⟩ := h; go_simp) HX.out ?_
  go_frame
  refine takeH 1 19 (.slice A1 l1.length c1) rfl rfl (by kernel_rfl) (by kernel_rfl) (by kernel_rfl) (fun _ _ _ h => h) rfl (fun w' h => by obtain ⟨h0, h1, h2⟩ := h; go_simp) HX.out ?_
  go_frame
  refine takeH 3 21 (.pointer (some ⟨tb, 0, none⟩)) rfl rfl (by kernel_rfl) (by kernel_rfl) (by kernel_rfl) (fun _ _ _ h => h) rfl (fun w' h => by obtain ⟨h0, h1, h2⟩ := h; go_simp) HX.out ?_
  go_frame
  refine takeH 4 22 (.pointer (some ⟨bo, 1, none⟩)) rfl rfl (by kernel_rfl) (by kernel_rfl) (by kernel_rfl) (fun _ _ _ h => h) rfl (fun w' h => by obtain ⟨h0, h1, h2⟩ := h; go_simp) HX.out ?_
  go_frame
  refine takeH 5 23 (.int .i64 p) rfl rfl (by kernel_rfl) (by kernel_rfl) (by kernel_rfl) (fun _ _ _ h => h) rfl (fun w' h => by obtain ⟨h0, h1, h2⟩ := h; go_simp) HX.out ?_
  go_frame
  refine takeH 7 25 (.pointer (some ⟨bo, 4, none⟩)) rfl rfl (by kernel_rfl) (by kernel_rfl) (by kernel_rfl) (fun _ _ _ h => h) rfl (fun w' h => by obtain ⟨h0, h1, h2⟩ := h; go_simp) HX.out ?_
  go_frame
  refine takeH 8 26 (.slice A2 l2.length c2) rfl rfl (by kernel_rfl) (by kernel_rfl) (by kernel_rfl) (fun _ _ _ h => h) rfl (fun w' h => by obtain ⟨h0, h1, h2⟩ := h; go_simp) HX.out ?_
  go_frame
  refine wpAnyH_all (rs := [2]) (by kernel_rfl) (by simp) ?_
  simp only [List.mem_singleton, forall_eq]
  refine wpOp_callD 20 rfl rfl rfl 26 #[.slice A1 l1.length c1, .int .i64 70] (by go_simp) ?_
  refine (cut_any B _ l1 70 X0 (HS1.out.below HBX.out (by have := HBB.out; have := HZ0.out; omega)) (by have := HBB.out; have := HZX.out; omega) (by omega) (by omega)).mono ?_
  rintro e X1 ⟨v1, rfl, hO1, hb1⟩
  have HO1 := Lib.hid (hO1.lower (base' := w.heap.size) (by have := HZX.out; omega))
  have HB1 := Lib.hid hb1
  refine ⟨_, rfl, HSX.out X1 hb1, ?_⟩
  go_frame
  clear HX hO1 hb1
  refine wpAnyH_all (rs := [6]) (by kernel_rfl) (by simp) ?_
  simp only [List.mem_singleton, forall_eq]
  refine wpOp_callD 24 rfl rfl rfl 16 #[.pointer (some ⟨tb, 0, none⟩), .int .i64 p] (by go_simp) ?_
  refine (pick_any (H.out.lt.trsS (Trs.of_below (S := []) (HBW.out.trans (HB1.out.mono HBW.out.size))) (fun _ _ => by simp)) p (by omega)).mono ?_
  rintro e X2 ⟨v2, t2, rfl, hO2, ht2, hb2⟩
  have ht32 : t2.length ≤ 32 := by
    rcases ht2 with rfl | ht2
    · simp
    · rw [H.out.lt.t32 _ ht2]; exact Nat.le_refl _
  have HT2 := Lib.hid ht32
  have HO2 := Lib.hid hO2
  have HO1b := Lib.hid (HO1.out.below hb2)
  have HB2 := Lib.hid (HB1.out.trans (hb2.mono HB1.out.size))
  have HZ12 := Lib.hid HB1.out.size
  have HZB := Lib.hid hb2.size
  refine ⟨_, rfl, HSX.out X2 HB2.out, ?_⟩
  go_frame
  clear hO2 hb2 ht2 ht32
  refine wpAnyH_all (rs := [9]) (by kernel_rfl) (by simp) ?_
  simp only [List.mem_singleton, forall_eq]
  refine wpOp_callD 27 rfl rfl rfl 26 #[.slice A2 l2.length c2, .int .i64 60] (by go_simp) ?_
  refine (cut_any B _ l2 60 X2 ((HS2.out.below HBX.out (by have := HBB.out; have := HZ0.out; omega)).below HB2.out (by have := HBB.out; have := HZX.out; omega)) (by have := HBB.out; have := HZX.out; have := HB2.out.size; omega) (by omega) (by omega)).mono ?_
  rintro e X3 ⟨v3, rfl, hO3, hb3⟩
  have HO3 := Lib.hid hO3
  have HO2b := Lib.hid (HO2.out.below hb3)
  have HO1c := Lib.hid (HO1b.out.below hb3)
  have HB3 := Lib.hid (HB2.out.trans (hb3.mono HB2.out.size))
  have HZ3 := Lib.hid hb3.size
  have HZ2 := Lib.hid HB2.out.size
  refine ⟨_, rfl, HSX.out X3 HB3.out, ?_⟩
  go_frame
  have HZA := Lib.hid (show X1.heap.size ≤ X3.heap.size from by have h1 := HZ3.out; have h2 := HZB.out; omega)
  have HAP := Lib.hid (show ∀ k, v1.ownBlock = some k → v2.ownBlock ≠ some k from fun k e e2 => by have h1 := (HO1.out.lt k e).2; have h2 := (HO2.out.lt k e2).1; omega)
  clear hO3 hb3
  refine wpAnyH_all (rs := [10]) (by kernel_rfl) (by simp) ?_
  simp only [List.mem_singleton, forall_eq]
  refine wpOp_appSl 28 rfl rfl rfl (.tmp 24) (.tmp 27) rfl X1.heap.size v2 t2 (l2.take (60 : Int).toNat) rfl HO2b.out X3.heap.size v3 rfl HO3.out.sl (by have := HT2.out; rw [List.length_take]; omega) HZA.out ?_
  intro v4 X4 hO4 hg4
  have HB4 := Lib.hid (HB3.out.trans ((OwnB.belowBase HO2b.out hg4 HZA.out).mono HZ12.out))
  have HO4 := Lib.hid (hO4.lower (base' := w.heap.size) (by have := HZX.out; have := HZ12.out; omega))
  have HO1d := Lib.hid (HO1c.out.trsV ((Trs.refl (vbl v2) X3).grown hg4 (fun k e => mem_vbl.2 e)) (fun k e hk => HAP.out k e (mem_vbl.1 hk)))
  refine ⟨HSX.out X4 HB4.out, ?_⟩
  go_frame
  clear hO4 hg4
  have HX := Lib.hid (HSX.out X4 HB4.out)
  refine takeH 11 5 (v1) rfl rfl (by kernel_rfl) (by kernel_rfl) (by kernel_rfl) (fun _ _ _ h => h) rfl (fun w' h => by obtain ⟨h0, h1, h2⟩ := h; go_simp) HX.out ?_
  go_frame
  refine takeH 12 6 (v4) rfl rfl (by kernel_rfl) (by kernel_rfl) (by kernel_rfl) (fun _ _ _ h => h) rfl (fun w' h => by obtain ⟨h0, h1, h2⟩ := h; go_simp) HX.out ?_
  go_frame
  refine wpAnyH_done (by kernel_rfl) ?_ _
  refine NoPanic.normal ?_
  have HBA := Lib.hid (HBW.out.trans (HB4.out.mono HBW.out.size))
  have HKA := Lib.hid (HKX.out.below HB4.out HKX.out.lt)
  have HHD := Lib.hid (show OwnB X4 w.heap.size v1 (l1.take (70 : Int).toNat) ∧ OwnB X4 w.heap.size v4 (t2 ++ l2.take (60 : Int).toNat) ∧ (t2 ++ l2.take (60 : Int).toNat).length ≤ 100 from ⟨HO1d.out, HO4.out, by have := HT2.out; rw [List.length_append, List.length_take]; omega⟩)
  clear HX HO1 HO1b HO1c HO1d HO2 HO2b HO3 HO4 HT2 HB1 HB2 HB3 HZ12 HZ3 HZA HAP HZB HSX HKX HBX HZX HS1 HS2 HZ2
  have k6 := HKA.out.at (o := 6) rfl
  have k2 := HKA.out.at (o := 2) rfl
  go_upto_if 30 with fail
  go_cut [5, 6] (fun s5 s6 wx => ∃ key text : List UInt8, OwnB wx w.heap.size s5 key ∧ OwnB wx w.heap.size s6 text ∧ key.length ≤ 100 ∧ text.length ≤ 100 ∧ Below X4.heap.size X4 wx)
  case first =>
    cases raw with
    | false =>
      go_wp2_with fail
      go_meet
      exact ⟨_, _, HHD.out.1, HHD.out.2.1, by rw [List.length_take]; omega, HHD.out.2.2, Below.refl _ _⟩
    | true =>
      go_wp2_with fail
      refine (pick_any (H.out.lt.trsS (Trs.of_below (S := []) HBA.out) (fun _ _ => by simp)) q (by omega)).mono ?_
      rintro e X5 ⟨v5, t5, rfl, hO5, ht5, hb5⟩
      have HF := Lib.hid (show OwnB X5 w.heap.size v5 t5 ∧ t5.length ≤ 100 from ⟨hO5.lower HBA.out.size, by
        rcases ht5 with rfl | ht5
        · simp
        · rw [H.out.lt.t32 _ ht5]; omega⟩)
      have HB5 := Lib.hid hb5
      clear hO5 ht5 hb5
      go_wp2_with fail
      go_meet
      exact ⟨_, _, HF.out.1, HHD.out.2.1.below HB5.out, HF.out.2, HHD.out.2.2, HB5.out⟩
  case rest =>
    obtain ⟨key, text, hk, htx, hkl, htl, hbc⟩ := hcut
    have HBC := Lib.hid (HBA.out.trans (hbc.mono HBA.out.size))
    have HKC := Lib.hid (HKA.out.below hbc HKA.out.lt)
    have HKEY := Lib.hid hk
    have HTXT := Lib.hid htx
    obtain ⟨A5, c5, rfl, -⟩ := hk.sl
    obtain ⟨A6, c6, rfl, -⟩ := htx.sl
    have HL := Lib.hid (And.intro hkl htl)
    clear hk htx hkl htl hbc k6 k2 HHD HKA HBA
    go_wp2_with fail
    refine (copy_any wc.heap.size _ key wc HKEY.out.sl (Nat.le_refl _) (by have := HL.out; omega)).mono ?_
    rintro e Y1 ⟨m1, rfl, hO1, hb1⟩
    obtain ⟨M1, n1, rfl, -⟩ := hO1.sl
    have HM1 := Lib.hid (hO1.lower (base' := w.heap.size) HBC.out.size)
    have HM1lt := Lib.hid (fun k e => (hO1.lt k e).2)
    have HY1 := Lib.hid hb1
    have HKE1 := Lib.hid (HKEY.out.below hb1)
    have HTX1 := Lib.hid (HTXT.out.below hb1)
    clear hO1 hb1
    go_wp2_with fail
    refine (copy_any Y1.heap.size _ text Y1 HTX1.out.sl (Nat.le_refl _) (by have := HL.out; omega)).mono ?_
    rintro e Y2 ⟨m2, rfl, hO2, hb2⟩
    obtain ⟨M2, n2, rfl, -⟩ := hO2.sl
    have HM12 := Lib.hid (show ∀ k, (Value.slice M1 key.length n1).ownBlock = some k → (Value.slice M2 text.length n2).ownBlock ≠ some k from fun k e e2 => by have h1 := HM1lt.out k e; have h2 := (hO2.lt k e2).1; omega)
    have HM2 := Lib.hid (hO2.lower (base' := w.heap.size) (by have := HBC.out.size; have := HY1.out.size; omega))
    have HM1b := Lib.hid (HM1.out.below hb2)
    have HKE2 := Lib.hid (HKE1.out.below hb2)
    have HTX2 := Lib.hid (HTX1.out.below hb2)
    have HY2 := Lib.hid (HBC.out.trans ((HY1.out.trans (hb2.mono HY1.out.size)).mono HBC.out.size))
    have HKY := Lib.hid ((HKC.out.below HY1.out HKC.out.lt).below hb2 (Nat.lt_of_lt_of_le HKC.out.lt HY1.out.size))
    have HD := Lib.hid (H.out.below HY2.out)
    clear hO2 hb2 HM1 HM1lt HKEY HTXT HKE1 HTX1 HKC HBC HY1
    have k0 := HKY.out.at (o := 0) rfl
    obtain ⟨D, hD, hD0, hD8⟩ : ∃ D : Int, Int.tmod d 9 = D ∧ 0 ≤ D ∧ D ≤ 8 := ⟨_, rfl, Int.tmod_nonneg _ hd0, by have := Int.tmod_lt_of_pos d (show (0 : Int) < 9 by omega); omega⟩
    go_upto_block 0 with fail
    go_cut [9, 10, 11, 12] (fun s9 s10 s11 s12 wx => ∃ (rv' V' : Value) (T' : List TmL) (f' : Bool) (es' : List EnL) (want : List UInt8) (err : Int), s11 = .int .i64 err ∧ s12 = .int .i64 err ∧ TD wx base tb b m x rv' V' T' tv vals sym f' f' es' es' tags ∧ (∀ t ∈ tags, isTagL sym es'.length t = true) ∧
      OwnB wx Y2.heap.size s9 want ∧ OwnB wx Y2.heap.size s10 want ∧ (want.length = 0 ∨ want.length = 32 ∧ isTagL sym es'.length want = true) ∧ (∀ k, s9.ownBlock = some k → k ∉ tdB tb b m x rv' V' T' tv vals ∧ s10.ownBlock ≠ some k) ∧ (∀ k, s10.ownBlock = some k → k ∉ tdB tb b m x rv' V' T' tv vals) ∧
      (∀ k ∈ tdB tb b m x rv' V' T' tv vals, k ∈ tdB tb b m x rv V T tv vals ∨ Y2.heap.size ≤ k) ∧ Trs (tdB tb b m x rv V T tv vals) Y2 wx ∧ GY es es')
    case first =>
      have HP := Lib.hid (show ArmP Y2 base tb b m x rv V T tv vals sym f es tags from ⟨HD.out, HOK.out, HT.out.below HY2.out (by have := HGT.out.1; have := HBASE.out; omega), HU.out.below HY2.out (by have := HGT.out.2; have := HBASE.out; omega), Nat.le_trans HBASE.out HY2.out.size, HGT.out.2⟩)
      have HFR := Lib.hid (show ∀ (v : Value) (l : List UInt8), OwnB Y2 w.heap.size v l → ∀ k, v.ownBlock = some k → k ∉ tdB tb b m x rv V T tv vals from fun v l ho k e hk => by have h1 := (ho.lt k e).1; have h2 := H.out.lts k hk; omega)
      have HF1 := Lib.hid (HFR.out _ _ HM1b.out)
      have HF5 := Lib.hid (HFR.out _ _ HKE2.out)
      have HF6 := Lib.hid (HFR.out _ _ HTX2.out)
      have ht0 := HD.out.lt.blk.at (o := 0) rfl
      have ht1 := HD.out.lt.blk.at (o := 1) rfl
      have HTC := Lib.hid (show ∀ W, Blk W tb [tP b, tP x, tv] → W.cell? ⟨tb, 0, none⟩ = some (tP b) ∧ W.cell? ⟨tb, 1, none⟩ = some (tP x) from fun W h => ⟨h.at (o := 0) rfl, h.at (o := 1) rfl⟩)
      have hk := HKK.out
      rw [hD] at hk
      have hd : D = 4 := hk
      clear hk
      obtain rfl : D = 4 := hd
      have k5 := HKY.out.at (o := 5) rfl
      go_upto_if 124 with fail
      go_cut [14] (fun s14 wx => ∃ N : Int, s14 = .int .i64 N ∧ Y2 = wx)
      case first =>
        by_cases hr : r > 4
        · have hr1 : 4 < r := hr
          obtain ⟨Q, hQ, hQ2⟩ : ∃ Q, Int.tmod (Int.tdiv r 4) 2 = Q ∧ (Q = 0 ∨ Q = 1) := ⟨_, rfl, by
            have h1 := Int.tmod_nonneg 2 (show 0 ≤ Int.tdiv r 4 from Int.tdiv_nonneg (by omega) (by omega))
            have h2 := Int.tmod_lt_of_pos (Int.tdiv r 4) (show (0 : Int) < 2 by omega)
            omega⟩
          obtain ⟨Z, hZ, hZ1, hZ2⟩ : ∃ Z, Int.tmod r 4 = Z ∧ 0 ≤ Z ∧ Z < 4 := ⟨_, rfl, Int.tmod_nonneg 4 (by omega), Int.tmod_lt_of_pos r (by omega)⟩
          rcases hQ2 with rfl | rfl
          · go_wp2_with fail
            go_meet
            exact ⟨_, rfl, rfl⟩
          · go_wp2_with fail
            go_meet
            exact ⟨_, rfl, rfl⟩
        · have hr1 : ¬ 4 < r := hr
          go_wp2_with fail
          go_meet
          exact ⟨_, rfl, rfl⟩
      case rest =>
        obtain ⟨N, rfl, rfl⟩ := hcut
        by_cases hN : N < 1 ∨ 64 < N
        · have HN := Lib.hid hN
          clear hN
          go_wp2_with fail
          refine (str_Pbad HD.out.bx HN.out).mono ?_
          rintro e X1 ⟨rfl, hb⟩
          have HB1 := Lib.hid hb
          have kt1 := (HD.out.below hb).lt.blk.at (o := 1) rfl
          clear hb ht0 ht1
          go_wp2_with fail
          refine (str_refBad X1 _ _ _ N HN.out).mono ?_
          rintro e X2 ⟨rfl, rfl⟩
          have HR := Lib.hid (arm_none HD.out HOK.out HB1.out)
          go_wp2_with fail
          go_meet
          obtain ⟨rv', V', T', f', es', want, a1, a2, a3, a4, a5, a6, a7, a8, a9, a10⟩ := HR.out
          exact ⟨rv', V', T', f', es', want, 1, rfl, rfl, a1, a2, a3, a4, a5, a6, a7, a8, a9, a10⟩
        · obtain ⟨n, rfl⟩ := Int.eq_ofNat_of_zero_le (show 0 ≤ N by omega)
          have HN := Lib.hid (show 1 ≤ n ∧ n ≤ 64 from by omega)
          clear hN
          go_wp2_with fail
          refine (arm_str HP.out n HN.out.1 HN.out.2 HM1b.out.sl HM2.out.sl (by have := HL.out; omega) (by have := HL.out; omega) HKE2.out HF5.out HTX2.out HF6.out).mono ?_
          rintro e X1 ⟨v2, rfl, hbl, hC⟩
          have kt1 := hbl.at (o := 1) rfl
          have HC := Lib.hid hC
          clear hbl hC ht0 ht1
          go_wp2_with fail
          refine HC.out.mono ?_
          rintro e X2 ⟨AA, ca, rfl, hR⟩
          have HR := Lib.hid hR
          clear hR
          go_wp2_with fail
          go_meet
          obtain ⟨rv', V', T', f', es', want, a1, a2, a3, a4, a5, a6, a7, a8, a9, a10⟩ := HR.out
          exact ⟨rv', V', T', f', es', want, 0, rfl, rfl, a1, a2, a3, a4, a5, a6, a7, a8, a9, a10⟩
    case rest =>
      obtain ⟨rv', V', T', f', es', want, err, rfl, rfl, hD', hok', h9, h10, hw, ha9, ha10, hnew, htr, hgy⟩ := hcut
      have HGX := Lib.hid (show es'.length ≤ nn + 1 ∧ NT es' from ⟨by have h1 := hgy.1; have h2 := HNN.out.2.1; omega, hgy.2 HNN.out.2.2⟩)
      clear hgy
      have HE := Lib.hid (show ∀ k, (Value.slice M1 key.length n1).ownBlock = some k → k < Y2.heap.size ∧ w.heap.size ≤ k from fun k e => ⟨(HM1b.out.lt k e).2, (HM1b.out.lt k e).1⟩)
      have HE2 := Lib.hid (show ∀ k, (Value.slice M2 text.length n2).ownBlock = some k → k < Y2.heap.size ∧ w.heap.size ≤ k from fun k e => ⟨(HM2.out.lt k e).2, (HM2.out.lt k e).1⟩)
      have HFR := Lib.hid (show ∀ k, k < Y2.heap.size → w.heap.size ≤ k → k ∉ tdB tb b m x rv V T tv vals from fun k _ h2 hk => by have := H.out.lts k hk; omega)
      have HFN := Lib.hid (show ∀ k, k < Y2.heap.size → w.heap.size ≤ k → k ∉ tdB tb b m x rv' V' T' tv vals from fun k h1 h2 hk => by rcases hnew k hk with e | e; exact HFR.out k h1 h2 e; omega)
      have HEK := Lib.hid (show ∀ k, (Value.slice A5 key.length c5).ownBlock = some k → k < Y2.heap.size ∧ w.heap.size ≤ k from fun k e => ⟨(HKE2.out.lt k e).2, (HKE2.out.lt k e).1⟩)
      have HET := Lib.hid (show ∀ k, (Value.slice A6 text.length c6).ownBlock = some k → k < Y2.heap.size ∧ w.heap.size ≤ k from fun k e => ⟨(HTX2.out.lt k e).2, (HTX2.out.lt k e).1⟩)
      have kpt : ∀ {v : Value} {l : List UInt8}, OwnB Y2 w.heap.size v l → OwnB wc w.heap.size v l := fun h => h.trsV htr (fun k e hk => HFR.out k (h.lt k e).2 (h.lt k e).1 hk)
      have HMA := Lib.hid (kpt HM1b.out)
      have HMB := Lib.hid (kpt HM2.out)
      have HKA := Lib.hid (kpt HKE2.out)
      have HTA := Lib.hid (kpt HTX2.out)
      have HTD := Lib.hid hD'
      have HOK' := Lib.hid hok'
      have H9 := Lib.hid h9
      have H10 := Lib.hid h10
      have HA9 := Lib.hid ha9
      have HA10 := Lib.hid ha10
      have HZY := Lib.hid htr.size
      have HBE := Lib.hid (show Below base w wc from (HY2.out.mono HBASE.out).trans (htr.toBelow (by have := HY2.out.size; have := HBASE.out; omega) (fun k hk => HBLK.out k hk)))
      obtain ⟨A9, c9, rfl, -⟩ := h9.sl
      obtain ⟨A0, c0, rfl, -⟩ := h10.sl
      clear h9 h10 ha9 ha10 hD' hok' hnew htr kpt HM1b HM2 HKE2 HTX2 k0 hD hD0 hD8
      rcases hw with hw | ⟨hw, hwt⟩
      · obtain rfl : want = [] := List.eq_nil_of_length_eq_zero hw
        have HEND := Lib.hid (fun (W : World) (hW : TD W base tb b m x rv' V' T' tv vals sym f' f' es' es' tags) (hb : Below base w W) => (show TE W base tb b x sym (nn + 1) ∧ Below base w W from ⟨⟨m, rv', V', T', tv, vals, f', es', tags, hW, HOK'.out, by have := HNN.out.1; omega, HGX.out.1, HGX.out.2⟩, hb⟩))
        clear hw
        simp only [List.length_nil] at H9 H10 HA9 HA10 ⊢
        have HZC := Lib.hid (show base ≤ wc.heap.size from by have := HBASE.out; have := HY2.out.size; have := HZY.out; omega)
        go_wp2_with fail
        refine (same_true _ _ _ _ [] wc (H9.out).sl (H10.out).sl).mono ?_
        rintro e Z1 ⟨rfl, rfl⟩
        go_wp2_with fail
        refine (same_true _ _ _ _ key wc (HMA.out).sl (HKA.out).sl).mono ?_
        rintro e Z1 ⟨rfl, rfl⟩
        go_wp2_with fail
        refine (same_true _ _ _ _ text wc (HMB.out).sl (HTA.out).sl).mono ?_
        rintro e Z1 ⟨rfl, rfl⟩
        go_wp2_with fail
        refine (flip_any w.heap.size _ key wc HMA.out (by have := HL.out; omega)).mono ?_
        rintro e Z1 ⟨rfl, hg1⟩
        have ht1 : Trs (vbl (Value.slice M1 key.length n1)) wc Z1 := (Trs.refl _ wc).grown hg1 (fun k e => mem_vbl.2 e)
        have HMB1 := Lib.hid ((HMB.out).trsV ht1 (fun k e hk => HM12.out k (mem_vbl.1 hk) e))
        have HTD1 := Lib.hid (HTD.out.trsS ht1 (fun k hk hk2 => HFN.out k (HE.out k (mem_vbl.1 hk2)).1 (HE.out k (mem_vbl.1 hk2)).2 hk))
        have H91 := Lib.hid ((H9.out).trsV ht1 (fun k e hk => by have h1 := (HE.out k (mem_vbl.1 hk)).1; have h2 := ((H9.out).lt k e).1; omega))
        have HBE1 := Lib.hid (HBE.out.trans (ht1.toBelow HZC.out (fun k hk => by have h1 := (HE.out k (mem_vbl.1 hk)).2; have := HBASE.out; omega)))
        have HZ1 := Lib.hid (Nat.le_trans HZC.out ht1.size)
        clear hg1 ht1
        go_wp2_with fail
        refine (flip_any w.heap.size _ text Z1 HMB1.out (by have := HL.out; omega)).mono ?_
        rintro e Z2 ⟨rfl, hg2⟩
        have ht2 : Trs (vbl (Value.slice M2 text.length n2)) Z1 Z2 := (Trs.refl _ Z1).grown hg2 (fun k e => mem_vbl.2 e)
        have HTD2 := Lib.hid (HTD1.out.trsS ht2 (fun k hk hk2 => HFN.out k (HE2.out k (mem_vbl.1 hk2)).1 (HE2.out k (mem_vbl.1 hk2)).2 hk))
        have H92 := Lib.hid (H91.out.trsV ht2 (fun k e hk => by have h1 := (HE2.out k (mem_vbl.1 hk)).1; have h2 := (H91.out.lt k e).1; omega))
        have HBE2 := Lib.hid (HBE1.out.trans (ht2.toBelow HZ1.out (fun k hk => by have h1 := (HE2.out k (mem_vbl.1 hk)).2; have := HBASE.out; omega)))
        have HZ2 := Lib.hid (Nat.le_trans HZ1.out ht2.size)
        clear hg2 ht2
        go_wp2_with fail
        refine (flip_any Y2.heap.size _ [] Z2 H92.out (by simp)).mono ?_
        rintro e Z3 ⟨rfl, hg3⟩
        have ht3 : Trs (vbl (Value.slice A9 0 c9)) Z2 Z3 := (Trs.refl _ Z2).grown hg3 (fun k e => mem_vbl.2 e)
        have HF := Lib.hid (HEND.out Z3 (HTD2.out.trsS ht3 (fun k hk hk2 => (fun k e => (HA9.out k e).1) k (mem_vbl.1 hk2) hk)) (HBE2.out.trans (ht3.toBelow HZ2.out (fun k hk => by have h1 := (H92.out.lt k (mem_vbl.1 hk)).1; have := HBASE.out; have := HY2.out.size; omega))))
        clear hg3 ht3
        go_wp2_with fail
        go_ret
        exact ⟨rfl, HF.out.1, HF.out.2⟩
      · have HW32 := Lib.hid hw
        have HWT := Lib.hid hwt
        rw [hw] at H9 H10 HA9 HA10 ⊢
        have k2 := HTD.out.lt.blk.at (o := 2) rfl
        obtain ⟨P1, hP1⟩ : ∃ P, P = wc.alloc (.cells #[.slice A0 32 c0] 34) := ⟨_, rfl⟩
        have hbp : Below wc.heap.size wc P1 := by rw [hP1]; exact (Below.refl _ _).alloc (Nat.le_refl _) _
        have hcp : P1.cell? ⟨wc.heap.size, 0, none⟩ = some (.slice A0 32 c0) := by rw [hP1]; exact (Blk.new wc [.slice A0 32 c0] _).at (o := 0) rfl
        have hrw := ownsRow_trs (S := []) HTD.out.lt.row (Trs.of_below hbp) (fun _ _ => by simp)
        have HP1 := Lib.hid hP1
        have HROW := Lib.hid hrw
        have HCP := Lib.hid hcp
        have HBP := Lib.hid hbp
        have hvl : vals.length ≤ 1000000 := by rw [HTD.out.lt.len]; omega
        have HVL := Lib.hid hvl
        rw [hP1] at HROW HCP
        clear hw hwt hP1 hbp hcp hrw hvl
        have HZB := Lib.hid (show base ≤ (wc.alloc (.cells #[.slice A0 32 c0] 34)).heap.size from by have := HBASE.out; have := HY2.out.size; have := HZY.out; simp; omega)
        go_wp2_with (at_builtin; ((with_reducible refine wpList_appTg ?g1 (.tmp 162) (.tmp 164) ?g2 base tv vals (.slice A0 32 c0) rfl ?g3 HROW.out wc.heap.size 1 ?g5 HCP.out HVL.out HZB.out ?_); (case g1 => rfl); (case g2 => rfl); (case g3 => rfl); (case g5 => rfl); intro g7 cap7 P2 hrow hgr hbl; (have HPU := Lib.hid (HTD.out.push (w1 := P1) H10.out (by have := HBASE.out; have := HY2.out.size; omega) HA10.out HW32.out HBP.out hrow (by rw [HP1.out]; exact hgr) (by rw [HP1.out]; exact hbl))); (have hk2 : Blk P2 tb [tP b, tP x, tv] := ((HTD.out.lt.blk.below HBP.out HTD.out.lt.blk.lt).grown (by rw [HP1.out]; exact hgr) (fun e => HTD.out.lt.nt e.symm))); (have kk2 : P2.cell? ⟨tb, 2, none⟩ = some tv := hk2.at (o := 2) rfl); (have ff2 := hk2.free 2); clear hrow hgr hbl hk2))
        obtain ⟨P3, hP3⟩ : ∃ P, P = P2.setCell ⟨tb, 2, none⟩ (.slice (some ⟨g7, 0, none⟩) (vals.length + 1) cap7) := ⟨_, rfl⟩
        have HPP := Lib.hid HPU.out
        rw [← hP3] at HPP ⊢
        clear kk2 ff2 hP3 HROW HCP k2
        have HRL := Lib.hid (show ∀ k, k < Y2.heap.size → w.heap.size ≤ k → k ∉ tdB tb b m x rv' V' T' (.slice (some ⟨g7, 0, none⟩) (vals.length + 1) cap7) (vals ++ [.slice A0 32 c0]) from fun k h1 h2 hk => by
          rcases HPP.out.2.2 k hk with e | e | e
          · exact HFN.out k h1 h2 e
          · have := HZY.out; omega
          · have := (H10.out.lt k e).1; omega)
        have HR9 := Lib.hid (show ∀ k, (Value.slice A9 32 c9).ownBlock = some k → k ∉ tdB tb b m x rv' V' T' (.slice (some ⟨g7, 0, none⟩) (vals.length + 1) cap7) (vals ++ [.slice A0 32 c0]) from fun k h1 hk => by
          rcases HPP.out.2.2 k hk with e | e | e
          · exact (HA9.out k h1).1 e
          · have := (H9.out.lt k h1).2; omega
          · exact (HA9.out k h1).2 e)
        have kpl : ∀ {v : Value} {l : List UInt8} {C : Nat}, OwnB wc C v l → (∀ k, v.ownBlock = some k → k ∉ lB tb tv vals) → OwnB P3 C v l := fun h hk => h.trsV HPP.out.2.1 hk
        have low : ∀ k, k < Y2.heap.size → w.heap.size ≤ k → k ∉ lB tb tv vals := fun k h1 h2 hk => HFN.out k h1 h2 (mem_tdB.2 (.inr (.inr hk)))
        have HMA3 := Lib.hid (kpl HMA.out (fun k e => low k (HE.out k e).1 (HE.out k e).2))
        have HMB3 := Lib.hid (kpl HMB.out (fun k e => low k (HE2.out k e).1 (HE2.out k e).2))
        have HKA3 := Lib.hid (kpl HKA.out (fun k e => low k (HEK.out k e).1 (HEK.out k e).2))
        have HTA3 := Lib.hid (kpl HTA.out (fun k e => low k (HET.out k e).1 (HET.out k e).2))
        have H93 := Lib.hid (kpl H9.out (fun k e hk => (HA9.out k e).1 (mem_tdB.2 (.inr (.inr hk)))))
        have H103 := Lib.hid (kpl H10.out (fun k e hk => HA10.out k e (mem_tdB.2 (.inr (.inr hk)))))
        have HBE3 := Lib.hid (HBE.out.trans (HPP.out.2.1.toBelow (by have := HBASE.out; have := HY2.out.size; have := HZY.out; omega) (fun k hk => HTD.out.base k (mem_tdB.2 (.inr (.inr hk))))))
        have HZC := Lib.hid (show base ≤ P3.heap.size from by have := HBASE.out; have := HY2.out.size; have := HZY.out; have := HPP.out.2.1.size; omega)
        have HTDP := Lib.hid HPP.out.1
        have HEND := Lib.hid (fun (W : World) (hW : TD W base tb b m x rv' V' T' (.slice (some ⟨g7, 0, none⟩) (vals.length + 1) cap7) (vals ++ [.slice A0 32 c0]) sym f' f' es' es' (tags ++ [want])) (hb : Below base w W) => (show TE W base tb b x sym (nn + 1) ∧ Below base w W from ⟨⟨m, rv', V', T', _, _, f', es', tags ++ [want], hW, fun t ht => by
          rcases List.mem_append.1 ht with ht | ht
          · exact HOK'.out t ht
          · rw [List.mem_singleton.1 ht]; exact HWT.out, by have := HNN.out.1; rw [List.length_append]; simp; omega, HGX.out.1, HGX.out.2⟩, hb⟩))
        clear kpl low HPU HPP HVL HBP HP1 HZB
        refine (same_true _ _ _ _ want P3 (H93.out).sl (H103.out).sl).mono ?_
        rintro e Z1 ⟨rfl, rfl⟩
        go_wp2_with fail
        refine (same_true _ _ _ _ key P3 (HMA3.out).sl (HKA3.out).sl).mono ?_
        rintro e Z1 ⟨rfl, rfl⟩
        go_wp2_with fail
        refine (same_true _ _ _ _ text P3 (HMB3.out).sl (HTA3.out).sl).mono ?_
        rintro e Z1 ⟨rfl, rfl⟩
        go_wp2_with fail
        refine (flip_any w.heap.size _ key P3 HMA3.out (by have := HL.out; omega)).mono ?_
        rintro e Z1 ⟨rfl, hg1⟩
        have ht1 : Trs (vbl (Value.slice M1 key.length n1)) P3 Z1 := (Trs.refl _ P3).grown hg1 (fun k e => mem_vbl.2 e)
        have HMB1 := Lib.hid ((HMB3.out).trsV ht1 (fun k e hk => HM12.out k (mem_vbl.1 hk) e))
        have HTD1 := Lib.hid (HTDP.out.trsS ht1 (fun k hk hk2 => HRL.out k (HE.out k (mem_vbl.1 hk2)).1 (HE.out k (mem_vbl.1 hk2)).2 hk))
        have H91 := Lib.hid ((H93.out).trsV ht1 (fun k e hk => by have h1 := (HE.out k (mem_vbl.1 hk)).1; have h2 := ((H93.out).lt k e).1; omega))
        have HBE1 := Lib.hid (HBE3.out.trans (ht1.toBelow HZC.out (fun k hk => by have h1 := (HE.out k (mem_vbl.1 hk)).2; have := HBASE.out; omega)))
        have HZ1 := Lib.hid (Nat.le_trans HZC.out ht1.size)
        clear hg1 ht1
        go_wp2_with fail
        refine (flip_any w.heap.size _ text Z1 HMB1.out (by have := HL.out; omega)).mono ?_
        rintro e Z2 ⟨rfl, hg2⟩
        have ht2 : Trs (vbl (Value.slice M2 text.length n2)) Z1 Z2 := (Trs.refl _ Z1).grown hg2 (fun k e => mem_vbl.2 e)
        have HTD2 := Lib.hid (HTD1.out.trsS ht2 (fun k hk hk2 => HRL.out k (HE2.out k (mem_vbl.1 hk2)).1 (HE2.out k (mem_vbl.1 hk2)).2 hk))
        have H92 := Lib.hid (H91.out.trsV ht2 (fun k e hk => by have h1 := (HE2.out k (mem_vbl.1 hk)).1; have h2 := (H91.out.lt k e).1; omega))
        have HBE2 := Lib.hid (HBE1.out.trans (ht2.toBelow HZ1.out (fun k hk => by have h1 := (HE2.out k (mem_vbl.1 hk)).2; have := HBASE.out; omega)))
        have HZ2 := Lib.hid (Nat.le_trans HZ1.out ht2.size)
        clear hg2 ht2
        go_wp2_with fail
        refine (flip_any Y2.heap.size _ want Z2 H92.out (by have := HW32.out; omega)).mono ?_
        rintro e Z3 ⟨rfl, hg3⟩
        have ht3 : Trs (vbl (Value.slice A9 32 c9)) Z2 Z3 := (Trs.refl _ Z2).grown hg3 (fun k e => mem_vbl.2 e)
        have HF := Lib.hid (HEND.out Z3 (HTD2.out.trsS ht3 (fun k hk hk2 => (fun k e => HR9.out k e) k (mem_vbl.1 hk2) hk)) (HBE2.out.trans (ht3.toBelow HZ2.out (fun k hk => by have h1 := (H92.out.lt k (mem_vbl.1 hk)).1; have := HBASE.out; have := HY2.out.size; omega))))
        clear hg3 ht3
        go_wp2_with fail
        go_ret
        exact ⟨rfl, HF.out.1, HF.out.2⟩
end Go.Proofs.YtlnjpmpddomjiaaGreatDoor
