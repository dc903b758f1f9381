/- RuleSays' walk. -/
import Derived.Test.YtpihpoapapfnkaaGreatDoorRuSay1
import Derived.Test.YtpihpoapapfnkaaGreatDoorRuIdN
set_option maxRecDepth 100000
namespace Go.Proofs.YtpihpoapapfnkaaGreatDoor
open Go.RowKit Go.Shelf
attribute [local go_sem] Oper.semAt_some
set_option maxHeartbeats 8000000 in
theorem says_law (v0 : Value) (l : List RuL) (role ten host : List UInt8) (port : Int) (w : World) (hv : RlIn w w.heap.size v0 l) (hg : ∀ r ∈ l, GoodR r) (hr : role.length ≤ 9223372036854775807) (ht : ten.length ≤ 9223372036854775807) (hh : host.length ≤ 9223372036854775807) (hE : Env w) :
    Calls Tryz.prog 5 #[v0, str role, str ten, str host, .int .i64 port] w fun e w' => e = .returned (.bool true) ∧ Below w.heap.size w w' := by
  have HA := Lib.hid (awake16 w hE)
  have HE := Lib.hid hE
  have HV := Lib.hid hv
  have HG := Lib.hid hg
  have HT1 := Lib.hid (fun W => cutText_any role 40 W hr (by omega) (by omega))
  have HT2 := Lib.hid (fun W => cutText_any ten 40 W ht (by omega) (by omega))
  have HT3 := Lib.hid (fun W => cutText_any host 40 W hh (by omega) (by omega))
  have e40 : ∀ s : List UInt8, s.take (40 : Int).toNat = s.take 40 := fun _ => rfl
  rw [e40] at HT1 HT2 HT3
  have lh : (host.take 40).length ≤ 40 := by rw [List.length_take]; omega
  obtain ⟨role', h1⟩ : ∃ x, x = role.take 40 := ⟨_, rfl⟩
  obtain ⟨ten', h2⟩ : ∃ x, x = ten.take 40 := ⟨_, rfl⟩
  obtain ⟨host', h3⟩ : ∃ x, x = host.take 40 := ⟨_, rfl⟩
  rw [← h1] at HT1
  rw [← h2] at HT2
  rw [← h3] at HT3 lh
  obtain ⟨A, c, rfl, hc1, hc2, hq⟩ := hv
  clear hq hE hg h1 h2 h3 e40 hr ht hh
  go_enter Tryz.func5, Tryz.ntmps5
  go_wp2_with fail
  refine HA.out.mono ?_
  rintro e W1 ⟨rfl, hB⟩
  have HB1 := Lib.hid hB
  have HE1 := Lib.hid (HE.out.below hB)
  have HTW := Lib.hid (show Two W1.heap.size 0 (.slice none 0 0) (.slice none 0 0) [] W1 W1 from ⟨OwnR.nil _ _ _, OwnR.nil _ _ _, .inl rfl, Below.refl _ _, Nat.le_refl _, Nat.le_refl _, fun r h => by cases h⟩)
  clear hB HA
  go_wp2_with fail
  go_loopw [11, 12, 27] (fun v u i wr => ∃ (k : Nat) (xs : List RuL), k ≤ l.length ∧ i = .int .i64 (k : Int) ∧ Two W1.heap.size (min k 20) v u xs W1 wr) (fun _ _ i _ => l.length - (intOf i).toNat)
  case atStart => exact ⟨0, [], by omega, rfl, HTW.out⟩
  case round =>
    obtain ⟨k, xs, hk, rfl, hT⟩ := hrel
    have HT := Lib.hid hT
    by_cases hlt : k < l.length
    · have hbw := HB1.out.trans (hT.low.mono HB1.out.size)
      obtain ⟨g, o, rfl, hgl, e0, e1, e2, e3, e4, e5⟩ := (HV.out.below hbw (Nat.le_refl _)).six k hlt
      have HF := Lib.hid (fun W => refFew_any l[k] W (HG.out _ (List.getElem_mem hlt)))
      have hfs := fewR_small l[k]
      obtain ⟨q, hqd⟩ : ∃ q, q = fewR l[k] := ⟨_, rfl⟩
      rw [← hqd] at HF hfs
      obtain ⟨x, hx⟩ : ∃ x, x = l[k] := ⟨_, rfl⟩
      rw [← hx] at e0 e1 e2 e3 e4 e5 HF
      have HRI := Lib.hid (fun W => right_any q W ⟨by omega, by omega, by omega⟩)
      have HFS := Lib.hid hfs
      obtain ⟨al, ro, te, ho, fr, ti⟩ := x
      obtain ⟨al2, ro2, te2, ho2, fr2, ti2⟩ := q
      simp only at e0 e1 e2 e3 e4 e5
      obtain ⟨bx, hbx⟩ : ∃ bx, bx = wr.heap.size := ⟨_, rfl⟩
      obtain ⟨V1, hV1⟩ : ∃ V1, V1 = wr.alloc (.cells #[.bool al, str ro, str te, str ho, .int .i64 fr, .int .i64 ti] 33) := ⟨_, rfl⟩
      have HR1 := Lib.hid (show TwoR W1.heap.size u11 u12 xs xs bx ⟨al, ro, te, ho, fr, ti⟩ W1 V1 from by rw [hV1, hbx]; exact hT.box (rcl ⟨al, ro, te, ho, fr, ti⟩) _ rfl)
      have HBX := Lib.hid (show W1.heap.size ≤ bx from by rw [hbx]; exact hT.low.size)
      clear hqd hx hT hbw hfs
      have hk0 := HR1.out.bl
      have d0 := hk0.at (o := 0) rfl
      have d1 := hk0.at (o := 1) rfl
      have d2 := hk0.at (o := 2) rfl
      have d3 := hk0.at (o := 3) rfl
      have d4 := hk0.at (o := 4) rfl
      have d5 := hk0.at (o := 5) rfl
      rw [hV1, hbx] at d0 d1 d2 d3 d4 d5
      clear hk0
      go_wp2_with fail
      rw [← hV1, ← hbx]
      refine (HF.out _).mono ?_
      rintro e V2 ⟨rfl, hB⟩
      clear d0 d1 d2 d3 d4 d5 hV1 hbx
      have HR2 := Lib.hid (HR1.out.below hB)
      clear hB
      have hk0 := HR2.out.bl
      have hlt0 := hk0.lt
      have d0 := hk0.at (o := 0) rfl
      have d1 := hk0.at (o := 1) rfl
      have d2 := hk0.at (o := 2) rfl
      have d3 := hk0.at (o := 3) rfl
      have d4 := hk0.at (o := 4) rfl
      have d5 := hk0.at (o := 5) rfl
      have f0 := hk0.free 0
      have f1 := hk0.free 1
      have f2 := hk0.free 2
      have f3 := hk0.free 3
      have f4 := hk0.free 4
      have f5 := hk0.free 5
      clear hk0
      obtain ⟨V3, hV3⟩ : ∃ V3, V3 = ((((((V2.setCell ⟨bx, 0, none⟩ (.bool al2)).setCell ⟨bx, 1, none⟩ (str ro2)).setCell ⟨bx, 2, none⟩ (str te2)).setCell ⟨bx, 3, none⟩ (str ho2)).setCell ⟨bx, 4, none⟩ (.int .i64 fr2)).setCell ⟨bx, 5, none⟩ (.int .i64 ti2)) := ⟨_, rfl⟩
      have HR3 := Lib.hid (show TwoR W1.heap.size u11 u12 xs xs bx ⟨al2, ro2, te2, ho2, fr2, ti2⟩ W1 V3 from by rw [hV3]; exact HR2.out.store HBX.out)
      have hk0 := HR3.out.bl
      have r0 := hk0.at (o := 0) rfl
      have r1 := hk0.at (o := 1) rfl
      have r2 := hk0.at (o := 2) rfl
      have r3 := hk0.at (o := 3) rfl
      have r4 := hk0.at (o := 4) rfl
      have r5 := hk0.at (o := 5) rfl
      rw [hV3] at r0 r1 r2 r3 r4 r5
      clear hk0
      by_cases h20 : (k : Int) < 20
      · skip
        go_wp2_with fail
        rw [← hV3]
        obtain ⟨P, hP⟩ : ∃ P, P = validB ⟨al2, ro2, te2, ho2, fr2, ti2⟩ := ⟨_, rfl⟩
        rw [← hP] at HRI
        have HP := Lib.hid hP; clear hP r0 r1 r2 r3 r4 r5 d0 d1 d2 d3 d4 d5 f0 f1 f2 f3 f4 f5
        refine (HRI.out _).mono ?_
        rintro e V4 ⟨rfl, hB⟩
        have HR4 := Lib.hid (HR3.out.below hB)
        clear hB hV3
        cases P with
        | false =>
          go_wp2_with fail
          go_roundw
          case rel => exact ⟨k + 1, xs, by omega, by go_num, (HR4.out.two HT.out.kept).more (by omega)⟩
          case measure => simp [intOf]; omega
        | true =>
          go_wp2_with fail
          have HKP := Lib.hid HT.out.kept
          have HKS := Lib.hid (show Kept (min (k + 1) 20) (xs ++ [⟨al2, ro2, te2, ho2, fr2, ti2⟩]) from by have h := HT.out.kept.snoc (r := ⟨al2, ro2, te2, ho2, fr2, ti2⟩) ⟨HP.out.symm, HFS.out⟩; exact ⟨by have := h.1; omega, h.2⟩)
          have HRV4d := Lib.hid (show TwoR W1.heap.size u11 u12 xs xs bx ⟨al2, ro2, te2, ho2, fr2, ti2⟩ W1 V4.drew from HR4.out.below ((Below.refl _ V4).drew))
          have HZV4d := Lib.hid (show V4.heap.size ≤ V4.drew.heap.size from Nat.le_refl _)
          have HN := Lib.hid (show (∀ n, V4.heap.size ≤ n → u11.ownBlock ≠ some n) ∧ (∀ n, V4.heap.size ≤ n → u12.ownBlock ≠ some n) from ⟨fun n hn e => by have := (HR4.out.own1.lt _ e).2; omega, fun n hn e => by have := (HR4.out.own2.lt _ e).2; omega⟩)
          have HSIX := Lib.hid (fun W (h : Blk W bx (rcl ⟨al2, ro2, te2, ho2, fr2, ti2⟩)) => (show W.cell? ⟨bx, 0, none⟩ = some (.bool al2) ∧ W.cell? ⟨bx, 1, none⟩ = some (str ro2) ∧ W.cell? ⟨bx, 2, none⟩ = some (str te2) ∧ W.cell? ⟨bx, 3, none⟩ = some (str ho2) ∧ W.cell? ⟨bx, 4, none⟩ = some (.int .i64 fr2) ∧ W.cell? ⟨bx, 5, none⟩ = some (.int .i64 ti2) from ⟨h.at (o := 0) rfl, h.at (o := 1) rfl, h.at (o := 2) rfl, h.at (o := 3) rfl, h.at (o := 4) rfl, h.at (o := 5) rfl⟩))
          have HX := Lib.hid (HSIX.out _ HRV4d.out.bl)
          obtain ⟨V4d, hV4d⟩ : ∃ V, V = V4.drew := ⟨_, rfl⟩
          refine wp_region_noPanic ?_
          refine wp_region_held (S := fun W => W.cell? ⟨bx, 0, none⟩ = some (.bool al2) ∧ W.cell? ⟨bx, 1, none⟩ = some (str ro2) ∧ W.cell? ⟨bx, 2, none⟩ = some (str te2) ∧ W.cell? ⟨bx, 3, none⟩ = some (str ho2) ∧ W.cell? ⟨bx, 4, none⟩ = some (.int .i64 fr2) ∧ W.cell? ⟨bx, 5, none⟩ = some (.int .i64 ti2)) (by kernel_rfl) ?_
          change wpAnyH _ _ _ _ _ _ _ _ V4.drew
          rw [← hV4d] at HRV4d HZV4d HX ⊢
          clear hV4d
          refine takeH 0 40 (u11) rfl rfl (by kernel_rfl) (by kernel_rfl) (by kernel_rfl) (fun _ _ _ h => h) rfl (fun w' _ => by go_simp) HX.out ?_
          go_frame
          refine takeH 1 41 (.agg #[.bool al2, str ro2, str te2, str ho2, .int .i64 fr2, .int .i64 ti2]) rfl rfl (by kernel_rfl) (by kernel_rfl) (by kernel_rfl) (fun _ _ _ h => h) rfl (fun w' h => by obtain ⟨h0, h1, h2, h3, h4, h5⟩ := h; go_simp) HX.out ?_
          go_frame
          refine takeH 4 44 (u12) rfl rfl (by kernel_rfl) (by kernel_rfl) (by kernel_rfl) (fun _ _ _ h => h) rfl (fun w' _ => by go_simp) HX.out ?_
          go_frame
          refine takeH 5 45 (.agg #[.bool al2, str ro2, str te2, str ho2, .int .i64 fr2, .int .i64 ti2]) rfl rfl (by kernel_rfl) (by kernel_rfl) (by kernel_rfl) (fun _ _ _ h => h) rfl (fun w' h => by obtain ⟨h0, h1, h2, h3, h4, h5⟩ := h; go_simp) HX.out ?_
          go_frame
          refine wpAnyH_all (rs := [2, 6]) (by kernel_rfl) (by simp) ?_
          intro i hi
          simp only [List.mem_cons, List.mem_nil_iff, or_false] at hi
          rcases hi with rfl | rfl
          · skip
            obtain ⟨Yp1, hYp1⟩ : ∃ Y, Y = V4d.alloc (.cells #[.bool al2, str ro2, str te2, str ho2, .int .i64 fr2, .int .i64 ti2] 41) := ⟨_, rfl⟩
            obtain ⟨na, hna⟩ : ∃ n, n = V4d.heap.size := ⟨_, rfl⟩
            have HRYp1 := Lib.hid (show TwoR W1.heap.size u11 u12 xs xs bx ⟨al2, ro2, te2, ho2, fr2, ti2⟩ W1 Yp1 from by rw [hYp1]; exact HRV4d.out.below ((Below.refl _ _).alloc (Nat.le_refl _) _))
            have KaYp1 := Lib.hid (show Blk Yp1 na (rcl ⟨al2, ro2, te2, ho2, fr2, ti2⟩) from by rw [hYp1, hna]; exact Blk.new _ _ _)
            have La := Lib.hid (show V4.heap.size ≤ na from by rw [hna]; exact HZV4d.out)
            have HZYp1 := Lib.hid (show V4.heap.size ≤ Yp1.heap.size from by rw [hYp1]; simp; have := HZV4d.out; omega)
            refine wpOp_valueX 42 rfl rfl rfl (.slice (some ⟨na, 0, none⟩) 1 1) Yp1 (by rw [hYp1, hna]; go_simp) ⟨HSIX.out _ HRYp1.out.bl, ?_⟩
            go_frame
            clear hYp1 hna
            have HX := Lib.hid (HSIX.out _ HRYp1.out.bl)
            refine wpAnyH_all (rs := [3, 6]) (by kernel_rfl) (by simp) ?_
            intro i hi
            simp only [List.mem_cons, List.mem_nil_iff, or_false] at hi
            rcases hi with rfl | rfl
            · skip
              refine wpOp_appR1 rfl rfl (.tmp 40) (.tmp 42) rfl W1.heap.size u11 xs rfl HRYp1.out.own1 na ⟨al2, ro2, te2, ho2, fr2, ti2⟩ rfl KaYp1.out (by have := HKP.out.1; omega) (Nat.le_trans HRYp1.out.bw HRYp1.out.low.size) ?_
              intro vq1 Yq2 ho hg hv
              have HRYq2 := Lib.hid (HRYp1.out.put1 hg ho hv)
              have HZYq2 := Lib.hid (Nat.le_trans HZYp1.out hg.size)
              clear ho hg hv
              refine ⟨HSIX.out _ HRYq2.out.bl, ?_⟩
              go_frame
              have HX := Lib.hid (HSIX.out _ HRYq2.out.bl)
              refine wpAnyH_all (rs := [6]) (by kernel_rfl) (by simp) ?_
              simp only [List.mem_singleton, forall_eq]
              obtain ⟨Yq3, hYq3⟩ : ∃ Y, Y = Yq2.alloc (.cells #[.bool al2, str ro2, str te2, str ho2, .int .i64 fr2, .int .i64 ti2] 33) := ⟨_, rfl⟩
              obtain ⟨nb, hnb⟩ : ∃ n, n = Yq2.heap.size := ⟨_, rfl⟩
              have HRYq3 := Lib.hid (show TwoR W1.heap.size vq1 u12 (xs ++ [⟨al2, ro2, te2, ho2, fr2, ti2⟩]) xs bx ⟨al2, ro2, te2, ho2, fr2, ti2⟩ W1 Yq3 from by rw [hYq3]; exact HRYq2.out.below ((Below.refl _ _).alloc (Nat.le_refl _) _))
              have KbYq3 := Lib.hid (show Blk Yq3 nb (rcl ⟨al2, ro2, te2, ho2, fr2, ti2⟩) from by rw [hYq3, hnb]; exact Blk.new _ _ _)
              have Lb := Lib.hid (show V4.heap.size ≤ nb from by rw [hnb]; exact HZYq2.out)
              have HZYq3 := Lib.hid (show V4.heap.size ≤ Yq3.heap.size from by rw [hYq3]; simp; have := HZYq2.out; omega)
              refine wpOp_valueX 46 rfl rfl rfl (.slice (some ⟨nb, 0, none⟩) 1 1) Yq3 (by rw [hYq3, hnb]; go_simp) ⟨HSIX.out _ HRYq3.out.bl, ?_⟩
              go_frame
              clear hYq3 hnb
              have HX := Lib.hid (HSIX.out _ HRYq3.out.bl)
              refine wpAnyH_all (rs := [7]) (by kernel_rfl) (by simp) ?_
              simp only [List.mem_singleton, forall_eq]
              refine wpOp_appR2 rfl rfl (.tmp 44) (.tmp 46) rfl W1.heap.size u12 xs rfl HRYq3.out.own2 nb ⟨al2, ro2, te2, ho2, fr2, ti2⟩ rfl KbYq3.out (by have := HKP.out.1; omega) (Nat.le_trans HRYq3.out.bw HRYq3.out.low.size) ?_
              intro vq2 Yq4 ho hg hv
              have HRYq4 := Lib.hid (HRYq3.out.put2 hg ho hv)
              have HZYq4 := Lib.hid (Nat.le_trans HZYq3.out hg.size)
              clear ho hg hv
              refine ⟨HSIX.out _ HRYq4.out.bl, ?_⟩
              go_frame
              have HX := Lib.hid (HSIX.out _ HRYq4.out.bl)
              refine takeH 8 11 (vq1) rfl rfl (by kernel_rfl) (by kernel_rfl) (by kernel_rfl) (fun _ _ _ h => h) rfl (fun w' _ => by go_simp) HX.out ?_
              go_frame
              refine takeH 9 12 (vq2) rfl rfl (by kernel_rfl) (by kernel_rfl) (by kernel_rfl) (fun _ _ _ h => h) rfl (fun w' _ => by go_simp) HX.out ?_
              go_frame
              refine wpAnyH_done (by kernel_rfl) ?_ _
              refine NoPanic.normal ?_
              go_wp2_with fail
              go_roundw
              case rel => exact ⟨k + 1, _, by omega, by go_num, HRYq4.out.two HKS.out⟩
              case measure => simp [intOf]; omega
            · skip
              obtain ⟨Yr2, hYr2⟩ : ∃ Y, Y = Yp1.alloc (.cells #[.bool al2, str ro2, str te2, str ho2, .int .i64 fr2, .int .i64 ti2] 33) := ⟨_, rfl⟩
              obtain ⟨nb, hnb⟩ : ∃ n, n = Yp1.heap.size := ⟨_, rfl⟩
              have HRYr2 := Lib.hid (show TwoR W1.heap.size u11 u12 xs xs bx ⟨al2, ro2, te2, ho2, fr2, ti2⟩ W1 Yr2 from by rw [hYr2]; exact HRYp1.out.below ((Below.refl _ _).alloc (Nat.le_refl _) _))
              have KbYr2 := Lib.hid (show Blk Yr2 nb (rcl ⟨al2, ro2, te2, ho2, fr2, ti2⟩) from by rw [hYr2, hnb]; exact Blk.new _ _ _)
              have Lb := Lib.hid (show V4.heap.size ≤ nb from by rw [hnb]; exact HZYp1.out)
              have HZYr2 := Lib.hid (show V4.heap.size ≤ Yr2.heap.size from by rw [hYr2]; simp; have := HZYp1.out; omega)
              have KaYr2 := Lib.hid (show Blk Yr2 na (rcl ⟨al2, ro2, te2, ho2, fr2, ti2⟩) from by rw [hYr2]; exact KaYp1.out.alloc _)
              refine wpOp_valueX 46 rfl rfl rfl (.slice (some ⟨nb, 0, none⟩) 1 1) Yr2 (by rw [hYr2, hnb]; go_simp) ⟨HSIX.out _ HRYr2.out.bl, ?_⟩
              go_frame
              clear hYr2 hnb
              have HX := Lib.hid (HSIX.out _ HRYr2.out.bl)
              refine wpAnyH_all (rs := [3]) (by kernel_rfl) (by simp) ?_
              simp only [List.mem_singleton, forall_eq]
              refine wpOp_appR1 rfl rfl (.tmp 40) (.tmp 42) rfl W1.heap.size u11 xs rfl HRYr2.out.own1 na ⟨al2, ro2, te2, ho2, fr2, ti2⟩ rfl KaYr2.out (by have := HKP.out.1; omega) (Nat.le_trans HRYr2.out.bw HRYr2.out.low.size) ?_
              intro vr1 Yr3 ho hg hv
              have HRYr3 := Lib.hid (HRYr2.out.put1 hg ho hv)
              have HZYr3 := Lib.hid (Nat.le_trans HZYr2.out hg.size)
              have KbYr3 := Lib.hid (KbYr2.out.grown hg (fun e => HN.out.1 nb Lb.out e.symm))
              clear ho hg hv
              refine ⟨HSIX.out _ HRYr3.out.bl, ?_⟩
              go_frame
              have HX := Lib.hid (HSIX.out _ HRYr3.out.bl)
              refine wpAnyH_all (rs := [7]) (by kernel_rfl) (by simp) ?_
              simp only [List.mem_singleton, forall_eq]
              refine wpOp_appR2 rfl rfl (.tmp 44) (.tmp 46) rfl W1.heap.size u12 xs rfl HRYr3.out.own2 nb ⟨al2, ro2, te2, ho2, fr2, ti2⟩ rfl KbYr3.out (by have := HKP.out.1; omega) (Nat.le_trans HRYr3.out.bw HRYr3.out.low.size) ?_
              intro vr2 Yr4 ho hg hv
              have HRYr4 := Lib.hid (HRYr3.out.put2 hg ho hv)
              have HZYr4 := Lib.hid (Nat.le_trans HZYr3.out hg.size)
              clear ho hg hv
              refine ⟨HSIX.out _ HRYr4.out.bl, ?_⟩
              go_frame
              have HX := Lib.hid (HSIX.out _ HRYr4.out.bl)
              refine takeH 8 11 (vr1) rfl rfl (by kernel_rfl) (by kernel_rfl) (by kernel_rfl) (fun _ _ _ h => h) rfl (fun w' _ => by go_simp) HX.out ?_
              go_frame
              refine takeH 9 12 (vr2) rfl rfl (by kernel_rfl) (by kernel_rfl) (by kernel_rfl) (fun _ _ _ h => h) rfl (fun w' _ => by go_simp) HX.out ?_
              go_frame
              refine wpAnyH_done (by kernel_rfl) ?_ _
              refine NoPanic.normal ?_
              go_wp2_with fail
              go_roundw
              case rel => exact ⟨k + 1, _, by omega, by go_num, HRYr4.out.two HKS.out⟩
              case measure => simp [intOf]; omega
          · skip
            obtain ⟨Ys1, hYs1⟩ : ∃ Y, Y = V4d.alloc (.cells #[.bool al2, str ro2, str te2, str ho2, .int .i64 fr2, .int .i64 ti2] 33) := ⟨_, rfl⟩
            obtain ⟨nb, hnb⟩ : ∃ n, n = V4d.heap.size := ⟨_, rfl⟩
            have HRYs1 := Lib.hid (show TwoR W1.heap.size u11 u12 xs xs bx ⟨al2, ro2, te2, ho2, fr2, ti2⟩ W1 Ys1 from by rw [hYs1]; exact HRV4d.out.below ((Below.refl _ _).alloc (Nat.le_refl _) _))
            have KbYs1 := Lib.hid (show Blk Ys1 nb (rcl ⟨al2, ro2, te2, ho2, fr2, ti2⟩) from by rw [hYs1, hnb]; exact Blk.new _ _ _)
            have Lb := Lib.hid (show V4.heap.size ≤ nb from by rw [hnb]; exact HZV4d.out)
            have HZYs1 := Lib.hid (show V4.heap.size ≤ Ys1.heap.size from by rw [hYs1]; simp; have := HZV4d.out; omega)
            refine wpOp_valueX 46 rfl rfl rfl (.slice (some ⟨nb, 0, none⟩) 1 1) Ys1 (by rw [hYs1, hnb]; go_simp) ⟨HSIX.out _ HRYs1.out.bl, ?_⟩
            go_frame
            clear hYs1 hnb
            have HX := Lib.hid (HSIX.out _ HRYs1.out.bl)
            refine wpAnyH_all (rs := [2]) (by kernel_rfl) (by simp) ?_
            simp only [List.mem_singleton, forall_eq]
            obtain ⟨Ys2, hYs2⟩ : ∃ Y, Y = Ys1.alloc (.cells #[.bool al2, str ro2, str te2, str ho2, .int .i64 fr2, .int .i64 ti2] 41) := ⟨_, rfl⟩
            obtain ⟨na, hna⟩ : ∃ n, n = Ys1.heap.size := ⟨_, rfl⟩
            have HRYs2 := Lib.hid (show TwoR W1.heap.size u11 u12 xs xs bx ⟨al2, ro2, te2, ho2, fr2, ti2⟩ W1 Ys2 from by rw [hYs2]; exact HRYs1.out.below ((Below.refl _ _).alloc (Nat.le_refl _) _))
            have KaYs2 := Lib.hid (show Blk Ys2 na (rcl ⟨al2, ro2, te2, ho2, fr2, ti2⟩) from by rw [hYs2, hna]; exact Blk.new _ _ _)
            have La := Lib.hid (show V4.heap.size ≤ na from by rw [hna]; exact HZYs1.out)
            have HZYs2 := Lib.hid (show V4.heap.size ≤ Ys2.heap.size from by rw [hYs2]; simp; have := HZYs1.out; omega)
            have KbYs2 := Lib.hid (show Blk Ys2 nb (rcl ⟨al2, ro2, te2, ho2, fr2, ti2⟩) from by rw [hYs2]; exact KbYs1.out.alloc _)
            refine wpOp_valueX 42 rfl rfl rfl (.slice (some ⟨na, 0, none⟩) 1 1) Ys2 (by rw [hYs2, hna]; go_simp) ⟨HSIX.out _ HRYs2.out.bl, ?_⟩
            go_frame
            clear hYs2 hna
            have HX := Lib.hid (HSIX.out _ HRYs2.out.bl)
            refine wpAnyH_all (rs := [3]) (by kernel_rfl) (by simp) ?_
            simp only [List.mem_singleton, forall_eq]
            refine wpOp_appR1 rfl rfl (.tmp 40) (.tmp 42) rfl W1.heap.size u11 xs rfl HRYs2.out.own1 na ⟨al2, ro2, te2, ho2, fr2, ti2⟩ rfl KaYs2.out (by have := HKP.out.1; omega) (Nat.le_trans HRYs2.out.bw HRYs2.out.low.size) ?_
            intro vs1 Ys3 ho hg hv
            have HRYs3 := Lib.hid (HRYs2.out.put1 hg ho hv)
            have HZYs3 := Lib.hid (Nat.le_trans HZYs2.out hg.size)
            have KbYs3 := Lib.hid (KbYs2.out.grown hg (fun e => HN.out.1 nb Lb.out e.symm))
            clear ho hg hv
            refine ⟨HSIX.out _ HRYs3.out.bl, ?_⟩
            go_frame
            have HX := Lib.hid (HSIX.out _ HRYs3.out.bl)
            refine wpAnyH_all (rs := [7]) (by kernel_rfl) (by simp) ?_
            simp only [List.mem_singleton, forall_eq]
            refine wpOp_appR2 rfl rfl (.tmp 44) (.tmp 46) rfl W1.heap.size u12 xs rfl HRYs3.out.own2 nb ⟨al2, ro2, te2, ho2, fr2, ti2⟩ rfl KbYs3.out (by have := HKP.out.1; omega) (Nat.le_trans HRYs3.out.bw HRYs3.out.low.size) ?_
            intro vs2 Ys4 ho hg hv
            have HRYs4 := Lib.hid (HRYs3.out.put2 hg ho hv)
            have HZYs4 := Lib.hid (Nat.le_trans HZYs3.out hg.size)
            clear ho hg hv
            refine ⟨HSIX.out _ HRYs4.out.bl, ?_⟩
            go_frame
            have HX := Lib.hid (HSIX.out _ HRYs4.out.bl)
            refine takeH 8 11 (vs1) rfl rfl (by kernel_rfl) (by kernel_rfl) (by kernel_rfl) (fun _ _ _ h => h) rfl (fun w' _ => by go_simp) HX.out ?_
            go_frame
            refine takeH 9 12 (vs2) rfl rfl (by kernel_rfl) (by kernel_rfl) (by kernel_rfl) (fun _ _ _ h => h) rfl (fun w' _ => by go_simp) HX.out ?_
            go_frame
            refine wpAnyH_done (by kernel_rfl) ?_ _
            refine NoPanic.normal ?_
            go_wp2_with fail
            go_roundw
            case rel => exact ⟨k + 1, _, by omega, by go_num, HRYs4.out.two HKS.out⟩
            case measure => simp [intOf]; omega
      · have h20d : decide ((k : Int) < 20) = false := decide_eq_false h20
        go_wp2_with fail
        try rw [← hV3]
        go_roundw
        case rel => exact ⟨k + 1, xs, by omega, by go_num, (HR3.out.two HT.out.kept).more (by omega)⟩
        case measure => simp [intOf]; omega
    · obtain rfl : k = l.length := by omega
      have hT20 := hT.more (m' := 20) (Nat.min_le_right _ _)
      have hkp := hT20.kept
      have hva : xs.all validB = true := List.all_eq_true.2 (fun r h => (hkp.2 r h).1)
      have hsm : ∀ r ∈ xs, SmallR r := fun r h => ⟨by have := (hkp.2 r h).2.1; omega, by have := (hkp.2 r h).2.2.1; omega, by have := (hkp.2 r h).2.2.2; omega⟩
      have hs2 : ∀ r ∈ xs, r.host.length ≤ 1000 := fun r h => by have := (hkp.2 r h).2.2.2; omega
      have hxl := hkp.1
      have HVA := Lib.hid hva
      have HSM := Lib.hid hsm
      have HS2 := Lib.hid hs2
      have HER := Lib.hid (HE.out.below (HB1.out.trans (hT20.low.mono HB1.out.size)))
      have HT0 := Lib.hid hT20
      have HNEW := Lib.hid (fun W (h : Env W) (hr : RlIn W W.heap.size u11 xs) => new_any W.heap.size u11 xs W h hr (Nat.le_refl _) hsm (by omega))
      have HWH := Lib.hid (fun W (h : Env W) B pv (hp : PolO W B pv xs) (hB : B ≤ W.heap.size) => which_any B pv xs role' ten' host' port W h hp hB hsm (by omega) (by omega))
      have HMA := Lib.hid (fun W (h : Env W) B pv (hp : PolO W B pv xs) (hB : B ≤ W.heap.size) => may_any B pv xs role' ten' host' port W h hp hB hsm (by omega) (by omega))
      have HRW := Lib.hid (fun W v (hr : RlIn W W.heap.size v xs) => refWhich_any W.heap.size v xs role' ten' host' port W hr (Nat.le_refl _) hs2 (by omega) (by omega))
      have HMN := Lib.hid (fun W (h : Env W) => may_any 0 (.pointer none) [] role' ten' host' port W h (.inl ⟨rfl, rfl⟩) (Nat.zero_le _) (fun r h => by cases h) (by decide) (by omega))
      have hwc : (∃ (a : whR role' ten' host' port xs = (0, false)) (b : whI role' ten' host' port xs = -1), mayL role' ten' host' port xs = false) ∨ ∃ (i : Nat) (hi : i < xs.length), whR role' ten' host' port xs = (((i : Nat) : Int), true) ∧ whI role' ten' host' port xs = (i : Int) ∧ mayL role' ten' host' port xs = xs[i].allow := by
        rcases whichL_cases role' ten' host' port xs with ⟨a, _, c⟩ | ⟨i, hi, a, _, _, d⟩
        · exact .inl ⟨by unfold whR; rw [a], by unfold whI; rw [a], c⟩
        · exact .inr ⟨i, hi, by unfold whR; rw [a], by unfold whI; rw [a], d⟩
      obtain ⟨A2, c2, rfl, hcx1, hcx2⟩ := hT20.own2.form
      clear hT20 hkp hva hsm hs2 HT hT hlt hk
      go_wp2_with fail
      refine (HT1.out _).mono ?_
      rintro e w1 ⟨rfl, rfl⟩
      go_wp2_with fail
      refine (HT2.out _).mono ?_
      rintro e w1 ⟨rfl, rfl⟩
      go_wp2_with fail
      refine (HT3.out _).mono ?_
      rintro e w1 ⟨rfl, rfl⟩
      go_wp2_with fail
      refine (HNEW.out _ HER.out HT0.out.own1.rlIn).mono ?_
      rintro e W5 ⟨pv, x, rfl, hcase, hB⟩
      rcases hcase with ⟨h, _⟩ | ⟨_, h, _⟩ | ⟨_, _, rfl, ⟨p, rfl⟩, hpo⟩
      · rw [HVA.out] at h; cases h
      · omega
      have HT5 := Lib.hid (HT0.out.below hB)
      have HE5 := Lib.hid (HER.out.below hB)
      have HP5 := Lib.hid hpo
      clear hB hpo
      go_wp2_with fail
      refine (HWH.out _ HE5.out _ _ HP5.out (Nat.le_refl _)).mono ?_
      rintro e W6 ⟨rfl, hB⟩
      have HT6 := Lib.hid (HT5.out.below hB)
      have HE6 := Lib.hid (HE5.out.below hB)
      have HP6 := Lib.hid ((HP5.out.below hB (Nat.le_refl _)).more hB.size)
      clear hB
      go_wp2_with fail
      refine (HRW.out _ _ HT6.out.own2.rlIn).mono ?_
      rintro e W7 ⟨rfl, hB⟩
      have HT7 := Lib.hid (HT6.out.below hB)
      have HE7 := Lib.hid (HE6.out.below hB)
      have HP7 := Lib.hid ((HP6.out.below hB (Nat.le_refl _)).more hB.size)
      clear hB
      go_wp2_with fail
      rcases hwc with ⟨a, b, m⟩ | ⟨i, hi, a, b, m⟩
      · rw [a, b]
        clear a b
        have HI : Hid (∃ B, B = W7.heap.size) := Lib.hid ⟨_, rfl⟩
        obtain ⟨B7, hB7⟩ := HI.out
        have HB7 := Lib.hid hB7
        clear hB7
        go_loopw [79] (fun i wr => ∃ k : Nat, k ≤ xs.length ∧ i = .int .i64 (k : Int) ∧ Two W1.heap.size 20 u11 (.slice A2 xs.length c2) xs W1 wr ∧ PolO wr B7 (.pointer (some ⟨p, 0, none⟩)) xs ∧ B7 ≤ wr.heap.size) (fun i _ => xs.length - (intOf i).toNat)
        case atStart => exact ⟨0, by omega, rfl, HT7.out, by rw [HB7.out]; exact HP7.out, by rw [HB7.out]; exact Nat.le_refl _⟩
        case round =>
          obtain ⟨k, hk, rfl, hT, hP, hBz⟩ := hrel
          have HTL := Lib.hid hT
          have HPL := Lib.hid hP
          have HBZ := Lib.hid hBz
          have HEL := Lib.hid (HE.out.below (HB1.out.trans (hT.low.mono HB1.out.size)))
          have HLOW := Lib.hid (HB1.out.trans (hT.low.mono HB1.out.size))
          by_cases hlt : k < xs.length
          · obtain ⟨g, o, rfl, hgl, e0, e1, e2, e3, e4, e5⟩ := hT.own2.rlIn.six k hlt
            have HCH := Lib.hid (fun W (h : Env W) => holds_any xs[k] role' ten' host' port W h (HSM.out _ (List.getElem_mem hlt)) (by omega))
            have HCR := Lib.hid (fun W => refHolds_any xs[k] role' ten' host' port W (HS2.out _ (List.getElem_mem hlt)) (by omega))
            obtain ⟨x, hx⟩ : ∃ x, x = xs[k] := ⟨_, rfl⟩
            rw [← hx] at e0 e1 e2 e3 e4 e5 HCH HCR
            obtain ⟨P, hPd⟩ : ∃ P, P = holdsB x role' ten' host' port := ⟨_, rfl⟩
            rw [← hPd] at HCH HCR
            obtain ⟨al, ro, te, ho, fr, ti⟩ := x
            simp only at e0 e1 e2 e3 e4 e5
            clear hx hPd hT hP hBz
            obtain ⟨bx, hbx⟩ : ∃ bx, bx = wr.heap.size := ⟨_, rfl⟩
            obtain ⟨V1, hV1⟩ : ∃ V1, V1 = wr.alloc (.cells #[.bool al, str ro, str te, str ho, .int .i64 fr, .int .i64 ti] 33) := ⟨_, rfl⟩
            have HBV := Lib.hid (show Below wr.heap.size wr V1 from by rw [hV1]; exact (Below.refl _ _).alloc (Nat.le_refl _) _)
            have HK1 := Lib.hid (show Blk V1 bx (rcl ⟨al, ro, te, ho, fr, ti⟩) from by rw [hV1, hbx]; exact Blk.new _ _ _)
            have d0 := HK1.out.at (o := 0) rfl
            have d1 := HK1.out.at (o := 1) rfl
            have d2 := HK1.out.at (o := 2) rfl
            have d3 := HK1.out.at (o := 3) rfl
            have d4 := HK1.out.at (o := 4) rfl
            have d5 := HK1.out.at (o := 5) rfl
            rw [hV1, hbx] at d0 d1 d2 d3 d4 d5
            go_wp2_with fail
            rw [← hV1, ← hbx]
            have HEV := Lib.hid (HEL.out.below HBV.out)
            clear hV1 hbx d0 d1 d2 d3 d4 d5
            have HSIX := Lib.hid (fun W (h : Blk W bx (rcl ⟨al, ro, te, ho, fr, ti⟩)) => (show W.cell? ⟨bx, 0, none⟩ = some (.bool al) ∧ W.cell? ⟨bx, 1, none⟩ = some (str ro) ∧ W.cell? ⟨bx, 2, none⟩ = some (str te) ∧ W.cell? ⟨bx, 3, none⟩ = some (str ho) ∧ W.cell? ⟨bx, 4, none⟩ = some (.int .i64 fr) ∧ W.cell? ⟨bx, 5, none⟩ = some (.int .i64 ti) from ⟨h.at (o := 0) rfl, h.at (o := 1) rfl, h.at (o := 2) rfl, h.at (o := 3) rfl, h.at (o := 4) rfl, h.at (o := 5) rfl⟩))
            refine wp_region_noPanic ?_
            refine wp_region_held (S := fun W => W.cell? ⟨bx, 0, none⟩ = some (.bool al) ∧ W.cell? ⟨bx, 1, none⟩ = some (str ro) ∧ W.cell? ⟨bx, 2, none⟩ = some (str te) ∧ W.cell? ⟨bx, 3, none⟩ = some (str ho) ∧ W.cell? ⟨bx, 4, none⟩ = some (.int .i64 fr) ∧ W.cell? ⟨bx, 5, none⟩ = some (.int .i64 ti)) (by kernel_rfl) ?_
            change wpAnyH _ _ _ _ _ _ _ _ V1.drew
            obtain ⟨V2, hV2⟩ : ∃ V, V = V1.drew := ⟨_, rfl⟩
            have HBV2 := Lib.hid (show Below wr.heap.size wr V2 from by rw [hV2]; exact HBV.out.drew)
            have HK2 := Lib.hid (show Blk V2 bx (rcl ⟨al, ro, te, ho, fr, ti⟩) from by rw [hV2]; exact HK1.out.drew)
            have HEV2 := Lib.hid (HEL.out.below HBV2.out)
            rw [← hV2]
            clear hV2
            have HX := Lib.hid (HSIX.out _ HK2.out)
            refine takeH 0 83 (.agg #[.bool al, str ro, str te, str ho, .int .i64 fr, .int .i64 ti]) rfl rfl (by kernel_rfl) (by kernel_rfl) (by kernel_rfl) (fun _ _ _ h => h) rfl (fun w' h => by obtain ⟨h0, h1, h2, h3, h4, h5⟩ := h; go_simp) HX.out ?_
            go_frame
            refine takeH 1 84 (str role') rfl rfl (by kernel_rfl) (by kernel_rfl) (by kernel_rfl) (fun _ _ _ h => h) rfl (fun w' _ => by go_simp) HX.out ?_
            go_frame
            refine takeH 2 85 (str ten') rfl rfl (by kernel_rfl) (by kernel_rfl) (by kernel_rfl) (fun _ _ _ h => h) rfl (fun w' _ => by go_simp) HX.out ?_
            go_frame
            refine takeH 3 86 (str host') rfl rfl (by kernel_rfl) (by kernel_rfl) (by kernel_rfl) (fun _ _ _ h => h) rfl (fun w' _ => by go_simp) HX.out ?_
            go_frame
            refine takeH 4 87 (.int .i64 port) rfl rfl (by kernel_rfl) (by kernel_rfl) (by kernel_rfl) (fun _ _ _ h => h) rfl (fun w' _ => by go_simp) HX.out ?_
            go_frame
            refine takeH 6 89 (.agg #[.bool al, str ro, str te, str ho, .int .i64 fr, .int .i64 ti]) rfl rfl (by kernel_rfl) (by kernel_rfl) (by kernel_rfl) (fun _ _ _ h => h) rfl (fun w' h => by obtain ⟨h0, h1, h2, h3, h4, h5⟩ := h; go_simp) HX.out ?_
            go_frame
            refine takeH 7 90 (str role') rfl rfl (by kernel_rfl) (by kernel_rfl) (by kernel_rfl) (fun _ _ _ h => h) rfl (fun w' _ => by go_simp) HX.out ?_
            go_frame
            refine takeH 8 91 (str ten') rfl rfl (by kernel_rfl) (by kernel_rfl) (by kernel_rfl) (fun _ _ _ h => h) rfl (fun w' _ => by go_simp) HX.out ?_
            go_frame
            refine takeH 9 92 (str host') rfl rfl (by kernel_rfl) (by kernel_rfl) (by kernel_rfl) (fun _ _ _ h => h) rfl (fun w' _ => by go_simp) HX.out ?_
            go_frame
            refine takeH 10 93 (.int .i64 port) rfl rfl (by kernel_rfl) (by kernel_rfl) (by kernel_rfl) (fun _ _ _ h => h) rfl (fun w' _ => by go_simp) HX.out ?_
            go_frame
            refine wpAnyH_all (rs := [5]) (by kernel_rfl) (by simp) ?_
            simp only [List.mem_singleton, forall_eq]
            refine wpOp_callD 88 rfl rfl rfl 22 #[.agg #[.bool al, str ro, str te, str ho, .int .i64 fr, .int .i64 ti], str role', str ten', str host', .int .i64 port] (by go_simp) ?_
            refine (HCH.out _ HEV2.out).mono ?_
            rintro e V3 ⟨rfl, hB⟩
            have HBV3 := Lib.hid (HBV2.out.trans (hB.mono HBV2.out.size))
            have HK3 := Lib.hid (HK2.out.below hB HK2.out.lt)
            clear hB
            refine ⟨_, rfl, HSIX.out _ HK3.out, ?_⟩
            go_frame
            have HX := Lib.hid (HSIX.out _ HK3.out)
            refine wpAnyH_all (rs := [11]) (by kernel_rfl) (by simp) ?_
            simp only [List.mem_singleton, forall_eq]
            refine wpOp_callD 94 rfl rfl rfl 23 #[.agg #[.bool al, str ro, str te, str ho, .int .i64 fr, .int .i64 ti], str role', str ten', str host', .int .i64 port] (by go_simp) ?_
            refine (HCR.out _).mono ?_
            rintro e V4 ⟨rfl, hB⟩
            have HBV4 := Lib.hid (HBV3.out.trans (hB.mono HBV3.out.size))
            have HK4 := Lib.hid (HK3.out.below hB HK3.out.lt)
            clear hB
            refine ⟨_, rfl, HSIX.out _ HK4.out, ?_⟩
            go_frame
            have HX := Lib.hid (HSIX.out _ HK4.out)
            refine takeH 12 95 (.bool false) rfl rfl (by kernel_rfl) (by kernel_rfl) (by kernel_rfl) (fun _ _ _ h => h) rfl (fun w' _ => by first | go_simp | (cases P <;> go_simp)) HX.out ?_
            go_frame
            refine wpAnyH_done (by kernel_rfl) ?_ _
            refine NoPanic.normal ?_
            go_wp2_with fail
            go_roundw
            case rel => exact ⟨k + 1, by omega, by go_num, HTL.out.below HBV4.out, HPL.out.below HBV4.out HBZ.out, Nat.le_trans HBZ.out HBV4.out.size⟩
            case measure => simp [intOf]; omega
          · skip
            clear hT hP hBz
            have HMY := Lib.hid (HMA.out _ HEL.out _ _ HPL.out HBZ.out)
            obtain ⟨al, hal⟩ : ∃ al, al = mayL role' ten' host' port xs := ⟨_, rfl⟩
            rw [← hal] at HMY
            rw [← hal] at m
            go_wp2_with fail
            refine HMY.out.mono ?_
            rintro e W8 ⟨rfl, hB⟩
            have HT8 := Lib.hid (HTL.out.below hB)
            have HE8 := Lib.hid (HEL.out.below hB)
            have HL8 := Lib.hid (HLOW.out.trans (hB.mono HLOW.out.size))
            clear hB HMY hal
            subst m
            go_wp2_with fail
            refine (HMN.out _ HE8.out).mono ?_
            rintro e W9 ⟨rfl, hB⟩
            have HT9 := Lib.hid (HT8.out.below hB)
            have HL9 := Lib.hid (HL8.out.trans (hB.mono HL8.out.size))
            clear hB
            have hm0 : mayL role' ten' host' port [] = false := rfl
            rw [hm0]
            go_wp2_with fail
            refine (lenN_any _).mono ?_
            rintro e W10 ⟨rfl, rfl⟩
            go_wp2_with fail
            refine (idleN_any _).mono ?_
            rintro e W11 ⟨rfl, hB⟩
            have HL11 := Lib.hid (HL9.out.trans (hB.mono HL9.out.size))
            clear hB
            go_wp2_with fail
            go_ret
            exact ⟨by first | rfl | simp [*], HL11.out⟩
      · rw [a, b]
        clear a b
        have HI : Hid (∃ B, B = W7.heap.size) := Lib.hid ⟨_, rfl⟩
        obtain ⟨B7, hB7⟩ := HI.out
        have HB7 := Lib.hid hB7
        clear hB7
        go_loopw [79] (fun i wr => ∃ k : Nat, k ≤ xs.length ∧ i = .int .i64 (k : Int) ∧ Two W1.heap.size 20 u11 (.slice A2 xs.length c2) xs W1 wr ∧ PolO wr B7 (.pointer (some ⟨p, 0, none⟩)) xs ∧ B7 ≤ wr.heap.size) (fun i _ => xs.length - (intOf i).toNat)
        case atStart => exact ⟨0, by omega, rfl, HT7.out, by rw [HB7.out]; exact HP7.out, by rw [HB7.out]; exact Nat.le_refl _⟩
        case round =>
          obtain ⟨k, hk, rfl, hT, hP, hBz⟩ := hrel
          have HTL := Lib.hid hT
          have HPL := Lib.hid hP
          have HBZ := Lib.hid hBz
          have HEL := Lib.hid (HE.out.below (HB1.out.trans (hT.low.mono HB1.out.size)))
          have HLOW := Lib.hid (HB1.out.trans (hT.low.mono HB1.out.size))
          by_cases hlt : k < xs.length
          · obtain ⟨g, o, rfl, hgl, e0, e1, e2, e3, e4, e5⟩ := hT.own2.rlIn.six k hlt
            have HCH := Lib.hid (fun W (h : Env W) => holds_any xs[k] role' ten' host' port W h (HSM.out _ (List.getElem_mem hlt)) (by omega))
            have HCR := Lib.hid (fun W => refHolds_any xs[k] role' ten' host' port W (HS2.out _ (List.getElem_mem hlt)) (by omega))
            obtain ⟨x, hx⟩ : ∃ x, x = xs[k] := ⟨_, rfl⟩
            rw [← hx] at e0 e1 e2 e3 e4 e5 HCH HCR
            obtain ⟨P, hPd⟩ : ∃ P, P = holdsB x role' ten' host' port := ⟨_, rfl⟩
            rw [← hPd] at HCH HCR
            obtain ⟨al, ro, te, ho, fr, ti⟩ := x
            simp only at e0 e1 e2 e3 e4 e5
            clear hx hPd hT hP hBz
            obtain ⟨bx, hbx⟩ : ∃ bx, bx = wr.heap.size := ⟨_, rfl⟩
            obtain ⟨V1, hV1⟩ : ∃ V1, V1 = wr.alloc (.cells #[.bool al, str ro, str te, str ho, .int .i64 fr, .int .i64 ti] 33) := ⟨_, rfl⟩
            have HBV := Lib.hid (show Below wr.heap.size wr V1 from by rw [hV1]; exact (Below.refl _ _).alloc (Nat.le_refl _) _)
            have HK1 := Lib.hid (show Blk V1 bx (rcl ⟨al, ro, te, ho, fr, ti⟩) from by rw [hV1, hbx]; exact Blk.new _ _ _)
            have d0 := HK1.out.at (o := 0) rfl
            have d1 := HK1.out.at (o := 1) rfl
            have d2 := HK1.out.at (o := 2) rfl
            have d3 := HK1.out.at (o := 3) rfl
            have d4 := HK1.out.at (o := 4) rfl
            have d5 := HK1.out.at (o := 5) rfl
            rw [hV1, hbx] at d0 d1 d2 d3 d4 d5
            go_wp2_with fail
            rw [← hV1, ← hbx]
            have HEV := Lib.hid (HEL.out.below HBV.out)
            clear hV1 hbx d0 d1 d2 d3 d4 d5
            have HSIX := Lib.hid (fun W (h : Blk W bx (rcl ⟨al, ro, te, ho, fr, ti⟩)) => (show W.cell? ⟨bx, 0, none⟩ = some (.bool al) ∧ W.cell? ⟨bx, 1, none⟩ = some (str ro) ∧ W.cell? ⟨bx, 2, none⟩ = some (str te) ∧ W.cell? ⟨bx, 3, none⟩ = some (str ho) ∧ W.cell? ⟨bx, 4, none⟩ = some (.int .i64 fr) ∧ W.cell? ⟨bx, 5, none⟩ = some (.int .i64 ti) from ⟨h.at (o := 0) rfl, h.at (o := 1) rfl, h.at (o := 2) rfl, h.at (o := 3) rfl, h.at (o := 4) rfl, h.at (o := 5) rfl⟩))
            refine wp_region_noPanic ?_
            refine wp_region_held (S := fun W => W.cell? ⟨bx, 0, none⟩ = some (.bool al) ∧ W.cell? ⟨bx, 1, none⟩ = some (str ro) ∧ W.cell? ⟨bx, 2, none⟩ = some (str te) ∧ W.cell? ⟨bx, 3, none⟩ = some (str ho) ∧ W.cell? ⟨bx, 4, none⟩ = some (.int .i64 fr) ∧ W.cell? ⟨bx, 5, none⟩ = some (.int .i64 ti)) (by kernel_rfl) ?_
            change wpAnyH _ _ _ _ _ _ _ _ V1.drew
            obtain ⟨V2, hV2⟩ : ∃ V, V = V1.drew := ⟨_, rfl⟩
            have HBV2 := Lib.hid (show Below wr.heap.size wr V2 from by rw [hV2]; exact HBV.out.drew)
            have HK2 := Lib.hid (show Blk V2 bx (rcl ⟨al, ro, te, ho, fr, ti⟩) from by rw [hV2]; exact HK1.out.drew)
            have HEV2 := Lib.hid (HEL.out.below HBV2.out)
            rw [← hV2]
            clear hV2
            have HX := Lib.hid (HSIX.out _ HK2.out)
            refine takeH 0 83 (.agg #[.bool al, str ro, str te, str ho, .int .i64 fr, .int .i64 ti]) rfl rfl (by kernel_rfl) (by kernel_rfl) (by kernel_rfl) (fun _ _ _ h => h) rfl (fun w' h => by obtain ⟨h0, h1, h2, h3, h4, h5⟩ := h; go_simp) HX.out ?_
            go_frame
            refine takeH 1 84 (str role') rfl rfl (by kernel_rfl) (by kernel_rfl) (by kernel_rfl) (fun _ _ _ h => h) rfl (fun w' _ => by go_simp) HX.out ?_
            go_frame
            refine takeH 2 85 (str ten') rfl rfl (by kernel_rfl) (by kernel_rfl) (by kernel_rfl) (fun _ _ _ h => h) rfl (fun w' _ => by go_simp) HX.out ?_
            go_frame
            refine takeH 3 86 (str host') rfl rfl (by kernel_rfl) (by kernel_rfl) (by kernel_rfl) (fun _ _ _ h => h) rfl (fun w' _ => by go_simp) HX.out ?_
            go_frame
            refine takeH 4 87 (.int .i64 port) rfl rfl (by kernel_rfl) (by kernel_rfl) (by kernel_rfl) (fun _ _ _ h => h) rfl (fun w' _ => by go_simp) HX.out ?_
            go_frame
            refine takeH 6 89 (.agg #[.bool al, str ro, str te, str ho, .int .i64 fr, .int .i64 ti]) rfl rfl (by kernel_rfl) (by kernel_rfl) (by kernel_rfl) (fun _ _ _ h => h) rfl (fun w' h => by obtain ⟨h0, h1, h2, h3, h4, h5⟩ := h; go_simp) HX.out ?_
            go_frame
            refine takeH 7 90 (str role') rfl rfl (by kernel_rfl) (by kernel_rfl) (by kernel_rfl) (fun _ _ _ h => h) rfl (fun w' _ => by go_simp) HX.out ?_
            go_frame
            refine takeH 8 91 (str ten') rfl rfl (by kernel_rfl) (by kernel_rfl) (by kernel_rfl) (fun _ _ _ h => h) rfl (fun w' _ => by go_simp) HX.out ?_
            go_frame
            refine takeH 9 92 (str host') rfl rfl (by kernel_rfl) (by kernel_rfl) (by kernel_rfl) (fun _ _ _ h => h) rfl (fun w' _ => by go_simp) HX.out ?_
            go_frame
            refine takeH 10 93 (.int .i64 port) rfl rfl (by kernel_rfl) (by kernel_rfl) (by kernel_rfl) (fun _ _ _ h => h) rfl (fun w' _ => by go_simp) HX.out ?_
            go_frame
            refine wpAnyH_all (rs := [5]) (by kernel_rfl) (by simp) ?_
            simp only [List.mem_singleton, forall_eq]
            refine wpOp_callD 88 rfl rfl rfl 22 #[.agg #[.bool al, str ro, str te, str ho, .int .i64 fr, .int .i64 ti], str role', str ten', str host', .int .i64 port] (by go_simp) ?_
            refine (HCH.out _ HEV2.out).mono ?_
            rintro e V3 ⟨rfl, hB⟩
            have HBV3 := Lib.hid (HBV2.out.trans (hB.mono HBV2.out.size))
            have HK3 := Lib.hid (HK2.out.below hB HK2.out.lt)
            clear hB
            refine ⟨_, rfl, HSIX.out _ HK3.out, ?_⟩
            go_frame
            have HX := Lib.hid (HSIX.out _ HK3.out)
            refine wpAnyH_all (rs := [11]) (by kernel_rfl) (by simp) ?_
            simp only [List.mem_singleton, forall_eq]
            refine wpOp_callD 94 rfl rfl rfl 23 #[.agg #[.bool al, str ro, str te, str ho, .int .i64 fr, .int .i64 ti], str role', str ten', str host', .int .i64 port] (by go_simp) ?_
            refine (HCR.out _).mono ?_
            rintro e V4 ⟨rfl, hB⟩
            have HBV4 := Lib.hid (HBV3.out.trans (hB.mono HBV3.out.size))
            have HK4 := Lib.hid (HK3.out.below hB HK3.out.lt)
            clear hB
            refine ⟨_, rfl, HSIX.out _ HK4.out, ?_⟩
            go_frame
            have HX := Lib.hid (HSIX.out _ HK4.out)
            refine takeH 12 95 (.bool false) rfl rfl (by kernel_rfl) (by kernel_rfl) (by kernel_rfl) (fun _ _ _ h => h) rfl (fun w' _ => by first | go_simp | (cases P <;> go_simp)) HX.out ?_
            go_frame
            refine wpAnyH_done (by kernel_rfl) ?_ _
            refine NoPanic.normal ?_
            go_wp2_with fail
            go_roundw
            case rel => exact ⟨k + 1, by omega, by go_num, HTL.out.below HBV4.out, HPL.out.below HBV4.out HBZ.out, Nat.le_trans HBZ.out HBV4.out.size⟩
            case measure => simp [intOf]; omega
          · skip
            clear hT hP hBz
            have HMY := Lib.hid (HMA.out _ HEL.out _ _ HPL.out HBZ.out)
            obtain ⟨al, hal⟩ : ∃ al, al = mayL role' ten' host' port xs := ⟨_, rfl⟩
            rw [← hal] at HMY
            rw [← hal] at m
            go_wp2_with fail
            refine HMY.out.mono ?_
            rintro e W8 ⟨rfl, hB⟩
            have HT8 := Lib.hid (HTL.out.below hB)
            have HE8 := Lib.hid (HEL.out.below hB)
            have HL8 := Lib.hid (HLOW.out.trans (hB.mono HLOW.out.size))
            clear hB HMY hal
            obtain ⟨g, o, rfl, hgl, e0, e1, e2, e3, e4, e5⟩ := HT8.out.own2.rlIn.six i hi
            rw [← m] at e0
            have hi1 : (i : Int) < (xs.length : Int) := by omega
            have hi0 : max (i : Int) 0 = (i : Int) := by omega
            have hi2 : (0 : Int) ≤ (i : Int) := by omega
            clear m e1 e2 e3 e4 e5
            cases al
            all_goals
              go_wp2_with fail
              refine (HMN.out _ HE8.out).mono ?_
              rintro e W9 ⟨rfl, hB⟩
              have HT9 := Lib.hid (HT8.out.below hB)
              have HL9 := Lib.hid (HL8.out.trans (hB.mono HL8.out.size))
              clear hB
              have hm0 : mayL role' ten' host' port [] = false := rfl
              rw [hm0]
              go_wp2_with fail
              refine (lenN_any _).mono ?_
              rintro e W10 ⟨rfl, rfl⟩
              go_wp2_with fail
              refine (idleN_any _).mono ?_
              rintro e W11 ⟨rfl, hB⟩
              have HL11 := Lib.hid (HL9.out.trans (hB.mono HL9.out.size))
              clear hB
              go_wp2_with fail
              go_ret
              exact ⟨by first | rfl | simp [*], HL11.out⟩
end Go.Proofs.YtpihpoapapfnkaaGreatDoor
