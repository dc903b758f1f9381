/- RuleIdles' walk. RuleIdles' walk over what comes in. -/
import Derived.Test.YthpkmdojeegleaaGreatDoorRuTwo
import Derived.Test.YthpkmdojeegleaaGreatDoorRuIdW
import Derived.Test.YthpkmdojeegleaaGreatDoorRuJd
import Derived.Test.YthpkmdojeegleaaGreatDoorRuArgs
set_option maxRecDepth 100000
namespace Go.Proofs.YthpkmdojeegleaaGreatDoor
open Go.RowKit Go.Shelf
attribute [local go_sem] Oper.semAt_some
theorem busyK_mem {xs : List RuL} {ids : List Nat} {k : Nat} {r : RuL} (h : r ∈ busyK xs ids k) : r ∈ xs := by
  unfold busyK at h
  obtain ⟨y, hy, rfl⟩ := List.mem_map.1 h
  have h1 := List.mem_of_mem_take (List.mem_filter.1 hy).1
  rw [← List.zipIdx_map_fst 0 xs]
  exact List.mem_map.2 ⟨y, h1, rfl⟩
theorem busyK_len (xs : List RuL) (ids : List Nat) (k : Nat) : (busyK xs ids k).length ≤ k := by
  unfold busyK
  rw [List.length_map]
  refine Nat.le_trans (List.length_filter_le _ _) ?_
  rw [List.length_take]
  omega
set_option maxHeartbeats 8000000 in
theorem idles_law (v0 : Value) (l : List RuL) (role ten host : List UInt8) (port : Int) (w : World) (hv : RlIn w w.heap.size v0 l) (hg : ∀ r ∈ l, GoodR r) (_hr : role.length ≤ 9223372036854775807) (_ht : ten.length ≤ 9223372036854775807) (hh : host.length ≤ 9223372036854775807) (hE : Env w) :
    Calls Tryz.prog 5 #[v0, str role, str ten, str host, .int .i64 port] w fun e w' => e = .returned (.bool true) ∧ Below w.heap.size w w' := by
  have HA := Lib.hid (awake16 w hE)
  have HE := Lib.hid hE
  have HV := Lib.hid hv
  have HG := Lib.hid hg
  have HT3 := Lib.hid (fun W => cutText_any host 40 W hh (by omega) (by omega))
  have e40 : ∀ s : List UInt8, s.take (40 : Int).toNat = s.take 40 := fun _ => rfl
  rw [e40] at HT3
  have lh : (host.take 40).length ≤ 40 := by rw [List.length_take]; omega
  obtain ⟨host', h3⟩ : ∃ x, x = host.take 40 := ⟨_, rfl⟩
  rw [← h3] at HT3 lh
  obtain ⟨A, c, rfl, hc1, hc2, hq⟩ := hv
  clear hq hE hg h3 e40 hh
  go_enter Tryz.func5, Tryz.ntmps5
  go_wp2_with fail
  refine HA.out.mono ?_
  rintro e W1 ⟨rfl, hB⟩
  have HB1 := Lib.hid hB
  have HE1 := Lib.hid (HE.out.below hB)
  have HTW := Lib.hid (show Two W1.heap.size 0 (.slice none 0 0) (.slice none 0 0) [] W1 W1 from ⟨OwnR.nil _ _ _, OwnR.nil _ _ _, .inl rfl, Below.refl _ _, Nat.le_refl _, Nat.le_refl _, fun r h => by cases h⟩)
  clear hB HA
  go_wp2_with fail
  go_loopw [11, 13, 29] (fun v u i wr => ∃ (k : Nat) (xs : List RuL), k ≤ l.length ∧ i = .int .i64 (k : Int) ∧ Two W1.heap.size (min k 12) v u xs W1 wr) (fun _ _ i _ => l.length - (intOf i).toNat)
  case atStart => exact ⟨0, [], by omega, rfl, HTW.out⟩
  case round =>
    obtain ⟨k, xs, hk, rfl, hT⟩ := hrel
    have HT := Lib.hid hT
    by_cases hlt : k < l.length
    · have hbw := HB1.out.trans (hT.low.mono HB1.out.size)
      obtain ⟨g, o, rfl, hgl, e0, e1, e2, e3, e4, e5⟩ := (HV.out.below hbw (Nat.le_refl _)).six k hlt
      have HF := Lib.hid (fun W => refFew_any l[k] W (HG.out _ (List.getElem_mem hlt)))
      have hfs := fewR_small l[k]
      obtain ⟨q, hqd⟩ : ∃ q, q = fewR l[k] := ⟨_, rfl⟩
      rw [← hqd] at HF hfs
      obtain ⟨x, hx⟩ : ∃ x, x = l[k] := ⟨_, rfl⟩
      rw [← hx] at e0 e1 e2 e3 e4 e5 HF
      have HRI := Lib.hid (fun W => right_any q W ⟨by omega, by omega, by omega⟩)
      have HFS := Lib.hid hfs
      obtain ⟨al, ro, te, ho, fr, ti⟩ := x
      obtain ⟨al2, ro2, te2, ho2, fr2, ti2⟩ := q
      simp only at e0 e1 e2 e3 e4 e5
      obtain ⟨bx, hbx⟩ : ∃ bx, bx = wr.heap.size := ⟨_, rfl⟩
      obtain ⟨V1, hV1⟩ : ∃ V1, V1 = wr.alloc (.cells #[.bool al, str ro, str te, str ho, .int .i64 fr, .int .i64 ti] 33) := ⟨_, rfl⟩
      have HR1 := Lib.hid (show TwoR W1.heap.size u11 u13 xs xs bx ⟨al, ro, te, ho, fr, ti⟩ W1 V1 from by rw [hV1, hbx]; exact hT.box (rcl ⟨al, ro, te, ho, fr, ti⟩) _ rfl)
      have HBX := Lib.hid (show W1.heap.size ≤ bx from by rw [hbx]; exact hT.low.size)
      clear hqd hx hT hbw hfs
      have hk0 := HR1.out.bl
      have d0 := hk0.at (o := 0) rfl
      have d1 := hk0.at (o := 1) rfl
      have d2 := hk0.at (o := 2) rfl
      have d3 := hk0.at (o := 3) rfl
      have d4 := hk0.at (o := 4) rfl
      have d5 := hk0.at (o := 5) rfl
      rw [hV1, hbx] at d0 d1 d2 d3 d4 d5
      clear hk0
      go_wp2_with fail
      rw [← hV1, ← hbx]
      refine (HF.out _).mono ?_
      rintro e V2 ⟨rfl, hB⟩
      clear d0 d1 d2 d3 d4 d5 hV1 hbx
      have HR2 := Lib.hid (HR1.out.below hB)
      clear hB
      have hk0 := HR2.out.bl
      have hlt0 := hk0.lt
      have d0 := hk0.at (o := 0) rfl
      have d1 := hk0.at (o := 1) rfl
      have d2 := hk0.at (o := 2) rfl
      have d3 := hk0.at (o := 3) rfl
      have d4 := hk0.at (o := 4) rfl
      have d5 := hk0.at (o := 5) rfl
      have f0 := hk0.free 0
      have f1 := hk0.free 1
      have f2 := hk0.free 2
      have f3 := hk0.free 3
      have f4 := hk0.free 4
      have f5 := hk0.free 5
      clear hk0
      obtain ⟨V3, hV3⟩ : ∃ V3, V3 = ((((((V2.setCell ⟨bx, 0, none⟩ (.bool al2)).setCell ⟨bx, 1, none⟩ (str ro2)).setCell ⟨bx, 2, none⟩ (str te2)).setCell ⟨bx, 3, none⟩ (str ho2)).setCell ⟨bx, 4, none⟩ (.int .i64 fr2)).setCell ⟨bx, 5, none⟩ (.int .i64 ti2)) := ⟨_, rfl⟩
      have HR3 := Lib.hid (show TwoR W1.heap.size u11 u13 xs xs bx ⟨al2, ro2, te2, ho2, fr2, ti2⟩ W1 V3 from by rw [hV3]; exact HR2.out.store HBX.out)
      have hk0 := HR3.out.bl
      have r0 := hk0.at (o := 0) rfl
      have r1 := hk0.at (o := 1) rfl
      have r2 := hk0.at (o := 2) rfl
      have r3 := hk0.at (o := 3) rfl
      have r4 := hk0.at (o := 4) rfl
      have r5 := hk0.at (o := 5) rfl
      rw [hV3] at r0 r1 r2 r3 r4 r5
      clear hk0
      by_cases h12 : (k : Int) < 12
      · skip
        go_wp2_with fail
        rw [← hV3]
        obtain ⟨P, hP⟩ : ∃ P, P = validB ⟨al2, ro2, te2, ho2, fr2, ti2⟩ := ⟨_, rfl⟩
        rw [← hP] at HRI
        have HP := Lib.hid hP; clear hP r0 r1 r2 r3 r4 r5 d0 d1 d2 d3 d4 d5 f0 f1 f2 f3 f4 f5
        refine (HRI.out _).mono ?_
        rintro e V4 ⟨rfl, hB⟩
        have HR4 := Lib.hid (HR3.out.below hB)
        clear hB hV3
        cases P with
        | false =>
          go_wp2_with fail
          go_roundw
          case rel => exact ⟨k + 1, xs, by omega, by go_num, (HR4.out.two HT.out.kept).more (by omega)⟩
          case measure => simp [intOf]; omega
        | true =>
          go_wp2_with fail
          have HKP := Lib.hid HT.out.kept
          have HKS := Lib.hid (show Kept (min (k + 1) 12) (xs ++ [⟨al2, ro2, te2, ho2, fr2, ti2⟩]) from by have h := HT.out.kept.snoc (r := ⟨al2, ro2, te2, ho2, fr2, ti2⟩) ⟨HP.out.symm, HFS.out⟩; exact ⟨by have := h.1; omega, h.2⟩)
          have HRV4d := Lib.hid (show TwoR W1.heap.size u11 u13 xs xs bx ⟨al2, ro2, te2, ho2, fr2, ti2⟩ W1 V4.drew from HR4.out.below ((Below.refl _ V4).drew))
          have HZV4d := Lib.hid (show V4.heap.size ≤ V4.drew.heap.size from Nat.le_refl _)
          have HN := Lib.hid (show (∀ n, V4.heap.size ≤ n → u11.ownBlock ≠ some n) ∧ (∀ n, V4.heap.size ≤ n → u13.ownBlock ≠ some n) from ⟨fun n hn e => by have := (HR4.out.own1.lt _ e).2; omega, fun n hn e => by have := (HR4.out.own2.lt _ e).2; omega⟩)
          have HSIX := Lib.hid (fun W (h : Blk W bx (rcl ⟨al2, ro2, te2, ho2, fr2, ti2⟩)) => (show W.cell? ⟨bx, 0, none⟩ = some (.bool al2) ∧ W.cell? ⟨bx, 1, none⟩ = some (str ro2) ∧ W.cell? ⟨bx, 2, none⟩ = some (str te2) ∧ W.cell? ⟨bx, 3, none⟩ = some (str ho2) ∧ W.cell? ⟨bx, 4, none⟩ = some (.int .i64 fr2) ∧ W.cell? ⟨bx, 5, none⟩ = some (.int .i64 ti2) from ⟨h.at (o := 0) rfl, h.at (o := 1) rfl, h.at (o := 2) rfl, h.at (o := 3) rfl, h.at (o := 4) rfl, h.at (o := 5) rfl⟩))
          have HX := Lib.hid (HSIX.out _ HRV4d.out.bl)
          obtain ⟨V4d, hV4d⟩ : ∃ V, V = V4.drew := ⟨_, rfl⟩
          refine wp_region_noPanic ?_
          refine wp_region_held (S := fun W => W.cell? ⟨bx, 0, none⟩ = some (.bool al2) ∧ W.cell? ⟨bx, 1, none⟩ = some (str ro2) ∧ W.cell? ⟨bx, 2, none⟩ = some (str te2) ∧ W.cell? ⟨bx, 3, none⟩ = some (str ho2) ∧ W.cell? ⟨bx, 4, none⟩ = some (.int .i64 fr2) ∧ W.cell? ⟨bx, 5, none⟩ = some (.int .i64 ti2)) (by kernel_rfl) ?_
          change wpAnyH _ _ _ _ _ _ _ _ V4.drew
          rw [← hV4d] at HRV4d HZV4d HX ⊢
          clear hV4d
          refine takeH 0 42 (u11) rfl rfl (by kernel_rfl) (by kernel_rfl) (by kernel_rfl) (fun _ _ _ h => h) rfl (fun w' _ => by go_simp) HX.out ?_
          go_frame
          refine takeH 1 43 (.agg #[.bool al2, str ro2, str te2, str ho2, .int .i64 fr2, .int .i64 ti2]) rfl rfl (by kernel_rfl) (by kernel_rfl) (by kernel_rfl) (fun _ _ _ h => h) rfl (fun w' h => by obtain ⟨h0, h1, h2, h3, h4, h5⟩ := h; go_simp) HX.out ?_
          go_frame
          refine takeH 4 46 (u13) rfl rfl (by kernel_rfl) (by kernel_rfl) (by kernel_rfl) (fun _ _ _ h => h) rfl (fun w' _ => by go_simp) HX.out ?_
          go_frame
          refine takeH 5 47 (.agg #[.bool al2, str ro2, str te2, str ho2, .int .i64 fr2, .int .i64 ti2]) rfl rfl (by kernel_rfl) (by kernel_rfl) (by kernel_rfl) (fun _ _ _ h => h) rfl (fun w' h => by obtain ⟨h0, h1, h2, h3, h4, h5⟩ := h; go_simp) HX.out ?_
          go_frame
          refine wpAnyH_all (rs := [2, 6]) (by kernel_rfl) (by simp) ?_
          intro i hi
          simp only [List.mem_cons, List.mem_nil_iff, or_false] at hi
          rcases hi with rfl | rfl
          · skip
            obtain ⟨Yp1, hYp1⟩ : ∃ Y, Y = V4d.alloc (.cells #[.bool al2, str ro2, str te2, str ho2, .int .i64 fr2, .int .i64 ti2] 41) := ⟨_, rfl⟩
            obtain ⟨na, hna⟩ : ∃ n, n = V4d.heap.size := ⟨_, rfl⟩
            have HRYp1 := Lib.hid (show TwoR W1.heap.size u11 u13 xs xs bx ⟨al2, ro2, te2, ho2, fr2, ti2⟩ W1 Yp1 from by rw [hYp1]; exact HRV4d.out.below ((Below.refl _ _).alloc (Nat.le_refl _) _))
            have KaYp1 := Lib.hid (show Blk Yp1 na (rcl ⟨al2, ro2, te2, ho2, fr2, ti2⟩) from by rw [hYp1, hna]; exact Blk.new _ _ _)
            have La := Lib.hid (show V4.heap.size ≤ na from by rw [hna]; exact HZV4d.out)
            have HZYp1 := Lib.hid (show V4.heap.size ≤ Yp1.heap.size from by rw [hYp1]; simp; have := HZV4d.out; omega)
            refine wpOp_valueX 44 rfl rfl rfl (.slice (some ⟨na, 0, none⟩) 1 1) Yp1 (by rw [hYp1, hna]; go_simp) ⟨HSIX.out _ HRYp1.out.bl, ?_⟩
            go_frame
            clear hYp1 hna
            have HX := Lib.hid (HSIX.out _ HRYp1.out.bl)
            refine wpAnyH_all (rs := [3, 6]) (by kernel_rfl) (by simp) ?_
            intro i hi
            simp only [List.mem_cons, List.mem_nil_iff, or_false] at hi
            rcases hi with rfl | rfl
            · skip
              refine wpOp_appR1 rfl rfl (.tmp 42) (.tmp 44) rfl W1.heap.size u11 xs rfl HRYp1.out.own1 na ⟨al2, ro2, te2, ho2, fr2, ti2⟩ rfl KaYp1.out (by have := HKP.out.1; omega) (Nat.le_trans HRYp1.out.bw HRYp1.out.low.size) ?_
              intro vq1 Yq2 ho hg hv
              have HRYq2 := Lib.hid (HRYp1.out.put1 hg ho hv)
              have HZYq2 := Lib.hid (Nat.le_trans HZYp1.out hg.size)
              clear ho hg hv
              refine ⟨HSIX.out _ HRYq2.out.bl, ?_⟩
              go_frame
              have HX := Lib.hid (HSIX.out _ HRYq2.out.bl)
              refine wpAnyH_all (rs := [6]) (by kernel_rfl) (by simp) ?_
              simp only [List.mem_singleton, forall_eq]
              obtain ⟨Yq3, hYq3⟩ : ∃ Y, Y = Yq2.alloc (.cells #[.bool al2, str ro2, str te2, str ho2, .int .i64 fr2, .int .i64 ti2] 33) := ⟨_, rfl⟩
              obtain ⟨nb, hnb⟩ : ∃ n, n = Yq2.heap.size := ⟨_, rfl⟩
              have HRYq3 := Lib.hid (show TwoR W1.heap.size vq1 u13 (xs ++ [⟨al2, ro2, te2, ho2, fr2, ti2⟩]) xs bx ⟨al2, ro2, te2, ho2, fr2, ti2⟩ W1 Yq3 from by rw [hYq3]; exact HRYq2.out.below ((Below.refl _ _).alloc (Nat.le_refl _) _))
              have KbYq3 := Lib.hid (show Blk Yq3 nb (rcl ⟨al2, ro2, te2, ho2, fr2, ti2⟩) from by rw [hYq3, hnb]; exact Blk.new _ _ _)
              have Lb := Lib.hid (show V4.heap.size ≤ nb from by rw [hnb]; exact HZYq2.out)
              have HZYq3 := Lib.hid (show V4.heap.size ≤ Yq3.heap.size from by rw [hYq3]; simp; have := HZYq2.out; omega)
              refine wpOp_valueX 48 rfl rfl rfl (.slice (some ⟨nb, 0, none⟩) 1 1) Yq3 (by rw [hYq3, hnb]; go_simp) ⟨HSIX.out _ HRYq3.out.bl, ?_⟩
              go_frame
              clear hYq3 hnb
              have HX := Lib.hid (HSIX.out _ HRYq3.out.bl)
              refine wpAnyH_all (rs := [7]) (by kernel_rfl) (by simp) ?_
              simp only [List.mem_singleton, forall_eq]
              refine wpOp_appR2 rfl rfl (.tmp 46) (.tmp 48) rfl W1.heap.size u13 xs rfl HRYq3.out.own2 nb ⟨al2, ro2, te2, ho2, fr2, ti2⟩ rfl KbYq3.out (by have := HKP.out.1; omega) (Nat.le_trans HRYq3.out.bw HRYq3.out.low.size) ?_
              intro vq2 Yq4 ho hg hv
              have HRYq4 := Lib.hid (HRYq3.out.put2 hg ho hv)
              have HZYq4 := Lib.hid (Nat.le_trans HZYq3.out hg.size)
              clear ho hg hv
              refine ⟨HSIX.out _ HRYq4.out.bl, ?_⟩
              go_frame
              have HX := Lib.hid (HSIX.out _ HRYq4.out.bl)
              refine takeH 8 11 (vq1) rfl rfl (by kernel_rfl) (by kernel_rfl) (by kernel_rfl) (fun _ _ _ h => h) rfl (fun w' _ => by go_simp) HX.out ?_
              go_frame
              refine takeH 9 13 (vq2) rfl rfl (by kernel_rfl) (by kernel_rfl) (by kernel_rfl) (fun _ _ _ h => h) rfl (fun w' _ => by go_simp) HX.out ?_
              go_frame
              refine wpAnyH_done (by kernel_rfl) ?_ _
              refine NoPanic.normal ?_
              go_wp2_with fail
              go_roundw
              case rel => exact ⟨k + 1, _, by omega, by go_num, HRYq4.out.two HKS.out⟩
              case measure => simp [intOf]; omega
            · skip
              obtain ⟨Yr2, hYr2⟩ : ∃ Y, Y = Yp1.alloc (.cells #[.bool al2, str ro2, str te2, str ho2, .int .i64 fr2, .int .i64 ti2] 33) := ⟨_, rfl⟩
              obtain ⟨nb, hnb⟩ : ∃ n, n = Yp1.heap.size := ⟨_, rfl⟩
              have HRYr2 := Lib.hid (show TwoR W1.heap.size u11 u13 xs xs bx ⟨al2, ro2, te2, ho2, fr2, ti2⟩ W1 Yr2 from by rw [hYr2]; exact HRYp1.out.below ((Below.refl _ _).alloc (Nat.le_refl _) _))
              have KbYr2 := Lib.hid (show Blk Yr2 nb (rcl ⟨al2, ro2, te2, ho2, fr2, ti2⟩) from by rw [hYr2, hnb]; exact Blk.new _ _ _)
              have Lb := Lib.hid (show V4.heap.size ≤ nb from by rw [hnb]; exact HZYp1.out)
              have HZYr2 := Lib.hid (show V4.heap.size ≤ Yr2.heap.size from by rw [hYr2]; simp; have := HZYp1.out; omega)
              have KaYr2 := Lib.hid (show Blk Yr2 na (rcl ⟨al2, ro2, te2, ho2, fr2, ti2⟩) from by rw [hYr2]; exact KaYp1.out.alloc _)
              refine wpOp_valueX 48 rfl rfl rfl (.slice (some ⟨nb, 0, none⟩) 1 1) Yr2 (by rw [hYr2, hnb]; go_simp) ⟨HSIX.out _ HRYr2.out.bl, ?_⟩
              go_frame
              clear hYr2 hnb
              have HX := Lib.hid (HSIX.out _ HRYr2.out.bl)
              refine wpAnyH_all (rs := [3]) (by kernel_rfl) (by simp) ?_
              simp only [List.mem_singleton, forall_eq]
              refine wpOp_appR1 rfl rfl (.tmp 42) (.tmp 44) rfl W1.heap.size u11 xs rfl HRYr2.out.own1 na ⟨al2, ro2, te2, ho2, fr2, ti2⟩ rfl KaYr2.out (by have := HKP.out.1; omega) (Nat.le_trans HRYr2.out.bw HRYr2.out.low.size) ?_
              intro vr1 Yr3 ho hg hv
              have HRYr3 := Lib.hid (HRYr2.out.put1 hg ho hv)
              have HZYr3 := Lib.hid (Nat.le_trans HZYr2.out hg.size)
              have KbYr3 := Lib.hid (KbYr2.out.grown hg (fun e => HN.out.1 nb Lb.out e.symm))
              clear ho hg hv
              refine ⟨HSIX.out _ HRYr3.out.bl, ?_⟩
              go_frame
              have HX := Lib.hid (HSIX.out _ HRYr3.out.bl)
              refine wpAnyH_all (rs := [7]) (by kernel_rfl) (by simp) ?_
              simp only [List.mem_singleton, forall_eq]
              refine wpOp_appR2 rfl rfl (.tmp 46) (.tmp 48) rfl W1.heap.size u13 xs rfl HRYr3.out.own2 nb ⟨al2, ro2, te2, ho2, fr2, ti2⟩ rfl KbYr3.out (by have := HKP.out.1; omega) (Nat.le_trans HRYr3.out.bw HRYr3.out.low.size) ?_
              intro vr2 Yr4 ho hg hv
              have HRYr4 := Lib.hid (HRYr3.out.put2 hg ho hv)
              have HZYr4 := Lib.hid (Nat.le_trans HZYr3.out hg.size)
              clear ho hg hv
              refine ⟨HSIX.out _ HRYr4.out.bl, ?_⟩
              go_frame
              have HX := Lib.hid (HSIX.out _ HRYr4.out.bl)
              refine takeH 8 11 (vr1) rfl rfl (by kernel_rfl) (by kernel_rfl) (by kernel_rfl) (fun _ _ _ h => h) rfl (fun w' _ => by go_simp) HX.out ?_
              go_frame
              refine takeH 9 13 (vr2) rfl rfl (by kernel_rfl) (by kernel_rfl) (by kernel_rfl) (fun _ _ _ h => h) rfl (fun w' _ => by go_simp) HX.out ?_
              go_frame
              refine wpAnyH_done (by kernel_rfl) ?_ _
              refine NoPanic.normal ?_
              go_wp2_with fail
              go_roundw
              case rel => exact ⟨k + 1, _, by omega, by go_num, HRYr4.out.two HKS.out⟩
              case measure => simp [intOf]; omega
          · skip
            obtain ⟨Ys1, hYs1⟩ : ∃ Y, Y = V4d.alloc (.cells #[.bool al2, str ro2, str te2, str ho2, .int .i64 fr2, .int .i64 ti2] 33) := ⟨_, rfl⟩
            obtain ⟨nb, hnb⟩ : ∃ n, n = V4d.heap.size := ⟨_, rfl⟩
            have HRYs1 := Lib.hid (show TwoR W1.heap.size u11 u13 xs xs bx ⟨al2, ro2, te2, ho2, fr2, ti2⟩ W1 Ys1 from by rw [hYs1]; exact HRV4d.out.below ((Below.refl _ _).alloc (Nat.le_refl _) _))
            have KbYs1 := Lib.hid (show Blk Ys1 nb (rcl ⟨al2, ro2, te2, ho2, fr2, ti2⟩) from by rw [hYs1, hnb]; exact Blk.new _ _ _)
            have Lb := Lib.hid (show V4.heap.size ≤ nb from by rw [hnb]; exact HZV4d.out)
            have HZYs1 := Lib.hid (show V4.heap.size ≤ Ys1.heap.size from by rw [hYs1]; simp; have := HZV4d.out; omega)
            refine wpOp_valueX 48 rfl rfl rfl (.slice (some ⟨nb, 0, none⟩) 1 1) Ys1 (by rw [hYs1, hnb]; go_simp) ⟨HSIX.out _ HRYs1.out.bl, ?_⟩
            go_frame
            clear hYs1 hnb
            have HX := Lib.hid (HSIX.out _ HRYs1.out.bl)
            refine wpAnyH_all (rs := [2]) (by kernel_rfl) (by simp) ?_
            simp only [List.mem_singleton, forall_eq]
            obtain ⟨Ys2, hYs2⟩ : ∃ Y, Y = Ys1.alloc (.cells #[.bool al2, str ro2, str te2, str ho2, .int .i64 fr2, .int .i64 ti2] 41) := ⟨_, rfl⟩
            obtain ⟨na, hna⟩ : ∃ n, n = Ys1.heap.size := ⟨_, rfl⟩
            have HRYs2 := Lib.hid (show TwoR W1.heap.size u11 u13 xs xs bx ⟨al2, ro2, te2, ho2, fr2, ti2⟩ W1 Ys2 from by rw [hYs2]; exact HRYs1.out.below ((Below.refl _ _).alloc (Nat.le_refl _) _))
            have KaYs2 := Lib.hid (show Blk Ys2 na (rcl ⟨al2, ro2, te2, ho2, fr2, ti2⟩) from by rw [hYs2, hna]; exact Blk.new _ _ _)
            have La := Lib.hid (show V4.heap.size ≤ na from by rw [hna]; exact HZYs1.out)
            have HZYs2 := Lib.hid (show V4.heap.size ≤ Ys2.heap.size from by rw [hYs2]; simp; have := HZYs1.out; omega)
            have KbYs2 := Lib.hid (show Blk Ys2 nb (rcl ⟨al2, ro2, te2, ho2, fr2, ti2⟩) from by rw [hYs2]; exact KbYs1.out.alloc _)
            refine wpOp_valueX 44 rfl rfl rfl (.slice (some ⟨na, 0, none⟩) 1 1) Ys2 (by rw [hYs2, hna]; go_simp) ⟨HSIX.out _ HRYs2.out.bl, ?_⟩
            go_frame
            clear hYs2 hna
            have HX := Lib.hid (HSIX.out _ HRYs2.out.bl)
            refine wpAnyH_all (rs := [3]) (by kernel_rfl) (by simp) ?_
            simp only [List.mem_singleton, forall_eq]
            refine wpOp_appR1 rfl rfl (.tmp 42) (.tmp 44) rfl W1.heap.size u11 xs rfl HRYs2.out.own1 na ⟨al2, ro2, te2, ho2, fr2, ti2⟩ rfl KaYs2.out (by have := HKP.out.1; omega) (Nat.le_trans HRYs2.out.bw HRYs2.out.low.size) ?_
            intro vs1 Ys3 ho hg hv
            have HRYs3 := Lib.hid (HRYs2.out.put1 hg ho hv)
            have HZYs3 := Lib.hid (Nat.le_trans HZYs2.out hg.size)
            have KbYs3 := Lib.hid (KbYs2.out.grown hg (fun e => HN.out.1 nb Lb.out e.symm))
            clear ho hg hv
            refine ⟨HSIX.out _ HRYs3.out.bl, ?_⟩
            go_frame
            have HX := Lib.hid (HSIX.out _ HRYs3.out.bl)
            refine wpAnyH_all (rs := [7]) (by kernel_rfl) (by simp) ?_
            simp only [List.mem_singleton, forall_eq]
            refine wpOp_appR2 rfl rfl (.tmp 46) (.tmp 48) rfl W1.heap.size u13 xs rfl HRYs3.out.own2 nb ⟨al2, ro2, te2, ho2, fr2, ti2⟩ rfl KbYs3.out (by have := HKP.out.1; omega) (Nat.le_trans HRYs3.out.bw HRYs3.out.low.size) ?_
            intro vs2 Ys4 ho hg hv
            have HRYs4 := Lib.hid (HRYs3.out.put2 hg ho hv)
            have HZYs4 := Lib.hid (Nat.le_trans HZYs3.out hg.size)
            clear ho hg hv
            refine ⟨HSIX.out _ HRYs4.out.bl, ?_⟩
            go_frame
            have HX := Lib.hid (HSIX.out _ HRYs4.out.bl)
            refine takeH 8 11 (vs1) rfl rfl (by kernel_rfl) (by kernel_rfl) (by kernel_rfl) (fun _ _ _ h => h) rfl (fun w' _ => by go_simp) HX.out ?_
            go_frame
            refine takeH 9 13 (vs2) rfl rfl (by kernel_rfl) (by kernel_rfl) (by kernel_rfl) (fun _ _ _ h => h) rfl (fun w' _ => by go_simp) HX.out ?_
            go_frame
            refine wpAnyH_done (by kernel_rfl) ?_ _
            refine NoPanic.normal ?_
            go_wp2_with fail
            go_roundw
            case rel => exact ⟨k + 1, _, by omega, by go_num, HRYs4.out.two HKS.out⟩
            case measure => simp [intOf]; omega
      · have h12d : decide ((k : Int) < 12) = false := decide_eq_false h12
        go_wp2_with fail
        try rw [← hV3]
        go_roundw
        case rel => exact ⟨k + 1, xs, by omega, by go_num, (HR3.out.two HT.out.kept).more (by omega)⟩
        case measure => simp [intOf]; omega
    · obtain rfl : k = l.length := by omega
      have hT12 := hT.more (m' := 12) (Nat.min_le_right _ _)
      have hkp := hT12.kept
      have hsm : ∀ r ∈ xs, SmallR r := fun r h => ⟨by have := (hkp.2 r h).2.1; omega, by have := (hkp.2 r h).2.2.1; omega, by have := (hkp.2 r h).2.2.2; omega⟩
      have hva : ∀ r ∈ xs, validB r = true := fun r h => (hkp.2 r h).1
      have hxl := hkp.1
      have HVA := Lib.hid hva
      have HSM := Lib.hid hsm
      have HER := Lib.hid (HE.out.below (HB1.out.trans (hT12.low.mono HB1.out.size)))
      have HT0 := Lib.hid hT12
      have HNEW := Lib.hid (fun W (h : Env W) v (ys : List RuL) (hys : ∀ r ∈ ys, r ∈ xs) (hyl : ys.length ≤ 5000) (hr : RlIn W W.heap.size v ys) => new_any W.heap.size v ys W h hr (Nat.le_refl _) (fun r hr => hsm r (hys r hr)) hyl)
      have HID := Lib.hid (fun W (h : Env W) B pv (hp : PolO W B pv xs) (hB : B ≤ W.heap.size) => idle_any B pv xs W hp hB hsm h (by omega))
      have HIR := Lib.hid (fun W v (hr : RlIn W W.heap.size v xs) => refIdle_any W.heap.size v xs W hr (Nat.le_refl _) hsm (by omega))
      have HWH := Lib.hid (fun W (h : Env W) B pv (hp : PolO W B pv xs) (hB : B ≤ W.heap.size) => which_any B pv xs role ten host' port W h hp hB hsm (by omega) (by omega))
      have HMA := Lib.hid (fun W (h : Env W) B pv (ys : List RuL) (hys : ∀ r ∈ ys, r ∈ xs) (hyl : ys.length ≤ 5000) (hp : PolO W B pv ys) (hB : B ≤ W.heap.size) => may_any B pv ys role ten host' port W h hp hB (fun r hr => hsm r (hys r hr)) hyl (by omega))
      have hwc : (whR role ten host' port xs = (0, false)) ∨ ∃ (i : Nat) (hi : i < xs.length), whR role ten host' port xs = (((i : Nat) : Int), true) ∧ (idleK xs xs.length).contains i = false := by
        rcases whichL_cases role ten host' port xs with ⟨a, _, c⟩ | ⟨i, hi, a, hn, hh, d⟩
        · exact .inl (by unfold whR; rw [a])
        · refine .inr ⟨i, hi, by unfold whR; rw [a], ?_⟩
          rw [← Bool.not_eq_true, List.contains_iff_mem]
          exact first_busy hi hn hh _
      have hbm := busy_may xs role ten host' port
      obtain ⟨ids, hids⟩ : ∃ ids, ids = idleK xs xs.length := ⟨_, rfl⟩
      rw [← hids] at HID HIR hwc hbm
      have hil : ids.length ≤ 12 := by rw [hids]; have := idleK_le xs xs.length; omega
      obtain ⟨A2, c2, rfl, hcx1, hcx2⟩ := hT12.own1.form
      have HBM := Lib.hid hbm
      clear hT12 hkp hva hsm HT hT hlt hk hids hbm
      go_wp2_with fail
      refine (HT3.out _).mono ?_
      rintro e w1 ⟨rfl, rfl⟩
      go_wp2_with fail
      refine (HNEW.out _ HER.out _ xs (fun _ h => h) (by omega) HT0.out.own1.rlIn).mono ?_
      rintro e W5 ⟨pv, x, rfl, hcase, hB⟩
      rcases hcase with ⟨h, _⟩ | ⟨_, h, _⟩ | ⟨_, _, rfl, ⟨p, rfl⟩, hpo⟩
      · rw [List.all_eq_true.2 HVA.out] at h; cases h
      · omega
      have HT5 := Lib.hid (HT0.out.below hB)
      have HE5 := Lib.hid (HER.out.below hB)
      have HP5 := Lib.hid hpo
      clear hB hpo
      go_wp2_with fail
      refine (HID.out _ HE5.out _ _ HP5.out (Nat.le_refl _)).mono ?_
      rintro e W6 ⟨u6, rfl, hO, hB⟩
      have HO6 := Lib.hid hO
      have HT6 := Lib.hid (HT5.out.below hB)
      have HE6 := Lib.hid (HE5.out.below hB)
      have HP6 := Lib.hid ((HP5.out.below hB (Nat.le_refl _)).more hB.size)
      clear hB hO
      go_wp2_with fail
      refine (HIR.out _ _ HT6.out.own2.rlIn).mono ?_
      rintro e W7 ⟨u7, rfl, hO, hB⟩
      have HO7 := Lib.hid hO
      have HO67 := Lib.hid (HO6.out.below hB)
      have HT7 := Lib.hid (HT6.out.below hB)
      have HE7 := Lib.hid (HE6.out.below hB)
      have HP7 := Lib.hid ((HP6.out.below hB (Nat.le_refl _)).more hB.size)
      clear hB hO
      go_wp2_with fail
      refine (equalJ_same W7.heap.size W7.heap.size u6 u7 ids W7 HO67.out.jIn HO7.out.jIn (Nat.le_refl _) (Nat.le_refl _) (by omega)).mono ?_
      rintro e W8 ⟨rfl, hB⟩
      have HT8 := Lib.hid (HT7.out.below hB)
      have HE8 := Lib.hid (HE7.out.below hB)
      have HP8 := Lib.hid ((HP7.out.below hB (Nat.le_refl _)).more hB.size)
      clear hB HO6 HO67 HO7
      go_wp2_with fail
      refine (HID.out _ HE8.out _ _ HP8.out (Nat.le_refl _)).mono ?_
      rintro e W9 ⟨u9, rfl, hO, hB⟩
      have HO9 := Lib.hid hO
      have HT9 := Lib.hid (HT8.out.below hB)
      have HE9 := Lib.hid (HE8.out.below hB)
      have HP9 := Lib.hid ((HP8.out.below hB (Nat.le_refl _)).more hB.size)
      clear hB hO
      have HB9 := Lib.hid (show OwnR 41 W9 W9.heap.size (.slice none 0 0) (busyK xs ids 0) ∧ Below W9.heap.size W9 W9 from ⟨OwnR.nil _ _ _, Below.refl _ _⟩)
      go_wp2_with fail
      go_loopw [12, 72] (fun v i wr => ∃ k : Nat, k ≤ xs.length ∧ i = .int .i64 (k : Int) ∧ OwnR 41 wr W9.heap.size v (busyK xs ids k) ∧ Below W9.heap.size W9 wr) (fun _ i _ => xs.length - (intOf i).toNat)
      case atStart => exact ⟨0, by omega, rfl, HB9.out.1, HB9.out.2⟩
      case round =>
        obtain ⟨k, hk, rfl, hO, hB⟩ := hrel
        have HOL := Lib.hid hO
        have HBL := Lib.hid hB
        by_cases hlt : k < xs.length
        · obtain ⟨g, o, rfl, hgl, e0, e1, e2, e3, e4, e5⟩ := (HT9.out.own1.rlIn.below hB (Nat.le_refl _)).six k hlt
          have hbs := busyK_succ xs ids k hlt
          obtain ⟨x, hx⟩ : ∃ x, x = xs[k] := ⟨_, rfl⟩
          rw [← hx] at e0 e1 e2 e3 e4 e5 hbs
          obtain ⟨al, ro, te, ho, fr, ti⟩ := x
          simp only at e0 e1 e2 e3 e4 e5
          have hbl := busyK_len xs ids k
          have hbz := hB.size
          clear hx hO hB
          obtain ⟨bx, hbx⟩ : ∃ bx, bx = wr.heap.size := ⟨_, rfl⟩
          obtain ⟨V1, hV1⟩ : ∃ V1, V1 = wr.alloc (.cells #[.bool al, str ro, str te, str ho, .int .i64 fr, .int .i64 ti] 41) := ⟨_, rfl⟩
          have HBV := Lib.hid (show Below wr.heap.size wr V1 from by rw [hV1]; exact (Below.refl _ _).alloc (Nat.le_refl _) _)
          have HK1 := Lib.hid (show Blk V1 bx (rcl ⟨al, ro, te, ho, fr, ti⟩) from by rw [hV1, hbx]; exact Blk.new _ _ _)
          have d0 := HK1.out.at (o := 0) rfl
          have d1 := HK1.out.at (o := 1) rfl
          have d2 := HK1.out.at (o := 2) rfl
          have d3 := HK1.out.at (o := 3) rfl
          have d4 := HK1.out.at (o := 4) rfl
          have d5 := HK1.out.at (o := 5) rfl
          rw [hV1, hbx] at d0 d1 d2 d3 d4 d5
          obtain ⟨P, hP⟩ : ∃ P, P = ids.contains k := ⟨_, rfl⟩
          rw [← hP] at hbs
          have HCN := Lib.hid (containsJ_any W9.heap.size u9 ids k V1 ((HO9.out.jIn.below (HBL.out.trans (HBV.out.mono HBL.out.size)) (Nat.le_refl _))) (by omega) (by omega))
          rw [← hP] at HCN
          clear hP
          have HBS := Lib.hid hbs
          clear hbs
          go_wp2_with fail
          rw [← hV1]
          refine HCN.out.mono ?_
          rintro e V2 ⟨rfl, hB⟩
          have HBV2 := Lib.hid (HBV.out.trans (hB.mono HBV.out.size))
          have HK2 := Lib.hid (HK1.out.below hB HK1.out.lt)
          have HO2 := Lib.hid (HOL.out.below HBV2.out)
          have HB2 := Lib.hid (HBL.out.trans (HBV2.out.mono HBL.out.size))
          clear hB d0 d1 d2 d3 d4 d5
          rw [← hbx]
          clear hV1 hbx
          have d0 := HK2.out.at (o := 0) rfl
          have d1 := HK2.out.at (o := 1) rfl
          have d2 := HK2.out.at (o := 2) rfl
          have d3 := HK2.out.at (o := 3) rfl
          have d4 := HK2.out.at (o := 4) rfl
          have d5 := HK2.out.at (o := 5) rfl
          cases P with
          | true =>
            go_wp2_with fail
            go_roundw
            case rel => exact ⟨k + 1, by omega, by go_num, by rw [HBS.out]; simpa using HO2.out, HB2.out⟩
            case measure => simp [intOf]; omega
          | false =>
            have hal := (Below.refl V2.heap.size V2).alloc (Nat.le_refl _) (.cells #[.bool al, str ro, str te, str ho, .int .i64 fr, .int .i64 ti] 41)
            have HOW := Lib.hid (HO2.out.below hal)
            have HBW := Lib.hid (HB2.out.trans (hal.mono HB2.out.size))
            have HNW := Lib.hid (show (V2.alloc (.cells #[.bool al, str ro, str te, str ho, .int .i64 fr, .int .i64 ti] 41)).heap[V2.heap.size]? = some (.cells (rcl ⟨al, ro, te, ho, fr, ti⟩).toArray 41 (0, 0)) from heap_alloc_new V2 _)
            clear hal
            go_wp2_with (at_builtin; (refine wpList_appR1 rfl (.tmp 81) (.tmp 83) rfl W9.heap.size u12 (busyK xs ids k) rfl HOW.out V2.heap.size ⟨al, ro, te, ho, fr, ti⟩ rfl HNW.out (by omega) HBW.out.size ?_); intro v5 A1 hO5 hg5; have HO5 := Lib.hid hO5; have HB5 := Lib.hid (HBW.out.grown hg5 HBW.out.size (fun r e => (HOW.out.lt r e).1)); clear hO5 hg5)
            go_roundw
            case rel => exact ⟨k + 1, by omega, by go_num, by rw [HBS.out]; simpa using HO5.out, HB5.out⟩
            case measure => simp [intOf]; omega
        · obtain rfl : k = xs.length := by omega
          have HEL := Lib.hid (HE9.out.below hB)
          have HPL := Lib.hid ((HP9.out.below hB (Nat.le_refl _)).more hB.size)
          have HJL := Lib.hid ((HO9.out.jIn.below hB (Nat.le_refl _)).more hB.size)
          have HLO := Lib.hid (HB1.out.trans ((HT9.out.low.trans (hB.mono (Nat.le_trans HT9.out.bw HT9.out.low.size))).mono HB1.out.size))
          obtain ⟨ys, hys⟩ : ∃ ys, ys = busyK xs ids xs.length := ⟨_, rfl⟩
          have hym : ∀ r ∈ ys, r ∈ xs := fun r hr => busyK_mem (by rw [hys] at hr; exact hr)
          have hyl : ys.length ≤ xs.length := by rw [hys]; exact busyK_len _ _ _
          rw [← hys] at HOL HBM
          have HYM := Lib.hid hym
          clear hys hO hB hlt hk hym
          go_wp2_with fail
          refine (HNEW.out _ HEL.out _ ys HYM.out (by omega) HOL.out.rlIn).mono ?_
          rintro e X1 ⟨qv, x, rfl, hcase, hB⟩
          rcases hcase with ⟨h, _⟩ | ⟨_, h, _⟩ | ⟨_, _, rfl, ⟨q, rfl⟩, hpo⟩
          · rw [List.all_eq_true.2 (fun r hr => HVA.out r (HYM.out r hr))] at h; cases h
          · omega
          have HEX := Lib.hid (HEL.out.below hB)
          have HPX := Lib.hid ((HPL.out.below hB (Nat.le_refl _)).more hB.size)
          have HQX := Lib.hid hpo
          have HJX := Lib.hid ((HJL.out.below hB (Nat.le_refl _)).more hB.size)
          have HLX := Lib.hid (HLO.out.trans (hB.mono HLO.out.size))
          clear hB hpo
          go_wp2_with fail
          refine (HWH.out _ HEX.out _ _ HPX.out (Nat.le_refl _)).mono ?_
          rintro e X2 ⟨rfl, hB⟩
          have HE2 := Lib.hid (HEX.out.below hB)
          have HP2 := Lib.hid ((HPX.out.below hB (Nat.le_refl _)).more hB.size)
          have HQ2 := Lib.hid ((HQX.out.below hB (Nat.le_refl _)).more hB.size)
          have HJ2 := Lib.hid ((HJX.out.below hB (Nat.le_refl _)).more hB.size)
          have HL2 := Lib.hid (HLX.out.trans (hB.mono HLX.out.size))
          clear hB
          have fin : ∀ X, Env X → PolO X X.heap.size (.pointer (some ⟨p, 0, none⟩)) xs → PolO X X.heap.size (.pointer (some ⟨q, 0, none⟩)) ys → Below w.heap.size w X → True := fun _ _ _ _ _ => trivial
          clear fin
          rcases hwc with a | ⟨i, hi, a, b⟩
          · rw [a]
            clear a
            go_wp2_with fail
            refine (HMA.out _ HE2.out _ _ ys HYM.out (by omega) HQ2.out (Nat.le_refl _)).mono ?_
            rintro e X3 ⟨rfl, hB⟩
            have HE3 := Lib.hid (HE2.out.below hB)
            have HP3 := Lib.hid ((HP2.out.below hB (Nat.le_refl _)).more hB.size)
            have HL3 := Lib.hid (HL2.out.trans (hB.mono HL2.out.size))
            clear hB
            go_wp2_with fail
            refine (HMA.out _ HE3.out _ _ xs (fun _ h => h) (by omega) HP3.out (Nat.le_refl _)).mono ?_
            rintro e X4 ⟨rfl, hB⟩
            have HL4 := Lib.hid (HL3.out.trans (hB.mono HL3.out.size))
            clear hB
            rw [HBM.out]
            go_wp2_with fail
            go_ret
            exact ⟨by first | rfl | simp, HL4.out⟩
          · rw [a]
            clear a
            go_wp2_with fail
            refine (containsJ_any X2.heap.size u9 ids i X2 HJ2.out (by omega) (by omega)).mono ?_
            rintro e X3 ⟨rfl, hB⟩
            rw [b]
            have HE3 := Lib.hid (HE2.out.below hB)
            have HP3 := Lib.hid ((HP2.out.below hB (Nat.le_refl _)).more hB.size)
            have HQ3 := Lib.hid ((HQ2.out.below hB (Nat.le_refl _)).more hB.size)
            have HL3 := Lib.hid (HL2.out.trans (hB.mono HL2.out.size))
            clear hB
            go_wp2_with fail
            refine (HMA.out _ HE3.out _ _ ys HYM.out (by omega) HQ3.out (Nat.le_refl _)).mono ?_
            rintro e X4 ⟨rfl, hB⟩
            have HE4 := Lib.hid (HE3.out.below hB)
            have HP4 := Lib.hid ((HP3.out.below hB (Nat.le_refl _)).more hB.size)
            have HL4 := Lib.hid (HL3.out.trans (hB.mono HL3.out.size))
            clear hB
            go_wp2_with fail
            refine (HMA.out _ HE4.out _ _ xs (fun _ h => h) (by omega) HP4.out (Nat.le_refl _)).mono ?_
            rintro e X5 ⟨rfl, hB⟩
            have HL5 := Lib.hid (HL4.out.trans (hB.mono HL4.out.size))
            clear hB
            rw [HBM.out]
            go_wp2_with fail
            go_ret
            exact ⟨by first | rfl | simp, HL5.out⟩
end Go.Proofs.YthpkmdojeegleaaGreatDoor
set_option maxRecDepth 100000
namespace Go.Proofs.YthpkmdojeegleaaGreatDoor
open Go.RowKit Go.Shelf
theorem idles_w (v0 : Value) (l : List RuL) (role ten host : List UInt8) (port : Int) (w : World) (h0 : RusArg w v0 l) (h1 : role.length ≤ 9223372036854775807) (h2 : ten.length ≤ 9223372036854775807) (h3 : host.length ≤ 9223372036854775807) (_h4 : (Lit.int .i64 port).wf = true) (hE : Env w) :
    Calls Tryz.prog 5 #[v0, str role, str ten, str host, .int .i64 port] w fun e w' => e = .returned (.bool true) ∧ Below w.heap.size w w' :=
  idles_law v0 l role ten host port w h0.1 h0.2 h1 h2 h3 hE
end Go.Proofs.YthpkmdojeegleaaGreatDoor
