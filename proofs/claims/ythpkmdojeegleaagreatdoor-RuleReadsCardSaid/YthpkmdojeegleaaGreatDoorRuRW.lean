/- The reference's Lines and Line: their walks. -/
import Derived.Test.YthpkmdojeegleaaGreatDoorRuRL
set_option maxRecDepth 100000
namespace Go.Proofs.YthpkmdojeegleaaGreatDoor
open Go.RowKit Go.Shelf
attribute [local go_sem] Oper.semAt_some
theorem wpOp_storeQ {P : Program} {ops : Array Oper} {Q : Exit → Act → World → Prop} {K : Act → World → Prop} {a : Act} {w w' : World} {i : Nat} {o : Oper} (hi : ops[i]? = some o) (hd : o.dst = none) (hw : Region.wanted o (yielded ops a.tmps) = true)
    (hr : (execOp a.eval o).run P w = .ok .skip w') (h : K a w') : wpOp P ops Q i K a w :=
  wpOp_of_wp hi hw (by unfold Oper.wp; rw [hr]; show K (a.put o.dst undef) w'; rw [hd]; exact h)
theorem cellB {W W' : World} {g j : Nat} {v : Value} (h : W.cell? ⟨g, j, none⟩ = some v) (hb : Below W.heap.size W W') : W'.cell? ⟨g, j, none⟩ = some v :=
  (hb.cell (p := ⟨g, j, none⟩) (World.block_lt_of_cell? W ⟨g, j, none⟩ h)).trans h
set_option maxHeartbeats 8000000 in
theorem refLine_any (l : List UInt8) (w : World) (hl : l.length ≤ 5000) :
    Calls Tryz.prog 29 #[str l] w fun e w' => e = .returned (.tuple #[ragg (lineR l).1, .bool (lineR l).2]) ∧ Below w.heap.size w w' := by
  have hb0 := (Below.refl w.heap.size w).alloc (Nat.le_refl _) (.cells #[.bool false, str [], str [], str [], .int .i64 0, .int .i64 0] 33)
  have HS := Lib.hid (show Calls Tryz.prog 47 #[str l, .int .u8 32] (w.alloc (.cells #[.bool false, str [], str [], str [], .int .i64 0, .int .i64 0] 33)) _ from refSplit_any l 32 (w.alloc (.cells #[.bool false, str [], str [], str [], .int .i64 0, .int .i64 0] 33)) (by omega))
  have HB0 := Lib.hid hb0
  have HK0 := Lib.hid (Blk.new w [.bool false, str [], str [], str [], .int .i64 0, .int .i64 0] 33)
  obtain ⟨sl1, sl2⟩ := spl_len (c := 32) l
  have hne := spl_ne 32 l
  by_cases h5 : (spl 32 l).length = 5
  · obtain ⟨v, a, b, c, d, hw⟩ : ∃ v a b c d, spl 32 l = [v, a, b, c, d] := by
      match spl 32 l, h5 with
      | [v, a, b, c, d], _ => exact ⟨v, a, b, c, d, rfl⟩
    rw [lineR_five hw]
    rw [hw] at HS sl2
    have lv := sl2 v (by simp)
    have la := sl2 a (by simp)
    have lb := sl2 b (by simp)
    have lc := sl2 c (by simp)
    have ld := sl2 d (by simp)
    clear hb0 sl1 sl2 h5 hw hne
    by_cases hv : v = allowS ∨ v = denyS
    · rw [if_pos hv]
      unfold allowS denyS at hv
      rcases hv with rfl | rfl
      · rw [show (([97, 108, 108, 111, 119] : List UInt8) == allowS) = true from rfl]
        obtain ⟨T, hT⟩ : ∃ T, T = (if d = [42] then ((⟨true, a, b, c, 1, 65535⟩ : RuL), validB ⟨true, a, b, c, 1, 65535⟩)
            else if 2 < (spl 45 d).length then (⟨false, [], [], [], 0, 0⟩, false)
            else (⟨true, a, b, c, portN ((spl 45 d).getD 0 []), portN ((spl 45 d).getD ((spl 45 d).length - 1) [])⟩, validB ⟨true, a, b, c, portN ((spl 45 d).getD 0 []), portN ((spl 45 d).getD ((spl 45 d).length - 1) [])⟩)) := ⟨_, rfl⟩
        rw [← hT]
        have HT := Lib.hid hT
        clear hT
        go_enter Tryz.func29, Tryz.ntmps29
        go_wp2_with fail
        refine HS.out.mono ?_
        rintro e w1 ⟨u, rfl, hO, hB⟩
        rcases hO.form with ⟨_, h0⟩ | ⟨g, cap, rfl, hbg, hgl, hlc, hcm, hcs⟩
        · cases h0
        have e0 := hcs 0 (by simp)
        have e1 := hcs 1 (by simp)
        have e2 := hcs 2 (by simp)
        have e3 := hcs 3 (by simp)
        have e4 := hcs 4 (by simp)
        simp only [List.getElem_cons_zero, List.getElem_cons_succ, List.length_cons, List.length_nil, Nat.reduceAdd] at e0 e1 e2 e3 e4 hlc ⊢
        have HB1 := Lib.hid (HB0.out.trans (hB.mono HB0.out.size))
        have HR1 := Lib.hid (HK0.out.below hB HK0.out.lt)
        clear hO hB hcs HS hbg hgl
        go_wp2_with fail
        refine wp_region_noPanic ?_
        refine wp_region_held (S := fun W => W.cell? ⟨g, 0, none⟩ = some (str [97, 108, 108, 111, 119]) ∧ W.cell? ⟨g, 1, none⟩ = some (str a) ∧ W.cell? ⟨g, 2, none⟩ = some (str b) ∧ W.cell? ⟨g, 3, none⟩ = some (str c) ∧ W.cell? ⟨g, 4, none⟩ = some (str d)) (by kernel_rfl) ?_
        change wpAnyH _ _ _ _ _ _ _ _ w1.drew
        have HXD := Lib.hid (show w1.drew.cell? ⟨g, 0, none⟩ = some (str [97, 108, 108, 111, 119]) ∧ w1.drew.cell? ⟨g, 1, none⟩ = some (str a) ∧ w1.drew.cell? ⟨g, 2, none⟩ = some (str b) ∧ w1.drew.cell? ⟨g, 3, none⟩ = some (str c) ∧ w1.drew.cell? ⟨g, 4, none⟩ = some (str d) from ⟨e0, e1, e2, e3, e4⟩)
        refine takeH 0 25 (.slice (some ⟨g, 0, none⟩) 5 cap) rfl rfl (by kernel_rfl) (by kernel_rfl) (by kernel_rfl) (fun _ _ _ h => h) rfl (fun w' h => by obtain ⟨h0, h1, h2, h3, h4⟩ := h; go_simp) HXD.out ?_
        go_frame
        refine takeH 1 26 (.pointer (some ⟨g, 0, none⟩)) rfl rfl (by kernel_rfl) (by kernel_rfl) (by kernel_rfl) (fun _ _ _ h => h) rfl (fun w' h => by obtain ⟨h0, h1, h2, h3, h4⟩ := h; go_simp) HXD.out ?_
        go_frame
        refine takeH 2 27 (str [97, 108, 108, 111, 119]) rfl rfl (by kernel_rfl) (by kernel_rfl) (by kernel_rfl) (fun _ _ _ h => h) rfl (fun w' h => by obtain ⟨h0, h1, h2, h3, h4⟩ := h; go_simp) HXD.out ?_
        go_frame
        refine takeH 3 28 (.bool true) rfl rfl (by kernel_rfl) (by kernel_rfl) (by kernel_rfl) (fun _ _ _ h => h) rfl (fun w' h => by obtain ⟨h0, h1, h2, h3, h4⟩ := h; go_simp) HXD.out ?_
        go_frame
        refine takeH 4 29 (.slice (some ⟨g, 0, none⟩) 5 cap) rfl rfl (by kernel_rfl) (by kernel_rfl) (by kernel_rfl) (fun _ _ _ h => h) rfl (fun w' h => by obtain ⟨h0, h1, h2, h3, h4⟩ := h; go_simp) HXD.out ?_
        go_frame
        refine takeH 5 30 (.pointer (some ⟨g, 1, none⟩)) rfl rfl (by kernel_rfl) (by kernel_rfl) (by kernel_rfl) (fun _ _ _ h => h) rfl (fun w' h => by obtain ⟨h0, h1, h2, h3, h4⟩ := h; go_simp) HXD.out ?_
        go_frame
        refine takeH 6 31 (str a) rfl rfl (by kernel_rfl) (by kernel_rfl) (by kernel_rfl) (fun _ _ _ h => h) rfl (fun w' h => by obtain ⟨h0, h1, h2, h3, h4⟩ := h; go_simp) HXD.out ?_
        go_frame
        refine takeH 7 32 (.slice (some ⟨g, 0, none⟩) 5 cap) rfl rfl (by kernel_rfl) (by kernel_rfl) (by kernel_rfl) (fun _ _ _ h => h) rfl (fun w' h => by obtain ⟨h0, h1, h2, h3, h4⟩ := h; go_simp) HXD.out ?_
        go_frame
        refine takeH 8 33 (.pointer (some ⟨g, 2, none⟩)) rfl rfl (by kernel_rfl) (by kernel_rfl) (by kernel_rfl) (fun _ _ _ h => h) rfl (fun w' h => by obtain ⟨h0, h1, h2, h3, h4⟩ := h; go_simp) HXD.out ?_
        go_frame
        refine takeH 9 34 (str b) rfl rfl (by kernel_rfl) (by kernel_rfl) (by kernel_rfl) (fun _ _ _ h => h) rfl (fun w' h => by obtain ⟨h0, h1, h2, h3, h4⟩ := h; go_simp) HXD.out ?_
        go_frame
        refine takeH 10 35 (.slice (some ⟨g, 0, none⟩) 5 cap) rfl rfl (by kernel_rfl) (by kernel_rfl) (by kernel_rfl) (fun _ _ _ h => h) rfl (fun w' h => by obtain ⟨h0, h1, h2, h3, h4⟩ := h; go_simp) HXD.out ?_
        go_frame
        refine takeH 11 36 (.pointer (some ⟨g, 3, none⟩)) rfl rfl (by kernel_rfl) (by kernel_rfl) (by kernel_rfl) (fun _ _ _ h => h) rfl (fun w' h => by obtain ⟨h0, h1, h2, h3, h4⟩ := h; go_simp) HXD.out ?_
        go_frame
        refine takeH 12 37 (str c) rfl rfl (by kernel_rfl) (by kernel_rfl) (by kernel_rfl) (fun _ _ _ h => h) rfl (fun w' h => by obtain ⟨h0, h1, h2, h3, h4⟩ := h; go_simp) HXD.out ?_
        go_frame
        refine takeH 13 38 (.agg #[.bool true, str a, str b, str c, .int .i64 1, .int .i64 65535]) rfl rfl (by kernel_rfl) (by kernel_rfl) (by kernel_rfl) (fun _ _ _ h => h) rfl (fun w' h => by obtain ⟨h0, h1, h2, h3, h4⟩ := h; go_simp) HXD.out ?_
        go_frame
        obtain ⟨Y, hY⟩ : ∃ Y, Y = w1.drew.alloc (.cells #[.bool false, str [], str [], str [], .int .i64 0, .int .i64 0] 33) := ⟨_, rfl⟩
        obtain ⟨p, hp⟩ : ∃ p, p = w1.heap.size := ⟨_, rfl⟩
        have hbX : Below w1.heap.size w1 Y := by rw [hY]; exact ((Below.refl _ w1).drew).alloc (Nat.le_refl _) _
        have hbl : Blk Y p [.bool false, str [], str [], str [], .int .i64 0, .int .i64 0] := by rw [hY, hp]; exact Blk.new w1.drew _ _
        have hY0 : Y.cell? ⟨g, 0, none⟩ = some (str [97, 108, 108, 111, 119]) ∧ Y.cell? ⟨g, 1, none⟩ = some (str a) ∧ Y.cell? ⟨g, 2, none⟩ = some (str b) ∧ Y.cell? ⟨g, 3, none⟩ = some (str c) ∧ Y.cell? ⟨g, 4, none⟩ = some (str d) := ⟨cellB e0 hbX, cellB e1 hbX, cellB e2 hbX, cellB e3 hbX, cellB e4 hbX⟩
        refine wpAnyH_all (rs := [14]) (by kernel_rfl) (by simp) ?_
        simp only [List.mem_singleton, forall_eq]
        refine wpOp_valueX 5 rfl rfl rfl (.pointer (some ⟨p, 0, none⟩)) Y (by rw [hY, hp]; go_simp) ⟨hY0, ?_⟩
        go_frame
        have ht := hbl.there 0 6 (Nat.le_refl _)
        obtain ⟨Z, hZ⟩ : ∃ Z, Z = Y.setCells p 0 [.bool true, str a, str b, str c, .int .i64 1, .int .i64 65535] := ⟨_, rfl⟩
        have hbz : Below w1.heap.size w1 Z := by rw [hZ]; exact below_setCells (by omega) _ hbX 0
        have hzn : Blk Z p [.bool true, str a, str b, str c, .int .i64 1, .int .i64 65535] := by rw [hZ]; exact hbl.setAll rfl
        have hZ0 : Z.cell? ⟨g, 0, none⟩ = some (str [97, 108, 108, 111, 119]) ∧ Z.cell? ⟨g, 1, none⟩ = some (str a) ∧ Z.cell? ⟨g, 2, none⟩ = some (str b) ∧ Z.cell? ⟨g, 3, none⟩ = some (str c) ∧ Z.cell? ⟨g, 4, none⟩ = some (str d) := ⟨cellB e0 hbz, cellB e1 hbz, cellB e2 hbz, cellB e3 hbz, cellB e4 hbz⟩
        refine wpAnyH_all (rs := [15]) (by kernel_rfl) (by simp) ?_
        simp only [List.mem_singleton, forall_eq]
        refine wpOp_storeN rfl rfl rfl 33 (.tmp 5) (.tmp 38) rfl p 0 #[.bool true, str a, str b, str c, .int .i64 1, .int .i64 65535] rfl rfl ht (by kernel_rfl) (by simp [Value.oneCell']) ?_
        rw [show (#[.bool true, str a, str b, str c, .int .i64 1, .int .i64 65535] : Array Value).toList = [.bool true, str a, str b, str c, .int .i64 1, .int .i64 65535] from rfl, ← hZ]
        refine ⟨hZ0, wpAnyH_done (by kernel_rfl) ?_ _⟩
        refine NoPanic.normal ?_
        have HPW := Lib.hid (show w.heap.size < p from by have := HB1.out.size; have := HR1.out.lt; omega)
        have HB2 := Lib.hid (HB1.out.trans (hbz.mono HB1.out.size))
        have HR2 := Lib.hid (HR1.out.below hbz HR1.out.lt)
        have HP2 := Lib.hid hzn
        have d4 := hZ0.2.2.2.2
        have HW4 := Lib.hid d4
        clear hY hp hbX hbl hY0 ht hZ hbz hzn hZ0 e0 e1 e2 e3 e4 HXD
        by_cases hd : d = [42]
        · obtain rfl : T = ((⟨true, a, b, c, 1, 65535⟩ : RuL), validB ⟨true, a, b, c, 1, 65535⟩) := HT.out.trans (if_pos hd)
          subst hd
          clear HT
          go_wp2_with fail
          refine wp_region_noPanic ?_
          refine wp_region_held (S := fun W => W.cell? ⟨p, 0, none⟩ = some (.bool true) ∧ W.cell? ⟨p, 1, none⟩ = some (str a) ∧ W.cell? ⟨p, 2, none⟩ = some (str b) ∧ W.cell? ⟨p, 3, none⟩ = some (str c) ∧ W.cell? ⟨p, 4, none⟩ = some (.int .i64 1) ∧ W.cell? ⟨p, 5, none⟩ = some (.int .i64 65535)) (by kernel_rfl) ?_
          change wpAnyH _ _ _ _ _ _ _ _ Z.drew
          have HSIX := Lib.hid (fun W (h : Blk W p [.bool true, str a, str b, str c, .int .i64 1, .int .i64 65535]) => (show W.cell? ⟨p, 0, none⟩ = some (.bool true) ∧ W.cell? ⟨p, 1, none⟩ = some (str a) ∧ W.cell? ⟨p, 2, none⟩ = some (str b) ∧ W.cell? ⟨p, 3, none⟩ = some (str c) ∧ W.cell? ⟨p, 4, none⟩ = some (.int .i64 1) ∧ W.cell? ⟨p, 5, none⟩ = some (.int .i64 65535) from ⟨h.at (o := 0) rfl, h.at (o := 1) rfl, h.at (o := 2) rfl, h.at (o := 3) rfl, h.at (o := 4) rfl, h.at (o := 5) rfl⟩))
          have HXD := Lib.hid (HSIX.out Z.drew HP2.out.drew)
          refine takeH 0 64 (.agg #[.bool true, str a, str b, str c, .int .i64 1, .int .i64 65535]) rfl rfl (by kernel_rfl) (by kernel_rfl) (by kernel_rfl) (fun _ _ _ h => h) rfl (fun w' h => by obtain ⟨h0, h1, h2, h3, h4, h5⟩ := h; go_simp) HXD.out ?_
          go_frame
          refine takeH 1 65 (.agg #[.bool true, str a, str b, str c, .int .i64 1, .int .i64 65535]) rfl rfl (by kernel_rfl) (by kernel_rfl) (by kernel_rfl) (fun _ _ _ h => h) rfl (fun w' h => by obtain ⟨h0, h1, h2, h3, h4, h5⟩ := h; go_simp) HXD.out ?_
          go_frame
          refine wpAnyH_all (rs := [2]) (by kernel_rfl) (by simp) ?_
          simp only [List.mem_singleton, forall_eq]
          refine wpOp_callD 66 rfl rfl rfl 18 #[.agg #[.bool true, str a, str b, str c, .int .i64 1, .int .i64 65535]] (by go_simp) ?_
          refine (right_any ⟨true, a, b, c, 1, 65535⟩ Z.drew ⟨by show a.length ≤ 5000; omega, by show b.length ≤ 5000; omega, by show c.length ≤ 5000; omega⟩).mono ?_
          rintro e W7 ⟨rfl, hB7⟩
          have hk7 := HP2.out.drew.below hB7 HP2.out.drew.lt
          have hr7 := HR2.out.drew.below hB7 HR2.out.drew.lt
          have hb7 : Below w.heap.size w W7 := (HB2.out.drew).trans (hB7.mono HB2.out.size)
          refine ⟨_, rfl, HSIX.out _ hk7, ?_⟩
          go_frame
          have ht7 := hr7.there 0 6 (Nat.le_refl _)
          obtain ⟨Z7, hZ7⟩ : ∃ Z7, Z7 = W7.setCells w.heap.size 0 [.bool true, str a, str b, str c, .int .i64 1, .int .i64 65535] := ⟨_, rfl⟩
          have hz7 : Blk Z7 w.heap.size [.bool true, str a, str b, str c, .int .i64 1, .int .i64 65535] := by rw [hZ7]; exact hr7.setAll rfl
          have hbz7 : Below w.heap.size w Z7 := by rw [hZ7]; exact below_setCells (Nat.le_refl _) _ hb7 0
          have hk8 : Blk Z7 p [.bool true, str a, str b, str c, .int .i64 1, .int .i64 65535] := by rw [hZ7]; exact hk7.grown (grown_setCells _ _ _ _) (by have := HPW.out; simp; omega)
          have HX7 := Lib.hid (HSIX.out _ hk8)
          refine wpAnyH_all (rs := [3]) (by kernel_rfl) (by simp) ?_
          simp only [List.mem_singleton, forall_eq]
          refine wpOp_storeN rfl rfl rfl 33 (.tmp 2) (.tmp 64) rfl w.heap.size 0 #[.bool true, str a, str b, str c, .int .i64 1, .int .i64 65535] rfl rfl ht7 (by kernel_rfl) (by simp [Value.oneCell']) ?_
          rw [show (#[.bool true, str a, str b, str c, .int .i64 1, .int .i64 65535] : Array Value).toList = [.bool true, str a, str b, str c, .int .i64 1, .int .i64 65535] from rfl, ← hZ7]
          refine ⟨HX7.out, ?_⟩
          obtain ⟨P, hP⟩ : ∃ P, P = validB ⟨true, a, b, c, 1, 65535⟩ := ⟨_, rfl⟩
          try rw [← hP]
          refine takeH 4 3 (.bool (validB ⟨true, a, b, c, 1, 65535⟩)) rfl rfl (by kernel_rfl) (by kernel_rfl) (by kernel_rfl) (fun _ _ _ h => h) rfl (fun w' _ => by first | go_simp | (go_simp; rw [hP])) HX7.out ?_
          go_frame
          refine wpAnyH_done (by kernel_rfl) ?_ _
          refine NoPanic.normal ?_
          have r0 := hz7.at (o := 0) rfl
          have r1 := hz7.at (o := 1) rfl
          have r2 := hz7.at (o := 2) rfl
          have r3 := hz7.at (o := 3) rfl
          have r4 := hz7.at (o := 4) rfl
          have r5 := hz7.at (o := 5) rfl
          have HBZ7 := Lib.hid hbz7
          clear hZ7 hz7 hbz7 hk8 ht7 hk7 hr7 hb7 hB7 HX7 HSIX HXD hP
          go_wp2_with fail
          exact bodyPost_ret (v := .tuple #[.agg #[.bool true, str a, str b, str c, .int .i64 1, .int .i64 65535], .bool (validB ⟨true, a, b, c, 1, 65535⟩)]) (by simp [results, Tryz.results29, go_sem, r0, r1, r2, r3, r4, r5]) rfl ⟨rfl, HBZ7.out⟩
        · have hT := HT.out
          rw [if_neg hd] at hT
          clear HT
          have HSD := Lib.hid (fun W => (show Calls Tryz.prog 47 #[str d, .int .u8 45] W _ from refSplit_any d 45 W (by omega)))
          obtain ⟨tl1, tl2⟩ := spl_len (c := 45) d
          have hne2 := spl_ne 45 d
          have hdq : (d == [42]) = false := by rw [beq_eq_false_iff_ne]; exact hd
          clear hd
          have HT := Lib.hid hT
          clear hT
          go_wp2_with fail
          refine (HSD.out _).mono ?_
          rintro e w3 ⟨u, rfl, hO, hB⟩
          rcases hO.form with ⟨_, h0⟩ | ⟨gp, cp, rfl, hbg, hgl, hlc2, hcm2, hcs⟩
          · exact absurd h0 hne2
          have HB3 := Lib.hid (HB2.out.trans (hB.mono HB2.out.size))
          have HR3 := Lib.hid (HR2.out.below hB HR2.out.lt)
          have HP3 := Lib.hid (HP2.out.below hB HP2.out.lt)
          obtain ⟨ps, hps⟩ : ∃ ps, ps = spl 45 d := ⟨_, rfl⟩
          have hT := HT.out
          rw [← hps] at hne2 hlc2 tl2 hT ⊢
          clear HT
          have hcs' : ∀ j (hj : j < ps.length), w3.cell? ⟨gp, j, none⟩ = some (str ps[j]) := by rw [hps]; exact hcs
          have gpn : gp ≠ p := by have := HP2.out.lt; omega
          clear hO hB hcs HSD hbg hgl hps d4
          match ps, hne2, hlc2, hcs', tl2, hT with
          | [x1], _, _, hcs', tl2, hT =>
            obtain rfl : T = ((⟨true, a, b, c, portN x1, portN x1⟩ : RuL), validB ⟨true, a, b, c, portN x1, portN x1⟩) := hT.trans (if_neg (by simp))
            clear hT
            have c0 := hcs' 0 (by simp)
            have cl := c0
            have l1 := tl2 x1 (by simp)
            simp only [List.getElem_cons_zero, List.length_cons, List.length_nil, Nat.reduceAdd] at c0 cl ⊢
            clear hcs' tl2
            go_wp2_with fail
            obtain ⟨x, hx⟩ : ∃ x, x = portN x1 := ⟨_, rfl⟩
            obtain ⟨y, hy⟩ : ∃ y, y = portN x1 := ⟨_, rfl⟩
            have HC1 := Lib.hid (fun W => refPort_any x1 W (by omega))
            have HC2 := Lib.hid (fun W => refPort_any x1 W (by omega))
            rw [← hx] at HC1
            rw [← hy] at HC2
            try rw [← hx]
            try rw [← hy]
            refine wp_region_noPanic ?_
            refine wp_region_held (S := fun W => W.cell? ⟨gp, 0, none⟩ = some (str x1) ∧ W.cell? ⟨gp, 0, none⟩ = some (str x1)) (by kernel_rfl) ?_
            change wpAnyH _ _ _ _ _ _ _ _ w3.drew
            obtain ⟨V, hV⟩ : ∃ V, V = w3.drew := ⟨_, rfl⟩
            have HBV := Lib.hid (show Below w.heap.size w V from by rw [hV]; exact HB3.out.drew)
            have HRV := Lib.hid (show Blk V w.heap.size [.bool false, str [], str [], str [], .int .i64 0, .int .i64 0] from by rw [hV]; exact HR3.out.drew)
            have HPV := Lib.hid (show Blk V p [.bool true, str a, str b, str c, .int .i64 1, .int .i64 65535] from by rw [hV]; exact HP3.out.drew)
            have HXD := Lib.hid (show V.cell? ⟨gp, 0, none⟩ = some (str x1) ∧ V.cell? ⟨gp, 0, none⟩ = some (str x1) from by rw [hV]; exact ⟨c0, cl⟩)
            rw [← hV]
            have HX1 := Lib.hid hx
            have HY1 := Lib.hid hy
            clear hV hx hy
            refine takeH 0 51 (.slice (some ⟨gp, 0, none⟩) 1 cp) rfl rfl (by kernel_rfl) (by kernel_rfl) (by kernel_rfl) (fun _ _ _ h => h) rfl (fun w' h => by obtain ⟨h0, h1⟩ := h; go_simp) HXD.out ?_
            go_frame
            refine takeH 1 52 (.pointer (some ⟨gp, 0, none⟩)) rfl rfl (by kernel_rfl) (by kernel_rfl) (by kernel_rfl) (fun _ _ _ h => h) rfl (fun w' h => by obtain ⟨h0, h1⟩ := h; go_simp) HXD.out ?_
            go_frame
            refine takeH 2 53 (str x1) rfl rfl (by kernel_rfl) (by kernel_rfl) (by kernel_rfl) (fun _ _ _ h => h) rfl (fun w' h => by obtain ⟨h0, h1⟩ := h; go_simp) HXD.out ?_
            go_frame
            refine takeH 4 55 (.slice (some ⟨gp, 0, none⟩) 1 cp) rfl rfl (by kernel_rfl) (by kernel_rfl) (by kernel_rfl) (fun _ _ _ h => h) rfl (fun w' h => by obtain ⟨h0, h1⟩ := h; go_simp) HXD.out ?_
            go_frame
            refine takeH 5 56 (.slice (some ⟨gp, 0, none⟩) 1 cp) rfl rfl (by kernel_rfl) (by kernel_rfl) (by kernel_rfl) (fun _ _ _ h => h) rfl (fun w' h => by obtain ⟨h0, h1⟩ := h; go_simp) HXD.out ?_
            go_frame
            refine takeH 6 57 (.int .i64 1) rfl rfl (by kernel_rfl) (by kernel_rfl) (by kernel_rfl) (fun _ _ _ h => h) rfl (fun w' h => by obtain ⟨h0, h1⟩ := h; go_simp) HXD.out ?_
            go_frame
            refine takeH 7 58 (.int .i64 0) rfl rfl (by kernel_rfl) (by kernel_rfl) (by kernel_rfl) (fun _ _ _ h => h) rfl (fun w' h => by obtain ⟨h0, h1⟩ := h; first | (go_simp; done) | (go_simp; rfl)) HXD.out ?_
            go_frame
            refine takeH 8 59 (.pointer (some ⟨gp, 0, none⟩)) rfl rfl (by kernel_rfl) (by kernel_rfl) (by kernel_rfl) (fun _ _ _ h => h) rfl (fun w' h => by obtain ⟨h0, h1⟩ := h; go_simp) HXD.out ?_
            go_frame
            refine takeH 9 60 (str x1) rfl rfl (by kernel_rfl) (by kernel_rfl) (by kernel_rfl) (fun _ _ _ h => h) rfl (fun w' h => by obtain ⟨h0, h1⟩ := h; go_simp) HXD.out ?_
            go_frame
            refine wpAnyH_all (rs := [3]) (by kernel_rfl) (by simp) ?_
            simp only [List.mem_singleton, forall_eq]
            refine wpOp_callD 54 rfl rfl rfl 48 #[str x1] (by go_simp) ?_
            refine (HC1.out _).mono ?_
            rintro e V1 ⟨rfl, rfl⟩
            refine ⟨_, rfl, HXD.out, ?_⟩
            go_frame
            refine takeH 11 62 (.pointer (some ⟨p, 4, none⟩)) rfl rfl (by kernel_rfl) (by kernel_rfl) (by kernel_rfl) (fun _ _ _ h => h) rfl (fun w' h => by obtain ⟨h0, h1⟩ := h; go_simp) HXD.out ?_
            go_frame
            refine wpAnyH_all (rs := [10]) (by kernel_rfl) (by simp) ?_
            simp only [List.mem_singleton, forall_eq]
            refine wpOp_callD 61 rfl rfl rfl 48 #[str x1] (by go_simp) ?_
            refine (HC2.out _).mono ?_
            rintro e V1 ⟨rfl, rfl⟩
            refine ⟨_, rfl, HXD.out, ?_⟩
            go_frame
            have HNG := Lib.hid (show gp ≠ p from gpn)
            obtain ⟨Y, hY⟩ : ∃ Y, Y = V.setCell ⟨p, 4, none⟩ (.int .i64 x) := ⟨_, rfl⟩
            have HPY := Lib.hid (show Blk Y p [.bool true, str a, str b, str c, .int .i64 x, .int .i64 65535] from by rw [hY]; exact HPV.out.set 4 _)
            have HRY := Lib.hid (show Blk Y w.heap.size [.bool false, str [], str [], str [], .int .i64 0, .int .i64 0] from by rw [hY]; exact HRV.out.setOther (a := ⟨p, 4, none⟩) (by show p ≠ w.heap.size; have := HPW.out; omega) _)
            have HBY := Lib.hid (show Below w.heap.size w Y from by rw [hY]; exact HBV.out.setCell (p := ⟨p, 4, none⟩) (by show w.heap.size ≤ p; have := HPW.out; omega) _)
            have HXY := Lib.hid (show Y.cell? ⟨gp, 0, none⟩ = some (str x1) ∧ Y.cell? ⟨gp, 0, none⟩ = some (str x1) from by rw [hY]; exact ⟨(World.cell?_setCell_far _ _ _ _ (fun e => HNG.out e.symm)).trans HXD.out.1, (World.cell?_setCell_far _ _ _ _ (fun e => HNG.out e.symm)).trans HXD.out.2⟩)
            refine wpAnyH_all (rs := [12]) (by kernel_rfl) (by simp) ?_
            simp only [List.mem_singleton, forall_eq]
            have k4 := HPV.out.at (o := 4) rfl
            have q4 := HPV.out.free 4
            refine wpOp_storeQ rfl rfl rfl (w' := Y) (by rw [hY]; go_simp) ?_
            clear k4 q4
            refine ⟨HXY.out, ?_⟩
            clear hY
            refine takeH 13 63 (.pointer (some ⟨p, 5, none⟩)) rfl rfl (by kernel_rfl) (by kernel_rfl) (by kernel_rfl) (fun _ _ _ h => h) rfl (fun w' h => by obtain ⟨h0, h1⟩ := h; go_simp) HXY.out ?_
            go_frame
            obtain ⟨Z, hZ⟩ : ∃ Z, Z = Y.setCell ⟨p, 5, none⟩ (.int .i64 y) := ⟨_, rfl⟩
            have HP4 := Lib.hid (show Blk Z p [.bool true, str a, str b, str c, .int .i64 x, .int .i64 y] from by rw [hZ]; exact HPY.out.set 5 _)
            have HR4 := Lib.hid (show Blk Z w.heap.size [.bool false, str [], str [], str [], .int .i64 0, .int .i64 0] from by rw [hZ]; exact HRY.out.setOther (a := ⟨p, 5, none⟩) (by show p ≠ w.heap.size; have := HPW.out; omega) _)
            have HB4 := Lib.hid (show Below w.heap.size w Z from by rw [hZ]; exact HBY.out.setCell (p := ⟨p, 5, none⟩) (by show w.heap.size ≤ p; have := HPW.out; omega) _)
            have HXZ := Lib.hid (show Z.cell? ⟨gp, 0, none⟩ = some (str x1) ∧ Z.cell? ⟨gp, 0, none⟩ = some (str x1) from by rw [hZ]; exact ⟨(World.cell?_setCell_far _ _ _ _ (fun e => HNG.out e.symm)).trans HXY.out.1, (World.cell?_setCell_far _ _ _ _ (fun e => HNG.out e.symm)).trans HXY.out.2⟩)
            refine wpAnyH_all (rs := [14]) (by kernel_rfl) (by simp) ?_
            simp only [List.mem_singleton, forall_eq]
            have k5 := HPY.out.at (o := 5) rfl
            have q5 := HPY.out.free 5
            refine wpOp_storeQ rfl rfl rfl (w' := Z) (by rw [hZ]; go_simp) ?_
            clear k5 q5
            refine ⟨HXZ.out, wpAnyH_done (by kernel_rfl) ?_ _⟩
            refine NoPanic.normal ?_
            clear hZ HXD HXY HXZ HPV HRV HBV HPY HRY HBY
            go_wp2_with fail
            refine wp_region_noPanic ?_
            refine wp_region_held (S := fun W => W.cell? ⟨p, 0, none⟩ = some (.bool true) ∧ W.cell? ⟨p, 1, none⟩ = some (str a) ∧ W.cell? ⟨p, 2, none⟩ = some (str b) ∧ W.cell? ⟨p, 3, none⟩ = some (str c) ∧ W.cell? ⟨p, 4, none⟩ = some (.int .i64 x) ∧ W.cell? ⟨p, 5, none⟩ = some (.int .i64 y)) (by kernel_rfl) ?_
            change wpAnyH _ _ _ _ _ _ _ _ Z.drew
            have HSIX := Lib.hid (fun W (h : Blk W p [.bool true, str a, str b, str c, .int .i64 x, .int .i64 y]) => (show W.cell? ⟨p, 0, none⟩ = some (.bool true) ∧ W.cell? ⟨p, 1, none⟩ = some (str a) ∧ W.cell? ⟨p, 2, none⟩ = some (str b) ∧ W.cell? ⟨p, 3, none⟩ = some (str c) ∧ W.cell? ⟨p, 4, none⟩ = some (.int .i64 x) ∧ W.cell? ⟨p, 5, none⟩ = some (.int .i64 y) from ⟨h.at (o := 0) rfl, h.at (o := 1) rfl, h.at (o := 2) rfl, h.at (o := 3) rfl, h.at (o := 4) rfl, h.at (o := 5) rfl⟩))
            have HXD := Lib.hid (HSIX.out Z.drew HP4.out.drew)
            refine takeH 0 64 (.agg #[.bool true, str a, str b, str c, .int .i64 x, .int .i64 y]) rfl rfl (by kernel_rfl) (by kernel_rfl) (by kernel_rfl) (fun _ _ _ h => h) rfl (fun w' h => by obtain ⟨h0, h1, h2, h3, h4, h5⟩ := h; go_simp) HXD.out ?_
            go_frame
            refine takeH 1 65 (.agg #[.bool true, str a, str b, str c, .int .i64 x, .int .i64 y]) rfl rfl (by kernel_rfl) (by kernel_rfl) (by kernel_rfl) (fun _ _ _ h => h) rfl (fun w' h => by obtain ⟨h0, h1, h2, h3, h4, h5⟩ := h; go_simp) HXD.out ?_
            go_frame
            refine wpAnyH_all (rs := [2]) (by kernel_rfl) (by simp) ?_
            simp only [List.mem_singleton, forall_eq]
            refine wpOp_callD 66 rfl rfl rfl 18 #[.agg #[.bool true, str a, str b, str c, .int .i64 x, .int .i64 y]] (by go_simp) ?_
            refine (right_any ⟨true, a, b, c, x, y⟩ Z.drew ⟨by show a.length ≤ 5000; omega, by show b.length ≤ 5000; omega, by show c.length ≤ 5000; omega⟩).mono ?_
            rintro e W7 ⟨rfl, hB7⟩
            have hk7 := HP4.out.drew.below hB7 HP4.out.drew.lt
            have hr7 := HR4.out.drew.below hB7 HR4.out.drew.lt
            have hb7 : Below w.heap.size w W7 := (HB4.out.drew).trans (hB7.mono HB4.out.size)
            refine ⟨_, rfl, HSIX.out _ hk7, ?_⟩
            go_frame
            have ht7 := hr7.there 0 6 (Nat.le_refl _)
            obtain ⟨Z7, hZ7⟩ : ∃ Z7, Z7 = W7.setCells w.heap.size 0 [.bool true, str a, str b, str c, .int .i64 x, .int .i64 y] := ⟨_, rfl⟩
            have hz7 : Blk Z7 w.heap.size [.bool true, str a, str b, str c, .int .i64 x, .int .i64 y] := by rw [hZ7]; exact hr7.setAll rfl
            have hbz7 : Below w.heap.size w Z7 := by rw [hZ7]; exact below_setCells (Nat.le_refl _) _ hb7 0
            have hk8 : Blk Z7 p [.bool true, str a, str b, str c, .int .i64 x, .int .i64 y] := by rw [hZ7]; exact hk7.grown (grown_setCells _ _ _ _) (by have := HPW.out; simp; omega)
            have HX7 := Lib.hid (HSIX.out _ hk8)
            refine wpAnyH_all (rs := [3]) (by kernel_rfl) (by simp) ?_
            simp only [List.mem_singleton, forall_eq]
            refine wpOp_storeN rfl rfl rfl 33 (.tmp 2) (.tmp 64) rfl w.heap.size 0 #[.bool true, str a, str b, str c, .int .i64 x, .int .i64 y] rfl rfl ht7 (by kernel_rfl) (by simp [Value.oneCell']) ?_
            rw [show (#[.bool true, str a, str b, str c, .int .i64 x, .int .i64 y] : Array Value).toList = [.bool true, str a, str b, str c, .int .i64 x, .int .i64 y] from rfl, ← hZ7]
            refine ⟨HX7.out, ?_⟩
            obtain ⟨P, hP⟩ : ∃ P, P = validB ⟨true, a, b, c, x, y⟩ := ⟨_, rfl⟩
            try rw [← hP]
            refine takeH 4 3 (.bool (validB ⟨true, a, b, c, x, y⟩)) rfl rfl (by kernel_rfl) (by kernel_rfl) (by kernel_rfl) (fun _ _ _ h => h) rfl (fun w' _ => by first | go_simp | (go_simp; rw [hP])) HX7.out ?_
            go_frame
            refine wpAnyH_done (by kernel_rfl) ?_ _
            refine NoPanic.normal ?_
            have r0 := hz7.at (o := 0) rfl
            have r1 := hz7.at (o := 1) rfl
            have r2 := hz7.at (o := 2) rfl
            have r3 := hz7.at (o := 3) rfl
            have r4 := hz7.at (o := 4) rfl
            have r5 := hz7.at (o := 5) rfl
            have HBZ7 := Lib.hid hbz7
            clear hZ7 hz7 hbz7 hk8 ht7 hk7 hr7 hb7 hB7 HX7 HSIX HXD hP
            go_wp2_with fail
            exact bodyPost_ret (v := .tuple #[.agg #[.bool true, str a, str b, str c, .int .i64 x, .int .i64 y], .bool (validB ⟨true, a, b, c, x, y⟩)]) (by simp [results, Tryz.results29, go_sem, r0, r1, r2, r3, r4, r5]) rfl ⟨by rw [HX1.out, HY1.out], HBZ7.out⟩
          | [x1, x2], _, _, hcs', tl2, hT =>
            obtain rfl : T = ((⟨true, a, b, c, portN x1, portN x2⟩ : RuL), validB ⟨true, a, b, c, portN x1, portN x2⟩) := hT.trans (if_neg (by simp))
            clear hT
            have c0 := hcs' 0 (by simp)
            have cl := hcs' 1 (by simp)
            have l1 := tl2 x1 (by simp)
            have l2 := tl2 x2 (by simp)
            simp only [List.getElem_cons_zero, List.getElem_cons_succ, List.length_cons, List.length_nil, Nat.reduceAdd] at c0 cl ⊢
            clear hcs' tl2
            go_wp2_with fail
            obtain ⟨x, hx⟩ : ∃ x, x = portN x1 := ⟨_, rfl⟩
            obtain ⟨y, hy⟩ : ∃ y, y = portN x2 := ⟨_, rfl⟩
            have HC1 := Lib.hid (fun W => refPort_any x1 W (by omega))
            have HC2 := Lib.hid (fun W => refPort_any x2 W (by omega))
            rw [← hx] at HC1
            rw [← hy] at HC2
            try rw [← hx]
            try rw [← hy]
            refine wp_region_noPanic ?_
            refine wp_region_held (S := fun W => W.cell? ⟨gp, 0, none⟩ = some (str x1) ∧ W.cell? ⟨gp, 1, none⟩ = some (str x2)) (by kernel_rfl) ?_
            change wpAnyH _ _ _ _ _ _ _ _ w3.drew
            obtain ⟨V, hV⟩ : ∃ V, V = w3.drew := ⟨_, rfl⟩
            have HBV := Lib.hid (show Below w.heap.size w V from by rw [hV]; exact HB3.out.drew)
            have HRV := Lib.hid (show Blk V w.heap.size [.bool false, str [], str [], str [], .int .i64 0, .int .i64 0] from by rw [hV]; exact HR3.out.drew)
            have HPV := Lib.hid (show Blk V p [.bool true, str a, str b, str c, .int .i64 1, .int .i64 65535] from by rw [hV]; exact HP3.out.drew)
            have HXD := Lib.hid (show V.cell? ⟨gp, 0, none⟩ = some (str x1) ∧ V.cell? ⟨gp, 1, none⟩ = some (str x2) from by rw [hV]; exact ⟨c0, cl⟩)
            rw [← hV]
            have HX1 := Lib.hid hx
            have HY1 := Lib.hid hy
            clear hV hx hy
            refine takeH 0 51 (.slice (some ⟨gp, 0, none⟩) 2 cp) rfl rfl (by kernel_rfl) (by kernel_rfl) (by kernel_rfl) (fun _ _ _ h => h) rfl (fun w' h => by obtain ⟨h0, h1⟩ := h; go_simp) HXD.out ?_
            go_frame
            refine takeH 1 52 (.pointer (some ⟨gp, 0, none⟩)) rfl rfl (by kernel_rfl) (by kernel_rfl) (by kernel_rfl) (fun _ _ _ h => h) rfl (fun w' h => by obtain ⟨h0, h1⟩ := h; go_simp) HXD.out ?_
            go_frame
            refine takeH 2 53 (str x1) rfl rfl (by kernel_rfl) (by kernel_rfl) (by kernel_rfl) (fun _ _ _ h => h) rfl (fun w' h => by obtain ⟨h0, h1⟩ := h; go_simp) HXD.out ?_
            go_frame
            refine takeH 4 55 (.slice (some ⟨gp, 0, none⟩) 2 cp) rfl rfl (by kernel_rfl) (by kernel_rfl) (by kernel_rfl) (fun _ _ _ h => h) rfl (fun w' h => by obtain ⟨h0, h1⟩ := h; go_simp) HXD.out ?_
            go_frame
            refine takeH 5 56 (.slice (some ⟨gp, 0, none⟩) 2 cp) rfl rfl (by kernel_rfl) (by kernel_rfl) (by kernel_rfl) (fun _ _ _ h => h) rfl (fun w' h => by obtain ⟨h0, h1⟩ := h; go_simp) HXD.out ?_
            go_frame
            refine takeH 6 57 (.int .i64 2) rfl rfl (by kernel_rfl) (by kernel_rfl) (by kernel_rfl) (fun _ _ _ h => h) rfl (fun w' h => by obtain ⟨h0, h1⟩ := h; go_simp) HXD.out ?_
            go_frame
            refine takeH 7 58 (.int .i64 1) rfl rfl (by kernel_rfl) (by kernel_rfl) (by kernel_rfl) (fun _ _ _ h => h) rfl (fun w' h => by obtain ⟨h0, h1⟩ := h; first | (go_simp; done) | (go_simp; rfl)) HXD.out ?_
            go_frame
            refine takeH 8 59 (.pointer (some ⟨gp, 1, none⟩)) rfl rfl (by kernel_rfl) (by kernel_rfl) (by kernel_rfl) (fun _ _ _ h => h) rfl (fun w' h => by obtain ⟨h0, h1⟩ := h; go_simp) HXD.out ?_
            go_frame
            refine takeH 9 60 (str x2) rfl rfl (by kernel_rfl) (by kernel_rfl) (by kernel_rfl) (fun _ _ _ h => h) rfl (fun w' h => by obtain ⟨h0, h1⟩ := h; go_simp) HXD.out ?_
            go_frame
            refine wpAnyH_all (rs := [3]) (by kernel_rfl) (by simp) ?_
            simp only [List.mem_singleton, forall_eq]
            refine wpOp_callD 54 rfl rfl rfl 48 #[str x1] (by go_simp) ?_
            refine (HC1.out _).mono ?_
            rintro e V1 ⟨rfl, rfl⟩
            refine ⟨_, rfl, HXD.out, ?_⟩
            go_frame
            refine takeH 11 62 (.pointer (some ⟨p, 4, none⟩)) rfl rfl (by kernel_rfl) (by kernel_rfl) (by kernel_rfl) (fun _ _ _ h => h) rfl (fun w' h => by obtain ⟨h0, h1⟩ := h; go_simp) HXD.out ?_
            go_frame
            refine wpAnyH_all (rs := [10]) (by kernel_rfl) (by simp) ?_
            simp only [List.mem_singleton, forall_eq]
            refine wpOp_callD 61 rfl rfl rfl 48 #[str x2] (by go_simp) ?_
            refine (HC2.out _).mono ?_
            rintro e V1 ⟨rfl, rfl⟩
            refine ⟨_, rfl, HXD.out, ?_⟩
            go_frame
            have HNG := Lib.hid (show gp ≠ p from gpn)
            obtain ⟨Y, hY⟩ : ∃ Y, Y = V.setCell ⟨p, 4, none⟩ (.int .i64 x) := ⟨_, rfl⟩
            have HPY := Lib.hid (show Blk Y p [.bool true, str a, str b, str c, .int .i64 x, .int .i64 65535] from by rw [hY]; exact HPV.out.set 4 _)
            have HRY := Lib.hid (show Blk Y w.heap.size [.bool false, str [], str [], str [], .int .i64 0, .int .i64 0] from by rw [hY]; exact HRV.out.setOther (a := ⟨p, 4, none⟩) (by show p ≠ w.heap.size; have := HPW.out; omega) _)
            have HBY := Lib.hid (show Below w.heap.size w Y from by rw [hY]; exact HBV.out.setCell (p := ⟨p, 4, none⟩) (by show w.heap.size ≤ p; have := HPW.out; omega) _)
            have HXY := Lib.hid (show Y.cell? ⟨gp, 0, none⟩ = some (str x1) ∧ Y.cell? ⟨gp, 1, none⟩ = some (str x2) from by rw [hY]; exact ⟨(World.cell?_setCell_far _ _ _ _ (fun e => HNG.out e.symm)).trans HXD.out.1, (World.cell?_setCell_far _ _ _ _ (fun e => HNG.out e.symm)).trans HXD.out.2⟩)
            refine wpAnyH_all (rs := [12]) (by kernel_rfl) (by simp) ?_
            simp only [List.mem_singleton, forall_eq]
            have k4 := HPV.out.at (o := 4) rfl
            have q4 := HPV.out.free 4
            refine wpOp_storeQ rfl rfl rfl (w' := Y) (by rw [hY]; go_simp) ?_
            clear k4 q4
            refine ⟨HXY.out, ?_⟩
            clear hY
            refine takeH 13 63 (.pointer (some ⟨p, 5, none⟩)) rfl rfl (by kernel_rfl) (by kernel_rfl) (by kernel_rfl) (fun _ _ _ h => h) rfl (fun w' h => by obtain ⟨h0, h1⟩ := h; go_simp) HXY.out ?_
            go_frame
            obtain ⟨Z, hZ⟩ : ∃ Z, Z = Y.setCell ⟨p, 5, none⟩ (.int .i64 y) := ⟨_, rfl⟩
            have HP4 := Lib.hid (show Blk Z p [.bool true, str a, str b, str c, .int .i64 x, .int .i64 y] from by rw [hZ]; exact HPY.out.set 5 _)
            have HR4 := Lib.hid (show Blk Z w.heap.size [.bool false, str [], str [], str [], .int .i64 0, .int .i64 0] from by rw [hZ]; exact HRY.out.setOther (a := ⟨p, 5, none⟩) (by show p ≠ w.heap.size; have := HPW.out; omega) _)
            have HB4 := Lib.hid (show Below w.heap.size w Z from by rw [hZ]; exact HBY.out.setCell (p := ⟨p, 5, none⟩) (by show w.heap.size ≤ p; have := HPW.out; omega) _)
            have HXZ := Lib.hid (show Z.cell? ⟨gp, 0, none⟩ = some (str x1) ∧ Z.cell? ⟨gp, 1, none⟩ = some (str x2) from by rw [hZ]; exact ⟨(World.cell?_setCell_far _ _ _ _ (fun e => HNG.out e.symm)).trans HXY.out.1, (World.cell?_setCell_far _ _ _ _ (fun e => HNG.out e.symm)).trans HXY.out.2⟩)
            refine wpAnyH_all (rs := [14]) (by kernel_rfl) (by simp) ?_
            simp only [List.mem_singleton, forall_eq]
            have k5 := HPY.out.at (o := 5) rfl
            have q5 := HPY.out.free 5
            refine wpOp_storeQ rfl rfl rfl (w' := Z) (by rw [hZ]; go_simp) ?_
            clear k5 q5
            refine ⟨HXZ.out, wpAnyH_done (by kernel_rfl) ?_ _⟩
            refine NoPanic.normal ?_
            clear hZ HXD HXY HXZ HPV HRV HBV HPY HRY HBY
            go_wp2_with fail
            refine wp_region_noPanic ?_
            refine wp_region_held (S := fun W => W.cell? ⟨p, 0, none⟩ = some (.bool true) ∧ W.cell? ⟨p, 1, none⟩ = some (str a) ∧ W.cell? ⟨p, 2, none⟩ = some (str b) ∧ W.cell? ⟨p, 3, none⟩ = some (str c) ∧ W.cell? ⟨p, 4, none⟩ = some (.int .i64 x) ∧ W.cell? ⟨p, 5, none⟩ = some (.int .i64 y)) (by kernel_rfl) ?_
            change wpAnyH _ _ _ _ _ _ _ _ Z.drew
            have HSIX := Lib.hid (fun W (h : Blk W p [.bool true, str a, str b, str c, .int .i64 x, .int .i64 y]) => (show W.cell? ⟨p, 0, none⟩ = some (.bool true) ∧ W.cell? ⟨p, 1, none⟩ = some (str a) ∧ W.cell? ⟨p, 2, none⟩ = some (str b) ∧ W.cell? ⟨p, 3, none⟩ = some (str c) ∧ W.cell? ⟨p, 4, none⟩ = some (.int .i64 x) ∧ W.cell? ⟨p, 5, none⟩ = some (.int .i64 y) from ⟨h.at (o := 0) rfl, h.at (o := 1) rfl, h.at (o := 2) rfl, h.at (o := 3) rfl, h.at (o := 4) rfl, h.at (o := 5) rfl⟩))
            have HXD := Lib.hid (HSIX.out Z.drew HP4.out.drew)
            refine takeH 0 64 (.agg #[.bool true, str a, str b, str c, .int .i64 x, .int .i64 y]) rfl rfl (by kernel_rfl) (by kernel_rfl) (by kernel_rfl) (fun _ _ _ h => h) rfl (fun w' h => by obtain ⟨h0, h1, h2, h3, h4, h5⟩ := h; go_simp) HXD.out ?_
            go_frame
            refine takeH 1 65 (.agg #[.bool true, str a, str b, str c, .int .i64 x, .int .i64 y]) rfl rfl (by kernel_rfl) (by kernel_rfl) (by kernel_rfl) (fun _ _ _ h => h) rfl (fun w' h => by obtain ⟨h0, h1, h2, h3, h4, h5⟩ := h; go_simp) HXD.out ?_
            go_frame
            refine wpAnyH_all (rs := [2]) (by kernel_rfl) (by simp) ?_
            simp only [List.mem_singleton, forall_eq]
            refine wpOp_callD 66 rfl rfl rfl 18 #[.agg #[.bool true, str a, str b, str c, .int .i64 x, .int .i64 y]] (by go_simp) ?_
            refine (right_any ⟨true, a, b, c, x, y⟩ Z.drew ⟨by show a.length ≤ 5000; omega, by show b.length ≤ 5000; omega, by show c.length ≤ 5000; omega⟩).mono ?_
            rintro e W7 ⟨rfl, hB7⟩
            have hk7 := HP4.out.drew.below hB7 HP4.out.drew.lt
            have hr7 := HR4.out.drew.below hB7 HR4.out.drew.lt
            have hb7 : Below w.heap.size w W7 := (HB4.out.drew).trans (hB7.mono HB4.out.size)
            refine ⟨_, rfl, HSIX.out _ hk7, ?_⟩
            go_frame
            have ht7 := hr7.there 0 6 (Nat.le_refl _)
            obtain ⟨Z7, hZ7⟩ : ∃ Z7, Z7 = W7.setCells w.heap.size 0 [.bool true, str a, str b, str c, .int .i64 x, .int .i64 y] := ⟨_, rfl⟩
            have hz7 : Blk Z7 w.heap.size [.bool true, str a, str b, str c, .int .i64 x, .int .i64 y] := by rw [hZ7]; exact hr7.setAll rfl
            have hbz7 : Below w.heap.size w Z7 := by rw [hZ7]; exact below_setCells (Nat.le_refl _) _ hb7 0
            have hk8 : Blk Z7 p [.bool true, str a, str b, str c, .int .i64 x, .int .i64 y] := by rw [hZ7]; exact hk7.grown (grown_setCells _ _ _ _) (by have := HPW.out; simp; omega)
            have HX7 := Lib.hid (HSIX.out _ hk8)
            refine wpAnyH_all (rs := [3]) (by kernel_rfl) (by simp) ?_
            simp only [List.mem_singleton, forall_eq]
            refine wpOp_storeN rfl rfl rfl 33 (.tmp 2) (.tmp 64) rfl w.heap.size 0 #[.bool true, str a, str b, str c, .int .i64 x, .int .i64 y] rfl rfl ht7 (by kernel_rfl) (by simp [Value.oneCell']) ?_
            rw [show (#[.bool true, str a, str b, str c, .int .i64 x, .int .i64 y] : Array Value).toList = [.bool true, str a, str b, str c, .int .i64 x, .int .i64 y] from rfl, ← hZ7]
            refine ⟨HX7.out, ?_⟩
            obtain ⟨P, hP⟩ : ∃ P, P = validB ⟨true, a, b, c, x, y⟩ := ⟨_, rfl⟩
            try rw [← hP]
            refine takeH 4 3 (.bool (validB ⟨true, a, b, c, x, y⟩)) rfl rfl (by kernel_rfl) (by kernel_rfl) (by kernel_rfl) (fun _ _ _ h => h) rfl (fun w' _ => by first | go_simp | (go_simp; rw [hP])) HX7.out ?_
            go_frame
            refine wpAnyH_done (by kernel_rfl) ?_ _
            refine NoPanic.normal ?_
            have r0 := hz7.at (o := 0) rfl
            have r1 := hz7.at (o := 1) rfl
            have r2 := hz7.at (o := 2) rfl
            have r3 := hz7.at (o := 3) rfl
            have r4 := hz7.at (o := 4) rfl
            have r5 := hz7.at (o := 5) rfl
            have HBZ7 := Lib.hid hbz7
            clear hZ7 hz7 hbz7 hk8 ht7 hk7 hr7 hb7 hB7 HX7 HSIX HXD hP
            go_wp2_with fail
            exact bodyPost_ret (v := .tuple #[.agg #[.bool true, str a, str b, str c, .int .i64 x, .int .i64 y], .bool (validB ⟨true, a, b, c, x, y⟩)]) (by simp [results, Tryz.results29, go_sem, r0, r1, r2, r3, r4, r5]) rfl ⟨by rw [HX1.out, HY1.out], HBZ7.out⟩
          | x1 :: x2 :: x3 :: rest, _, _, hcs', tl2, hT =>
            have h2l : 2 < (x1 :: x2 :: x3 :: rest).length := by simp
            obtain rfl : T = ((⟨false, [], [], [], 0, 0⟩ : RuL), false) := hT.trans (if_pos h2l)
            clear hT
            obtain ⟨n, hn⟩ : ∃ n, n = (x1 :: x2 :: x3 :: rest).length := ⟨_, rfl⟩
            rw [← hn] at h2l ⊢
            have h2i : (2 : Int) < (n : Int) := by omega
            clear hcs' tl2 hn
            have f0 := HR3.out.free 0
            have f1 := HR3.out.free 1
            have f2 := HR3.out.free 2
            have f3 := HR3.out.free 3
            have f4 := HR3.out.free 4
            have f5 := HR3.out.free 5
            have d0 := HR3.out.at (o := 0) rfl
            have d1 := HR3.out.at (o := 1) rfl
            have d2 := HR3.out.at (o := 2) rfl
            have d3 := HR3.out.at (o := 3) rfl
            have d4 := HR3.out.at (o := 4) rfl
            have d5 := HR3.out.at (o := 5) rfl
            go_wp2_with fail
            clear d0 d1 d2 d3 d4 d5 f0 f1 f2 f3 f4 f5
            obtain ⟨Z, hZ⟩ : ∃ Z, Z = ((((((w3.setCell ⟨w.heap.size, 0, none⟩ (.bool false)).setCell ⟨w.heap.size, 1, none⟩ (.string ⟨#[]⟩)).setCell ⟨w.heap.size, 2, none⟩ (.string ⟨#[]⟩)).setCell ⟨w.heap.size, 3, none⟩ (.string ⟨#[]⟩)).setCell ⟨w.heap.size, 4, none⟩ (.int .i64 0)).setCell ⟨w.heap.size, 5, none⟩ (.int .i64 0)) := ⟨_, rfl⟩
            rw [← hZ]
            have hz : Blk Z w.heap.size [.bool false, str [], str [], str [], .int .i64 0, .int .i64 0] := by rw [hZ]; exact ((((((HR3.out.set 0 _).set 1 _).set 2 _).set 3 _).set 4 _).set 5 _)
            have hbz : Below w.heap.size w Z := by rw [hZ]; exact ((((((HB3.out.setCell (p := ⟨w.heap.size, 0, none⟩) (Nat.le_refl _) _).setCell (p := ⟨w.heap.size, 1, none⟩) (Nat.le_refl _) _).setCell (p := ⟨w.heap.size, 2, none⟩) (Nat.le_refl _) _).setCell (p := ⟨w.heap.size, 3, none⟩) (Nat.le_refl _) _).setCell (p := ⟨w.heap.size, 4, none⟩) (Nat.le_refl _) _).setCell (p := ⟨w.heap.size, 5, none⟩) (Nat.le_refl _) _)
            have r0 := hz.at (o := 0) rfl
            have r1 := hz.at (o := 1) rfl
            have r2 := hz.at (o := 2) rfl
            have r3 := hz.at (o := 3) rfl
            have r4 := hz.at (o := 4) rfl
            have r5 := hz.at (o := 5) rfl
            clear hZ hz
            exact bodyPost_ret (v := .tuple #[.agg #[.bool false, str [], str [], str [], .int .i64 0, .int .i64 0], .bool false]) (by simp [results, Tryz.results29, go_sem, r0, r1, r2, r3, r4, r5]) rfl ⟨rfl, hbz⟩
      · rw [show (([100, 101, 110, 121] : List UInt8) == allowS) = false from rfl]
        obtain ⟨T, hT⟩ : ∃ T, T = (if d = [42] then ((⟨false, a, b, c, 1, 65535⟩ : RuL), validB ⟨false, a, b, c, 1, 65535⟩)
            else if 2 < (spl 45 d).length then (⟨false, [], [], [], 0, 0⟩, false)
            else (⟨false, a, b, c, portN ((spl 45 d).getD 0 []), portN ((spl 45 d).getD ((spl 45 d).length - 1) [])⟩, validB ⟨false, a, b, c, portN ((spl 45 d).getD 0 []), portN ((spl 45 d).getD ((spl 45 d).length - 1) [])⟩)) := ⟨_, rfl⟩
        rw [← hT]
        have HT := Lib.hid hT
        clear hT
        go_enter Tryz.func29, Tryz.ntmps29
        go_wp2_with fail
        refine HS.out.mono ?_
        rintro e w1 ⟨u, rfl, hO, hB⟩
        rcases hO.form with ⟨_, h0⟩ | ⟨g, cap, rfl, hbg, hgl, hlc, hcm, hcs⟩
        · cases h0
        have e0 := hcs 0 (by simp)
        have e1 := hcs 1 (by simp)
        have e2 := hcs 2 (by simp)
        have e3 := hcs 3 (by simp)
        have e4 := hcs 4 (by simp)
        simp only [List.getElem_cons_zero, List.getElem_cons_succ, List.length_cons, List.length_nil, Nat.reduceAdd] at e0 e1 e2 e3 e4 hlc ⊢
        have HB1 := Lib.hid (HB0.out.trans (hB.mono HB0.out.size))
        have HR1 := Lib.hid (HK0.out.below hB HK0.out.lt)
        clear hO hB hcs HS hbg hgl
        go_wp2_with fail
        refine wp_region_noPanic ?_
        refine wp_region_held (S := fun W => W.cell? ⟨g, 0, none⟩ = some (str [100, 101, 110, 121]) ∧ W.cell? ⟨g, 1, none⟩ = some (str a) ∧ W.cell? ⟨g, 2, none⟩ = some (str b) ∧ W.cell? ⟨g, 3, none⟩ = some (str c) ∧ W.cell? ⟨g, 4, none⟩ = some (str d)) (by kernel_rfl) ?_
        change wpAnyH _ _ _ _ _ _ _ _ w1.drew
        have HXD := Lib.hid (show w1.drew.cell? ⟨g, 0, none⟩ = some (str [100, 101, 110, 121]) ∧ w1.drew.cell? ⟨g, 1, none⟩ = some (str a) ∧ w1.drew.cell? ⟨g, 2, none⟩ = some (str b) ∧ w1.drew.cell? ⟨g, 3, none⟩ = some (str c) ∧ w1.drew.cell? ⟨g, 4, none⟩ = some (str d) from ⟨e0, e1, e2, e3, e4⟩)
        refine takeH 0 25 (.slice (some ⟨g, 0, none⟩) 5 cap) rfl rfl (by kernel_rfl) (by kernel_rfl) (by kernel_rfl) (fun _ _ _ h => h) rfl (fun w' h => by obtain ⟨h0, h1, h2, h3, h4⟩ := h; go_simp) HXD.out ?_
        go_frame
        refine takeH 1 26 (.pointer (some ⟨g, 0, none⟩)) rfl rfl (by kernel_rfl) (by kernel_rfl) (by kernel_rfl) (fun _ _ _ h => h) rfl (fun w' h => by obtain ⟨h0, h1, h2, h3, h4⟩ := h; go_simp) HXD.out ?_
        go_frame
        refine takeH 2 27 (str [100, 101, 110, 121]) rfl rfl (by kernel_rfl) (by kernel_rfl) (by kernel_rfl) (fun _ _ _ h => h) rfl (fun w' h => by obtain ⟨h0, h1, h2, h3, h4⟩ := h; go_simp) HXD.out ?_
        go_frame
        refine takeH 3 28 (.bool false) rfl rfl (by kernel_rfl) (by kernel_rfl) (by kernel_rfl) (fun _ _ _ h => h) rfl (fun w' h => by obtain ⟨h0, h1, h2, h3, h4⟩ := h; go_simp) HXD.out ?_
        go_frame
        refine takeH 4 29 (.slice (some ⟨g, 0, none⟩) 5 cap) rfl rfl (by kernel_rfl) (by kernel_rfl) (by kernel_rfl) (fun _ _ _ h => h) rfl (fun w' h => by obtain ⟨h0, h1, h2, h3, h4⟩ := h; go_simp) HXD.out ?_
        go_frame
        refine takeH 5 30 (.pointer (some ⟨g, 1, none⟩)) rfl rfl (by kernel_rfl) (by kernel_rfl) (by kernel_rfl) (fun _ _ _ h => h) rfl (fun w' h => by obtain ⟨h0, h1, h2, h3, h4⟩ := h; go_simp) HXD.out ?_
        go_frame
        refine takeH 6 31 (str a) rfl rfl (by kernel_rfl) (by kernel_rfl) (by kernel_rfl) (fun _ _ _ h => h) rfl (fun w' h => by obtain ⟨h0, h1, h2, h3, h4⟩ := h; go_simp) HXD.out ?_
        go_frame
        refine takeH 7 32 (.slice (some ⟨g, 0, none⟩) 5 cap) rfl rfl (by kernel_rfl) (by kernel_rfl) (by kernel_rfl) (fun _ _ _ h => h) rfl (fun w' h => by obtain ⟨h0, h1, h2, h3, h4⟩ := h; go_simp) HXD.out ?_
        go_frame
        refine takeH 8 33 (.pointer (some ⟨g, 2, none⟩)) rfl rfl (by kernel_rfl) (by kernel_rfl) (by kernel_rfl) (fun _ _ _ h => h) rfl (fun w' h => by obtain ⟨h0, h1, h2, h3, h4⟩ := h; go_simp) HXD.out ?_
        go_frame
        refine takeH 9 34 (str b) rfl rfl (by kernel_rfl) (by kernel_rfl) (by kernel_rfl) (fun _ _ _ h => h) rfl (fun w' h => by obtain ⟨h0, h1, h2, h3, h4⟩ := h; go_simp) HXD.out ?_
        go_frame
        refine takeH 10 35 (.slice (some ⟨g, 0, none⟩) 5 cap) rfl rfl (by kernel_rfl) (by kernel_rfl) (by kernel_rfl) (fun _ _ _ h => h) rfl (fun w' h => by obtain ⟨h0, h1, h2, h3, h4⟩ := h; go_simp) HXD.out ?_
        go_frame
        refine takeH 11 36 (.pointer (some ⟨g, 3, none⟩)) rfl rfl (by kernel_rfl) (by kernel_rfl) (by kernel_rfl) (fun _ _ _ h => h) rfl (fun w' h => by obtain ⟨h0, h1, h2, h3, h4⟩ := h; go_simp) HXD.out ?_
        go_frame
        refine takeH 12 37 (str c) rfl rfl (by kernel_rfl) (by kernel_rfl) (by kernel_rfl) (fun _ _ _ h => h) rfl (fun w' h => by obtain ⟨h0, h1, h2, h3, h4⟩ := h; go_simp) HXD.out ?_
        go_frame
        refine takeH 13 38 (.agg #[.bool false, str a, str b, str c, .int .i64 1, .int .i64 65535]) rfl rfl (by kernel_rfl) (by kernel_rfl) (by kernel_rfl) (fun _ _ _ h => h) rfl (fun w' h => by obtain ⟨h0, h1, h2, h3, h4⟩ := h; go_simp) HXD.out ?_
        go_frame
        obtain ⟨Y, hY⟩ : ∃ Y, Y = w1.drew.alloc (.cells #[.bool false, str [], str [], str [], .int .i64 0, .int .i64 0] 33) := ⟨_, rfl⟩
        obtain ⟨p, hp⟩ : ∃ p, p = w1.heap.size := ⟨_, rfl⟩
        have hbX : Below w1.heap.size w1 Y := by rw [hY]; exact ((Below.refl _ w1).drew).alloc (Nat.le_refl _) _
        have hbl : Blk Y p [.bool false, str [], str [], str [], .int .i64 0, .int .i64 0] := by rw [hY, hp]; exact Blk.new w1.drew _ _
        have hY0 : Y.cell? ⟨g, 0, none⟩ = some (str [100, 101, 110, 121]) ∧ Y.cell? ⟨g, 1, none⟩ = some (str a) ∧ Y.cell? ⟨g, 2, none⟩ = some (str b) ∧ Y.cell? ⟨g, 3, none⟩ = some (str c) ∧ Y.cell? ⟨g, 4, none⟩ = some (str d) := ⟨cellB e0 hbX, cellB e1 hbX, cellB e2 hbX, cellB e3 hbX, cellB e4 hbX⟩
        refine wpAnyH_all (rs := [14]) (by kernel_rfl) (by simp) ?_
        simp only [List.mem_singleton, forall_eq]
        refine wpOp_valueX 5 rfl rfl rfl (.pointer (some ⟨p, 0, none⟩)) Y (by rw [hY, hp]; go_simp) ⟨hY0, ?_⟩
        go_frame
        have ht := hbl.there 0 6 (Nat.le_refl _)
        obtain ⟨Z, hZ⟩ : ∃ Z, Z = Y.setCells p 0 [.bool false, str a, str b, str c, .int .i64 1, .int .i64 65535] := ⟨_, rfl⟩
        have hbz : Below w1.heap.size w1 Z := by rw [hZ]; exact below_setCells (by omega) _ hbX 0
        have hzn : Blk Z p [.bool false, str a, str b, str c, .int .i64 1, .int .i64 65535] := by rw [hZ]; exact hbl.setAll rfl
        have hZ0 : Z.cell? ⟨g, 0, none⟩ = some (str [100, 101, 110, 121]) ∧ Z.cell? ⟨g, 1, none⟩ = some (str a) ∧ Z.cell? ⟨g, 2, none⟩ = some (str b) ∧ Z.cell? ⟨g, 3, none⟩ = some (str c) ∧ Z.cell? ⟨g, 4, none⟩ = some (str d) := ⟨cellB e0 hbz, cellB e1 hbz, cellB e2 hbz, cellB e3 hbz, cellB e4 hbz⟩
        refine wpAnyH_all (rs := [15]) (by kernel_rfl) (by simp) ?_
        simp only [List.mem_singleton, forall_eq]
        refine wpOp_storeN rfl rfl rfl 33 (.tmp 5) (.tmp 38) rfl p 0 #[.bool false, str a, str b, str c, .int .i64 1, .int .i64 65535] rfl rfl ht (by kernel_rfl) (by simp [Value.oneCell']) ?_
        rw [show (#[.bool false, str a, str b, str c, .int .i64 1, .int .i64 65535] : Array Value).toList = [.bool false, str a, str b, str c, .int .i64 1, .int .i64 65535] from rfl, ← hZ]
        refine ⟨hZ0, wpAnyH_done (by kernel_rfl) ?_ _⟩
        refine NoPanic.normal ?_
        have HPW := Lib.hid (show w.heap.size < p from by have := HB1.out.size; have := HR1.out.lt; omega)
        have HB2 := Lib.hid (HB1.out.trans (hbz.mono HB1.out.size))
        have HR2 := Lib.hid (HR1.out.below hbz HR1.out.lt)
        have HP2 := Lib.hid hzn
        have d4 := hZ0.2.2.2.2
        have HW4 := Lib.hid d4
        clear hY hp hbX hbl hY0 ht hZ hbz hzn hZ0 e0 e1 e2 e3 e4 HXD
        by_cases hd : d = [42]
        · obtain rfl : T = ((⟨false, a, b, c, 1, 65535⟩ : RuL), validB ⟨false, a, b, c, 1, 65535⟩) := HT.out.trans (if_pos hd)
          subst hd
          clear HT
          go_wp2_with fail
          refine wp_region_noPanic ?_
          refine wp_region_held (S := fun W => W.cell? ⟨p, 0, none⟩ = some (.bool false) ∧ W.cell? ⟨p, 1, none⟩ = some (str a) ∧ W.cell? ⟨p, 2, none⟩ = some (str b) ∧ W.cell? ⟨p, 3, none⟩ = some (str c) ∧ W.cell? ⟨p, 4, none⟩ = some (.int .i64 1) ∧ W.cell? ⟨p, 5, none⟩ = some (.int .i64 65535)) (by kernel_rfl) ?_
          change wpAnyH _ _ _ _ _ _ _ _ Z.drew
          have HSIX := Lib.hid (fun W (h : Blk W p [.bool false, str a, str b, str c, .int .i64 1, .int .i64 65535]) => (show W.cell? ⟨p, 0, none⟩ = some (.bool false) ∧ W.cell? ⟨p, 1, none⟩ = some (str a) ∧ W.cell? ⟨p, 2, none⟩ = some (str b) ∧ W.cell? ⟨p, 3, none⟩ = some (str c) ∧ W.cell? ⟨p, 4, none⟩ = some (.int .i64 1) ∧ W.cell? ⟨p, 5, none⟩ = some (.int .i64 65535) from ⟨h.at (o := 0) rfl, h.at (o := 1) rfl, h.at (o := 2) rfl, h.at (o := 3) rfl, h.at (o := 4) rfl, h.at (o := 5) rfl⟩))
          have HXD := Lib.hid (HSIX.out Z.drew HP2.out.drew)
          refine takeH 0 64 (.agg #[.bool false, str a, str b, str c, .int .i64 1, .int .i64 65535]) rfl rfl (by kernel_rfl) (by kernel_rfl) (by kernel_rfl) (fun _ _ _ h => h) rfl (fun w' h => by obtain ⟨h0, h1, h2, h3, h4, h5⟩ := h; go_simp) HXD.out ?_
          go_frame
          refine takeH 1 65 (.agg #[.bool false, str a, str b, str c, .int .i64 1, .int .i64 65535]) rfl rfl (by kernel_rfl) (by kernel_rfl) (by kernel_rfl) (fun _ _ _ h => h) rfl (fun w' h => by obtain ⟨h0, h1, h2, h3, h4, h5⟩ := h; go_simp) HXD.out ?_
          go_frame
          refine wpAnyH_all (rs := [2]) (by kernel_rfl) (by simp) ?_
          simp only [List.mem_singleton, forall_eq]
          refine wpOp_callD 66 rfl rfl rfl 18 #[.agg #[.bool false, str a, str b, str c, .int .i64 1, .int .i64 65535]] (by go_simp) ?_
          refine (right_any ⟨false, a, b, c, 1, 65535⟩ Z.drew ⟨by show a.length ≤ 5000; omega, by show b.length ≤ 5000; omega, by show c.length ≤ 5000; omega⟩).mono ?_
          rintro e W7 ⟨rfl, hB7⟩
          have hk7 := HP2.out.drew.below hB7 HP2.out.drew.lt
          have hr7 := HR2.out.drew.below hB7 HR2.out.drew.lt
          have hb7 : Below w.heap.size w W7 := (HB2.out.drew).trans (hB7.mono HB2.out.size)
          refine ⟨_, rfl, HSIX.out _ hk7, ?_⟩
          go_frame
          have ht7 := hr7.there 0 6 (Nat.le_refl _)
          obtain ⟨Z7, hZ7⟩ : ∃ Z7, Z7 = W7.setCells w.heap.size 0 [.bool false, str a, str b, str c, .int .i64 1, .int .i64 65535] := ⟨_, rfl⟩
          have hz7 : Blk Z7 w.heap.size [.bool false, str a, str b, str c, .int .i64 1, .int .i64 65535] := by rw [hZ7]; exact hr7.setAll rfl
          have hbz7 : Below w.heap.size w Z7 := by rw [hZ7]; exact below_setCells (Nat.le_refl _) _ hb7 0
          have hk8 : Blk Z7 p [.bool false, str a, str b, str c, .int .i64 1, .int .i64 65535] := by rw [hZ7]; exact hk7.grown (grown_setCells _ _ _ _) (by have := HPW.out; simp; omega)
          have HX7 := Lib.hid (HSIX.out _ hk8)
          refine wpAnyH_all (rs := [3]) (by kernel_rfl) (by simp) ?_
          simp only [List.mem_singleton, forall_eq]
          refine wpOp_storeN rfl rfl rfl 33 (.tmp 2) (.tmp 64) rfl w.heap.size 0 #[.bool false, str a, str b, str c, .int .i64 1, .int .i64 65535] rfl rfl ht7 (by kernel_rfl) (by simp [Value.oneCell']) ?_
          rw [show (#[.bool false, str a, str b, str c, .int .i64 1, .int .i64 65535] : Array Value).toList = [.bool false, str a, str b, str c, .int .i64 1, .int .i64 65535] from rfl, ← hZ7]
          refine ⟨HX7.out, ?_⟩
          obtain ⟨P, hP⟩ : ∃ P, P = validB ⟨false, a, b, c, 1, 65535⟩ := ⟨_, rfl⟩
          try rw [← hP]
          refine takeH 4 3 (.bool (validB ⟨false, a, b, c, 1, 65535⟩)) rfl rfl (by kernel_rfl) (by kernel_rfl) (by kernel_rfl) (fun _ _ _ h => h) rfl (fun w' _ => by first | go_simp | (go_simp; rw [hP])) HX7.out ?_
          go_frame
          refine wpAnyH_done (by kernel_rfl) ?_ _
          refine NoPanic.normal ?_
          have r0 := hz7.at (o := 0) rfl
          have r1 := hz7.at (o := 1) rfl
          have r2 := hz7.at (o := 2) rfl
          have r3 := hz7.at (o := 3) rfl
          have r4 := hz7.at (o := 4) rfl
          have r5 := hz7.at (o := 5) rfl
          have HBZ7 := Lib.hid hbz7
          clear hZ7 hz7 hbz7 hk8 ht7 hk7 hr7 hb7 hB7 HX7 HSIX HXD hP
          go_wp2_with fail
          exact bodyPost_ret (v := .tuple #[.agg #[.bool false, str a, str b, str c, .int .i64 1, .int .i64 65535], .bool (validB ⟨false, a, b, c, 1, 65535⟩)]) (by simp [results, Tryz.results29, go_sem, r0, r1, r2, r3, r4, r5]) rfl ⟨rfl, HBZ7.out⟩
        · have hT := HT.out
          rw [if_neg hd] at hT
          clear HT
          have HSD := Lib.hid (fun W => (show Calls Tryz.prog 47 #[str d, .int .u8 45] W _ from refSplit_any d 45 W (by omega)))
          obtain ⟨tl1, tl2⟩ := spl_len (c := 45) d
          have hne2 := spl_ne 45 d
          have hdq : (d == [42]) = false := by rw [beq_eq_false_iff_ne]; exact hd
          clear hd
          have HT := Lib.hid hT
          clear hT
          go_wp2_with fail
          refine (HSD.out _).mono ?_
          rintro e w3 ⟨u, rfl, hO, hB⟩
          rcases hO.form with ⟨_, h0⟩ | ⟨gp, cp, rfl, hbg, hgl, hlc2, hcm2, hcs⟩
          · exact absurd h0 hne2
          have HB3 := Lib.hid (HB2.out.trans (hB.mono HB2.out.size))
          have HR3 := Lib.hid (HR2.out.below hB HR2.out.lt)
          have HP3 := Lib.hid (HP2.out.below hB HP2.out.lt)
          obtain ⟨ps, hps⟩ : ∃ ps, ps = spl 45 d := ⟨_, rfl⟩
          have hT := HT.out
          rw [← hps] at hne2 hlc2 tl2 hT ⊢
          clear HT
          have hcs' : ∀ j (hj : j < ps.length), w3.cell? ⟨gp, j, none⟩ = some (str ps[j]) := by rw [hps]; exact hcs
          have gpn : gp ≠ p := by have := HP2.out.lt; omega
          clear hO hB hcs HSD hbg hgl hps d4
          match ps, hne2, hlc2, hcs', tl2, hT with
          | [x1], _, _, hcs', tl2, hT =>
            obtain rfl : T = ((⟨false, a, b, c, portN x1, portN x1⟩ : RuL), validB ⟨false, a, b, c, portN x1, portN x1⟩) := hT.trans (if_neg (by simp))
            clear hT
            have c0 := hcs' 0 (by simp)
            have cl := c0
            have l1 := tl2 x1 (by simp)
            simp only [List.getElem_cons_zero, List.length_cons, List.length_nil, Nat.reduceAdd] at c0 cl ⊢
            clear hcs' tl2
            go_wp2_with fail
            obtain ⟨x, hx⟩ : ∃ x, x = portN x1 := ⟨_, rfl⟩
            obtain ⟨y, hy⟩ : ∃ y, y = portN x1 := ⟨_, rfl⟩
            have HC1 := Lib.hid (fun W => refPort_any x1 W (by omega))
            have HC2 := Lib.hid (fun W => refPort_any x1 W (by omega))
            rw [← hx] at HC1
            rw [← hy] at HC2
            try rw [← hx]
            try rw [← hy]
            refine wp_region_noPanic ?_
            refine wp_region_held (S := fun W => W.cell? ⟨gp, 0, none⟩ = some (str x1) ∧ W.cell? ⟨gp, 0, none⟩ = some (str x1)) (by kernel_rfl) ?_
            change wpAnyH _ _ _ _ _ _ _ _ w3.drew
            obtain ⟨V, hV⟩ : ∃ V, V = w3.drew := ⟨_, rfl⟩
            have HBV := Lib.hid (show Below w.heap.size w V from by rw [hV]; exact HB3.out.drew)
            have HRV := Lib.hid (show Blk V w.heap.size [.bool false, str [], str [], str [], .int .i64 0, .int .i64 0] from by rw [hV]; exact HR3.out.drew)
            have HPV := Lib.hid (show Blk V p [.bool false, str a, str b, str c, .int .i64 1, .int .i64 65535] from by rw [hV]; exact HP3.out.drew)
            have HXD := Lib.hid (show V.cell? ⟨gp, 0, none⟩ = some (str x1) ∧ V.cell? ⟨gp, 0, none⟩ = some (str x1) from by rw [hV]; exact ⟨c0, cl⟩)
            rw [← hV]
            have HX1 := Lib.hid hx
            have HY1 := Lib.hid hy
            clear hV hx hy
            refine takeH 0 51 (.slice (some ⟨gp, 0, none⟩) 1 cp) rfl rfl (by kernel_rfl) (by kernel_rfl) (by kernel_rfl) (fun _ _ _ h => h) rfl (fun w' h => by obtain ⟨h0, h1⟩ := h; go_simp) HXD.out ?_
            go_frame
            refine takeH 1 52 (.pointer (some ⟨gp, 0, none⟩)) rfl rfl (by kernel_rfl) (by kernel_rfl) (by kernel_rfl) (fun _ _ _ h => h) rfl (fun w' h => by obtain ⟨h0, h1⟩ := h; go_simp) HXD.out ?_
            go_frame
            refine takeH 2 53 (str x1) rfl rfl (by kernel_rfl) (by kernel_rfl) (by kernel_rfl) (fun _ _ _ h => h) rfl (fun w' h => by obtain ⟨h0, h1⟩ := h; go_simp) HXD.out ?_
            go_frame
            refine takeH 4 55 (.slice (some ⟨gp, 0, none⟩) 1 cp) rfl rfl (by kernel_rfl) (by kernel_rfl) (by kernel_rfl) (fun _ _ _ h => h) rfl (fun w' h => by obtain ⟨h0, h1⟩ := h; go_simp) HXD.out ?_
            go_frame
            refine takeH 5 56 (.slice (some ⟨gp, 0, none⟩) 1 cp) rfl rfl (by kernel_rfl) (by kernel_rfl) (by kernel_rfl) (fun _ _ _ h => h) rfl (fun w' h => by obtain ⟨h0, h1⟩ := h; go_simp) HXD.out ?_
            go_frame
            refine takeH 6 57 (.int .i64 1) rfl rfl (by kernel_rfl) (by kernel_rfl) (by kernel_rfl) (fun _ _ _ h => h) rfl (fun w' h => by obtain ⟨h0, h1⟩ := h; go_simp) HXD.out ?_
            go_frame
            refine takeH 7 58 (.int .i64 0) rfl rfl (by kernel_rfl) (by kernel_rfl) (by kernel_rfl) (fun _ _ _ h => h) rfl (fun w' h => by obtain ⟨h0, h1⟩ := h; first | (go_simp; done) | (go_simp; rfl)) HXD.out ?_
            go_frame
            refine takeH 8 59 (.pointer (some ⟨gp, 0, none⟩)) rfl rfl (by kernel_rfl) (by kernel_rfl) (by kernel_rfl) (fun _ _ _ h => h) rfl (fun w' h => by obtain ⟨h0, h1⟩ := h; go_simp) HXD.out ?_
            go_frame
            refine takeH 9 60 (str x1) rfl rfl (by kernel_rfl) (by kernel_rfl) (by kernel_rfl) (fun _ _ _ h => h) rfl (fun w' h => by obtain ⟨h0, h1⟩ := h; go_simp) HXD.out ?_
            go_frame
            refine wpAnyH_all (rs := [3]) (by kernel_rfl) (by simp) ?_
            simp only [List.mem_singleton, forall_eq]
            refine wpOp_callD 54 rfl rfl rfl 48 #[str x1] (by go_simp) ?_
            refine (HC1.out _).mono ?_
            rintro e V1 ⟨rfl, rfl⟩
            refine ⟨_, rfl, HXD.out, ?_⟩
            go_frame
            refine takeH 11 62 (.pointer (some ⟨p, 4, none⟩)) rfl rfl (by kernel_rfl) (by kernel_rfl) (by kernel_rfl) (fun _ _ _ h => h) rfl (fun w' h => by obtain ⟨h0, h1⟩ := h; go_simp) HXD.out ?_
            go_frame
            refine wpAnyH_all (rs := [10]) (by kernel_rfl) (by simp) ?_
            simp only [List.mem_singleton, forall_eq]
            refine wpOp_callD 61 rfl rfl rfl 48 #[str x1] (by go_simp) ?_
            refine (HC2.out _).mono ?_
            rintro e V1 ⟨rfl, rfl⟩
            refine ⟨_, rfl, HXD.out, ?_⟩
            go_frame
            have HNG := Lib.hid (show gp ≠ p from gpn)
            obtain ⟨Y, hY⟩ : ∃ Y, Y = V.setCell ⟨p, 4, none⟩ (.int .i64 x) := ⟨_, rfl⟩
            have HPY := Lib.hid (show Blk Y p [.bool false, str a, str b, str c, .int .i64 x, .int .i64 65535] from by rw [hY]; exact HPV.out.set 4 _)
            have HRY := Lib.hid (show Blk Y w.heap.size [.bool false, str [], str [], str [], .int .i64 0, .int .i64 0] from by rw [hY]; exact HRV.out.setOther (a := ⟨p, 4, none⟩) (by show p ≠ w.heap.size; have := HPW.out; omega) _)
            have HBY := Lib.hid (show Below w.heap.size w Y from by rw [hY]; exact HBV.out.setCell (p := ⟨p, 4, none⟩) (by show w.heap.size ≤ p; have := HPW.out; omega) _)
            have HXY := Lib.hid (show Y.cell? ⟨gp, 0, none⟩ = some (str x1) ∧ Y.cell? ⟨gp, 0, none⟩ = some (str x1) from by rw [hY]; exact ⟨(World.cell?_setCell_far _ _ _ _ (fun e => HNG.out e.symm)).trans HXD.out.1, (World.cell?_setCell_far _ _ _ _ (fun e => HNG.out e.symm)).trans HXD.out.2⟩)
            refine wpAnyH_all (rs := [12]) (by kernel_rfl) (by simp) ?_
            simp only [List.mem_singleton, forall_eq]
            have k4 := HPV.out.at (o := 4) rfl
            have q4 := HPV.out.free 4
            refine wpOp_storeQ rfl rfl rfl (w' := Y) (by rw [hY]; go_simp) ?_
            clear k4 q4
            refine ⟨HXY.out, ?_⟩
            clear hY
            refine takeH 13 63 (.pointer (some ⟨p, 5, none⟩)) rfl rfl (by kernel_rfl) (by kernel_rfl) (by kernel_rfl) (fun _ _ _ h => h) rfl (fun w' h => by obtain ⟨h0, h1⟩ := h; go_simp) HXY.out ?_
            go_frame
            obtain ⟨Z, hZ⟩ : ∃ Z, Z = Y.setCell ⟨p, 5, none⟩ (.int .i64 y) := ⟨_, rfl⟩
            have HP4 := Lib.hid (show Blk Z p [.bool false, str a, str b, str c, .int .i64 x, .int .i64 y] from by rw [hZ]; exact HPY.out.set 5 _)
            have HR4 := Lib.hid (show Blk Z w.heap.size [.bool false, str [], str [], str [], .int .i64 0, .int .i64 0] from by rw [hZ]; exact HRY.out.setOther (a := ⟨p, 5, none⟩) (by show p ≠ w.heap.size; have := HPW.out; omega) _)
            have HB4 := Lib.hid (show Below w.heap.size w Z from by rw [hZ]; exact HBY.out.setCell (p := ⟨p, 5, none⟩) (by show w.heap.size ≤ p; have := HPW.out; omega) _)
            have HXZ := Lib.hid (show Z.cell? ⟨gp, 0, none⟩ = some (str x1) ∧ Z.cell? ⟨gp, 0, none⟩ = some (str x1) from by rw [hZ]; exact ⟨(World.cell?_setCell_far _ _ _ _ (fun e => HNG.out e.symm)).trans HXY.out.1, (World.cell?_setCell_far _ _ _ _ (fun e => HNG.out e.symm)).trans HXY.out.2⟩)
            refine wpAnyH_all (rs := [14]) (by kernel_rfl) (by simp) ?_
            simp only [List.mem_singleton, forall_eq]
            have k5 := HPY.out.at (o := 5) rfl
            have q5 := HPY.out.free 5
            refine wpOp_storeQ rfl rfl rfl (w' := Z) (by rw [hZ]; go_simp) ?_
            clear k5 q5
            refine ⟨HXZ.out, wpAnyH_done (by kernel_rfl) ?_ _⟩
            refine NoPanic.normal ?_
            clear hZ HXD HXY HXZ HPV HRV HBV HPY HRY HBY
            go_wp2_with fail
            refine wp_region_noPanic ?_
            refine wp_region_held (S := fun W => W.cell? ⟨p, 0, none⟩ = some (.bool false) ∧ W.cell? ⟨p, 1, none⟩ = some (str a) ∧ W.cell? ⟨p, 2, none⟩ = some (str b) ∧ W.cell? ⟨p, 3, none⟩ = some (str c) ∧ W.cell? ⟨p, 4, none⟩ = some (.int .i64 x) ∧ W.cell? ⟨p, 5, none⟩ = some (.int .i64 y)) (by kernel_rfl) ?_
            change wpAnyH _ _ _ _ _ _ _ _ Z.drew
            have HSIX := Lib.hid (fun W (h : Blk W p [.bool false, str a, str b, str c, .int .i64 x, .int .i64 y]) => (show W.cell? ⟨p, 0, none⟩ = some (.bool false) ∧ W.cell? ⟨p, 1, none⟩ = some (str a) ∧ W.cell? ⟨p, 2, none⟩ = some (str b) ∧ W.cell? ⟨p, 3, none⟩ = some (str c) ∧ W.cell? ⟨p, 4, none⟩ = some (.int .i64 x) ∧ W.cell? ⟨p, 5, none⟩ = some (.int .i64 y) from ⟨h.at (o := 0) rfl, h.at (o := 1) rfl, h.at (o := 2) rfl, h.at (o := 3) rfl, h.at (o := 4) rfl, h.at (o := 5) rfl⟩))
            have HXD := Lib.hid (HSIX.out Z.drew HP4.out.drew)
            refine takeH 0 64 (.agg #[.bool false, str a, str b, str c, .int .i64 x, .int .i64 y]) rfl rfl (by kernel_rfl) (by kernel_rfl) (by kernel_rfl) (fun _ _ _ h => h) rfl (fun w' h => by obtain ⟨h0, h1, h2, h3, h4, h5⟩ := h; go_simp) HXD.out ?_
            go_frame
            refine takeH 1 65 (.agg #[.bool false, str a, str b, str c, .int .i64 x, .int .i64 y]) rfl rfl (by kernel_rfl) (by kernel_rfl) (by kernel_rfl) (fun _ _ _ h => h) rfl (fun w' h => by obtain ⟨h0, h1, h2, h3, h4, h5⟩ := h; go_simp) HXD.out ?_
            go_frame
            refine wpAnyH_all (rs := [2]) (by kernel_rfl) (by simp) ?_
            simp only [List.mem_singleton, forall_eq]
            refine wpOp_callD 66 rfl rfl rfl 18 #[.agg #[.bool false, str a, str b, str c, .int .i64 x, .int .i64 y]] (by go_simp) ?_
            refine (right_any ⟨false, a, b, c, x, y⟩ Z.drew ⟨by show a.length ≤ 5000; omega, by show b.length ≤ 5000; omega, by show c.length ≤ 5000; omega⟩).mono ?_
            rintro e W7 ⟨rfl, hB7⟩
            have hk7 := HP4.out.drew.below hB7 HP4.out.drew.lt
            have hr7 := HR4.out.drew.below hB7 HR4.out.drew.lt
            have hb7 : Below w.heap.size w W7 := (HB4.out.drew).trans (hB7.mono HB4.out.size)
            refine ⟨_, rfl, HSIX.out _ hk7, ?_⟩
            go_frame
            have ht7 := hr7.there 0 6 (Nat.le_refl _)
            obtain ⟨Z7, hZ7⟩ : ∃ Z7, Z7 = W7.setCells w.heap.size 0 [.bool false, str a, str b, str c, .int .i64 x, .int .i64 y] := ⟨_, rfl⟩
            have hz7 : Blk Z7 w.heap.size [.bool false, str a, str b, str c, .int .i64 x, .int .i64 y] := by rw [hZ7]; exact hr7.setAll rfl
            have hbz7 : Below w.heap.size w Z7 := by rw [hZ7]; exact below_setCells (Nat.le_refl _) _ hb7 0
            have hk8 : Blk Z7 p [.bool false, str a, str b, str c, .int .i64 x, .int .i64 y] := by rw [hZ7]; exact hk7.grown (grown_setCells _ _ _ _) (by have := HPW.out; simp; omega)
            have HX7 := Lib.hid (HSIX.out _ hk8)
            refine wpAnyH_all (rs := [3]) (by kernel_rfl) (by simp) ?_
            simp only [List.mem_singleton, forall_eq]
            refine wpOp_storeN rfl rfl rfl 33 (.tmp 2) (.tmp 64) rfl w.heap.size 0 #[.bool false, str a, str b, str c, .int .i64 x, .int .i64 y] rfl rfl ht7 (by kernel_rfl) (by simp [Value.oneCell']) ?_
            rw [show (#[.bool false, str a, str b, str c, .int .i64 x, .int .i64 y] : Array Value).toList = [.bool false, str a, str b, str c, .int .i64 x, .int .i64 y] from rfl, ← hZ7]
            refine ⟨HX7.out, ?_⟩
            obtain ⟨P, hP⟩ : ∃ P, P = validB ⟨false, a, b, c, x, y⟩ := ⟨_, rfl⟩
            try rw [← hP]
            refine takeH 4 3 (.bool (validB ⟨false, a, b, c, x, y⟩)) rfl rfl (by kernel_rfl) (by kernel_rfl) (by kernel_rfl) (fun _ _ _ h => h) rfl (fun w' _ => by first | go_simp | (go_simp; rw [hP])) HX7.out ?_
            go_frame
            refine wpAnyH_done (by kernel_rfl) ?_ _
            refine NoPanic.normal ?_
            have r0 := hz7.at (o := 0) rfl
            have r1 := hz7.at (o := 1) rfl
            have r2 := hz7.at (o := 2) rfl
            have r3 := hz7.at (o := 3) rfl
            have r4 := hz7.at (o := 4) rfl
            have r5 := hz7.at (o := 5) rfl
            have HBZ7 := Lib.hid hbz7
            clear hZ7 hz7 hbz7 hk8 ht7 hk7 hr7 hb7 hB7 HX7 HSIX HXD hP
            go_wp2_with fail
            exact bodyPost_ret (v := .tuple #[.agg #[.bool false, str a, str b, str c, .int .i64 x, .int .i64 y], .bool (validB ⟨false, a, b, c, x, y⟩)]) (by simp [results, Tryz.results29, go_sem, r0, r1, r2, r3, r4, r5]) rfl ⟨by rw [HX1.out, HY1.out], HBZ7.out⟩
          | [x1, x2], _, _, hcs', tl2, hT =>
            obtain rfl : T = ((⟨false, a, b, c, portN x1, portN x2⟩ : RuL), validB ⟨false, a, b, c, portN x1, portN x2⟩) := hT.trans (if_neg (by simp))
            clear hT
            have c0 := hcs' 0 (by simp)
            have cl := hcs' 1 (by simp)
            have l1 := tl2 x1 (by simp)
            have l2 := tl2 x2 (by simp)
            simp only [List.getElem_cons_zero, List.getElem_cons_succ, List.length_cons, List.length_nil, Nat.reduceAdd] at c0 cl ⊢
            clear hcs' tl2
            go_wp2_with fail
            obtain ⟨x, hx⟩ : ∃ x, x = portN x1 := ⟨_, rfl⟩
            obtain ⟨y, hy⟩ : ∃ y, y = portN x2 := ⟨_, rfl⟩
            have HC1 := Lib.hid (fun W => refPort_any x1 W (by omega))
            have HC2 := Lib.hid (fun W => refPort_any x2 W (by omega))
            rw [← hx] at HC1
            rw [← hy] at HC2
            try rw [← hx]
            try rw [← hy]
            refine wp_region_noPanic ?_
            refine wp_region_held (S := fun W => W.cell? ⟨gp, 0, none⟩ = some (str x1) ∧ W.cell? ⟨gp, 1, none⟩ = some (str x2)) (by kernel_rfl) ?_
            change wpAnyH _ _ _ _ _ _ _ _ w3.drew
            obtain ⟨V, hV⟩ : ∃ V, V = w3.drew := ⟨_, rfl⟩
            have HBV := Lib.hid (show Below w.heap.size w V from by rw [hV]; exact HB3.out.drew)
            have HRV := Lib.hid (show Blk V w.heap.size [.bool false, str [], str [], str [], .int .i64 0, .int .i64 0] from by rw [hV]; exact HR3.out.drew)
            have HPV := Lib.hid (show Blk V p [.bool false, str a, str b, str c, .int .i64 1, .int .i64 65535] from by rw [hV]; exact HP3.out.drew)
            have HXD := Lib.hid (show V.cell? ⟨gp, 0, none⟩ = some (str x1) ∧ V.cell? ⟨gp, 1, none⟩ = some (str x2) from by rw [hV]; exact ⟨c0, cl⟩)
            rw [← hV]
            have HX1 := Lib.hid hx
            have HY1 := Lib.hid hy
            clear hV hx hy
            refine takeH 0 51 (.slice (some ⟨gp, 0, none⟩) 2 cp) rfl rfl (by kernel_rfl) (by kernel_rfl) (by kernel_rfl) (fun _ _ _ h => h) rfl (fun w' h => by obtain ⟨h0, h1⟩ := h; go_simp) HXD.out ?_
            go_frame
            refine takeH 1 52 (.pointer (some ⟨gp, 0, none⟩)) rfl rfl (by kernel_rfl) (by kernel_rfl) (by kernel_rfl) (fun _ _ _ h => h) rfl (fun w' h => by obtain ⟨h0, h1⟩ := h; go_simp) HXD.out ?_
            go_frame
            refine takeH 2 53 (str x1) rfl rfl (by kernel_rfl) (by kernel_rfl) (by kernel_rfl) (fun _ _ _ h => h) rfl (fun w' h => by obtain ⟨h0, h1⟩ := h; go_simp) HXD.out ?_
            go_frame
            refine takeH 4 55 (.slice (some ⟨gp, 0, none⟩) 2 cp) rfl rfl (by kernel_rfl) (by kernel_rfl) (by kernel_rfl) (fun _ _ _ h => h) rfl (fun w' h => by obtain ⟨h0, h1⟩ := h; go_simp) HXD.out ?_
            go_frame
            refine takeH 5 56 (.slice (some ⟨gp, 0, none⟩) 2 cp) rfl rfl (by kernel_rfl) (by kernel_rfl) (by kernel_rfl) (fun _ _ _ h => h) rfl (fun w' h => by obtain ⟨h0, h1⟩ := h; go_simp) HXD.out ?_
            go_frame
            refine takeH 6 57 (.int .i64 2) rfl rfl (by kernel_rfl) (by kernel_rfl) (by kernel_rfl) (fun _ _ _ h => h) rfl (fun w' h => by obtain ⟨h0, h1⟩ := h; go_simp) HXD.out ?_
            go_frame
            refine takeH 7 58 (.int .i64 1) rfl rfl (by kernel_rfl) (by kernel_rfl) (by kernel_rfl) (fun _ _ _ h => h) rfl (fun w' h => by obtain ⟨h0, h1⟩ := h; first | (go_simp; done) | (go_simp; rfl)) HXD.out ?_
            go_frame
            refine takeH 8 59 (.pointer (some ⟨gp, 1, none⟩)) rfl rfl (by kernel_rfl) (by kernel_rfl) (by kernel_rfl) (fun _ _ _ h => h) rfl (fun w' h => by obtain ⟨h0, h1⟩ := h; go_simp) HXD.out ?_
            go_frame
            refine takeH 9 60 (str x2) rfl rfl (by kernel_rfl) (by kernel_rfl) (by kernel_rfl) (fun _ _ _ h => h) rfl (fun w' h => by obtain ⟨h0, h1⟩ := h; go_simp) HXD.out ?_
            go_frame
            refine wpAnyH_all (rs := [3]) (by kernel_rfl) (by simp) ?_
            simp only [List.mem_singleton, forall_eq]
            refine wpOp_callD 54 rfl rfl rfl 48 #[str x1] (by go_simp) ?_
            refine (HC1.out _).mono ?_
            rintro e V1 ⟨rfl, rfl⟩
            refine ⟨_, rfl, HXD.out, ?_⟩
            go_frame
            refine takeH 11 62 (.pointer (some ⟨p, 4, none⟩)) rfl rfl (by kernel_rfl) (by kernel_rfl) (by kernel_rfl) (fun _ _ _ h => h) rfl (fun w' h => by obtain ⟨h0, h1⟩ := h; go_simp) HXD.out ?_
            go_frame
            refine wpAnyH_all (rs := [10]) (by kernel_rfl) (by simp) ?_
            simp only [List.mem_singleton, forall_eq]
            refine wpOp_callD 61 rfl rfl rfl 48 #[str x2] (by go_simp) ?_
            refine (HC2.out _).mono ?_
            rintro e V1 ⟨rfl, rfl⟩
            refine ⟨_, rfl, HXD.out, ?_⟩
            go_frame
            have HNG := Lib.hid (show gp ≠ p from gpn)
            obtain ⟨Y, hY⟩ : ∃ Y, Y = V.setCell ⟨p, 4, none⟩ (.int .i64 x) := ⟨_, rfl⟩
            have HPY := Lib.hid (show Blk Y p [.bool false, str a, str b, str c, .int .i64 x, .int .i64 65535] from by rw [hY]; exact HPV.out.set 4 _)
            have HRY := Lib.hid (show Blk Y w.heap.size [.bool false, str [], str [], str [], .int .i64 0, .int .i64 0] from by rw [hY]; exact HRV.out.setOther (a := ⟨p, 4, none⟩) (by show p ≠ w.heap.size; have := HPW.out; omega) _)
            have HBY := Lib.hid (show Below w.heap.size w Y from by rw [hY]; exact HBV.out.setCell (p := ⟨p, 4, none⟩) (by show w.heap.size ≤ p; have := HPW.out; omega) _)
            have HXY := Lib.hid (show Y.cell? ⟨gp, 0, none⟩ = some (str x1) ∧ Y.cell? ⟨gp, 1, none⟩ = some (str x2) from by rw [hY]; exact ⟨(World.cell?_setCell_far _ _ _ _ (fun e => HNG.out e.symm)).trans HXD.out.1, (World.cell?_setCell_far _ _ _ _ (fun e => HNG.out e.symm)).trans HXD.out.2⟩)
            refine wpAnyH_all (rs := [12]) (by kernel_rfl) (by simp) ?_
            simp only [List.mem_singleton, forall_eq]
            have k4 := HPV.out.at (o := 4) rfl
            have q4 := HPV.out.free 4
            refine wpOp_storeQ rfl rfl rfl (w' := Y) (by rw [hY]; go_simp) ?_
            clear k4 q4
            refine ⟨HXY.out, ?_⟩
            clear hY
            refine takeH 13 63 (.pointer (some ⟨p, 5, none⟩)) rfl rfl (by kernel_rfl) (by kernel_rfl) (by kernel_rfl) (fun _ _ _ h => h) rfl (fun w' h => by obtain ⟨h0, h1⟩ := h; go_simp) HXY.out ?_
            go_frame
            obtain ⟨Z, hZ⟩ : ∃ Z, Z = Y.setCell ⟨p, 5, none⟩ (.int .i64 y) := ⟨_, rfl⟩
            have HP4 := Lib.hid (show Blk Z p [.bool false, str a, str b, str c, .int .i64 x, .int .i64 y] from by rw [hZ]; exact HPY.out.set 5 _)
            have HR4 := Lib.hid (show Blk Z w.heap.size [.bool false, str [], str [], str [], .int .i64 0, .int .i64 0] from by rw [hZ]; exact HRY.out.setOther (a := ⟨p, 5, none⟩) (by show p ≠ w.heap.size; have := HPW.out; omega) _)
            have HB4 := Lib.hid (show Below w.heap.size w Z from by rw [hZ]; exact HBY.out.setCell (p := ⟨p, 5, none⟩) (by show w.heap.size ≤ p; have := HPW.out; omega) _)
            have HXZ := Lib.hid (show Z.cell? ⟨gp, 0, none⟩ = some (str x1) ∧ Z.cell? ⟨gp, 1, none⟩ = some (str x2) from by rw [hZ]; exact ⟨(World.cell?_setCell_far _ _ _ _ (fun e => HNG.out e.symm)).trans HXY.out.1, (World.cell?_setCell_far _ _ _ _ (fun e => HNG.out e.symm)).trans HXY.out.2⟩)
            refine wpAnyH_all (rs := [14]) (by kernel_rfl) (by simp) ?_
            simp only [List.mem_singleton, forall_eq]
            have k5 := HPY.out.at (o := 5) rfl
            have q5 := HPY.out.free 5
            refine wpOp_storeQ rfl rfl rfl (w' := Z) (by rw [hZ]; go_simp) ?_
            clear k5 q5
            refine ⟨HXZ.out, wpAnyH_done (by kernel_rfl) ?_ _⟩
            refine NoPanic.normal ?_
            clear hZ HXD HXY HXZ HPV HRV HBV HPY HRY HBY
            go_wp2_with fail
            refine wp_region_noPanic ?_
            refine wp_region_held (S := fun W => W.cell? ⟨p, 0, none⟩ = some (.bool false) ∧ W.cell? ⟨p, 1, none⟩ = some (str a) ∧ W.cell? ⟨p, 2, none⟩ = some (str b) ∧ W.cell? ⟨p, 3, none⟩ = some (str c) ∧ W.cell? ⟨p, 4, none⟩ = some (.int .i64 x) ∧ W.cell? ⟨p, 5, none⟩ = some (.int .i64 y)) (by kernel_rfl) ?_
            change wpAnyH _ _ _ _ _ _ _ _ Z.drew
            have HSIX := Lib.hid (fun W (h : Blk W p [.bool false, str a, str b, str c, .int .i64 x, .int .i64 y]) => (show W.cell? ⟨p, 0, none⟩ = some (.bool false) ∧ W.cell? ⟨p, 1, none⟩ = some (str a) ∧ W.cell? ⟨p, 2, none⟩ = some (str b) ∧ W.cell? ⟨p, 3, none⟩ = some (str c) ∧ W.cell? ⟨p, 4, none⟩ = some (.int .i64 x) ∧ W.cell? ⟨p, 5, none⟩ = some (.int .i64 y) from ⟨h.at (o := 0) rfl, h.at (o := 1) rfl, h.at (o := 2) rfl, h.at (o := 3) rfl, h.at (o := 4) rfl, h.at (o := 5) rfl⟩))
            have HXD := Lib.hid (HSIX.out Z.drew HP4.out.drew)
            refine takeH 0 64 (.agg #[.bool false, str a, str b, str c, .int .i64 x, .int .i64 y]) rfl rfl (by kernel_rfl) (by kernel_rfl) (by kernel_rfl) (fun _ _ _ h => h) rfl (fun w' h => by obtain ⟨h0, h1, h2, h3, h4, h5⟩ := h; go_simp) HXD.out ?_
            go_frame
            refine takeH 1 65 (.agg #[.bool false, str a, str b, str c, .int .i64 x, .int .i64 y]) rfl rfl (by kernel_rfl) (by kernel_rfl) (by kernel_rfl) (fun _ _ _ h => h) rfl (fun w' h => by obtain ⟨h0, h1, h2, h3, h4, h5⟩ := h; go_simp) HXD.out ?_
            go_frame
            refine wpAnyH_all (rs := [2]) (by kernel_rfl) (by simp) ?_
            simp only [List.mem_singleton, forall_eq]
            refine wpOp_callD 66 rfl rfl rfl 18 #[.agg #[.bool false, str a, str b, str c, .int .i64 x, .int .i64 y]] (by go_simp) ?_
            refine (right_any ⟨false, a, b, c, x, y⟩ Z.drew ⟨by show a.length ≤ 5000; omega, by show b.length ≤ 5000; omega, by show c.length ≤ 5000; omega⟩).mono ?_
            rintro e W7 ⟨rfl, hB7⟩
            have hk7 := HP4.out.drew.below hB7 HP4.out.drew.lt
            have hr7 := HR4.out.drew.below hB7 HR4.out.drew.lt
            have hb7 : Below w.heap.size w W7 := (HB4.out.drew).trans (hB7.mono HB4.out.size)
            refine ⟨_, rfl, HSIX.out _ hk7, ?_⟩
            go_frame
            have ht7 := hr7.there 0 6 (Nat.le_refl _)
            obtain ⟨Z7, hZ7⟩ : ∃ Z7, Z7 = W7.setCells w.heap.size 0 [.bool false, str a, str b, str c, .int .i64 x, .int .i64 y] := ⟨_, rfl⟩
            have hz7 : Blk Z7 w.heap.size [.bool false, str a, str b, str c, .int .i64 x, .int .i64 y] := by rw [hZ7]; exact hr7.setAll rfl
            have hbz7 : Below w.heap.size w Z7 := by rw [hZ7]; exact below_setCells (Nat.le_refl _) _ hb7 0
            have hk8 : Blk Z7 p [.bool false, str a, str b, str c, .int .i64 x, .int .i64 y] := by rw [hZ7]; exact hk7.grown (grown_setCells _ _ _ _) (by have := HPW.out; simp; omega)
            have HX7 := Lib.hid (HSIX.out _ hk8)
            refine wpAnyH_all (rs := [3]) (by kernel_rfl) (by simp) ?_
            simp only [List.mem_singleton, forall_eq]
            refine wpOp_storeN rfl rfl rfl 33 (.tmp 2) (.tmp 64) rfl w.heap.size 0 #[.bool false, str a, str b, str c, .int .i64 x, .int .i64 y] rfl rfl ht7 (by kernel_rfl) (by simp [Value.oneCell']) ?_
            rw [show (#[.bool false, str a, str b, str c, .int .i64 x, .int .i64 y] : Array Value).toList = [.bool false, str a, str b, str c, .int .i64 x, .int .i64 y] from rfl, ← hZ7]
            refine ⟨HX7.out, ?_⟩
            obtain ⟨P, hP⟩ : ∃ P, P = validB ⟨false, a, b, c, x, y⟩ := ⟨_, rfl⟩
            try rw [← hP]
            refine takeH 4 3 (.bool (validB ⟨false, a, b, c, x, y⟩)) rfl rfl (by kernel_rfl) (by kernel_rfl) (by kernel_rfl) (fun _ _ _ h => h) rfl (fun w' _ => by first | go_simp | (go_simp; rw [hP])) HX7.out ?_
            go_frame
            refine wpAnyH_done (by kernel_rfl) ?_ _
            refine NoPanic.normal ?_
            have r0 := hz7.at (o := 0) rfl
            have r1 := hz7.at (o := 1) rfl
            have r2 := hz7.at (o := 2) rfl
            have r3 := hz7.at (o := 3) rfl
            have r4 := hz7.at (o := 4) rfl
            have r5 := hz7.at (o := 5) rfl
            have HBZ7 := Lib.hid hbz7
            clear hZ7 hz7 hbz7 hk8 ht7 hk7 hr7 hb7 hB7 HX7 HSIX HXD hP
            go_wp2_with fail
            exact bodyPost_ret (v := .tuple #[.agg #[.bool false, str a, str b, str c, .int .i64 x, .int .i64 y], .bool (validB ⟨false, a, b, c, x, y⟩)]) (by simp [results, Tryz.results29, go_sem, r0, r1, r2, r3, r4, r5]) rfl ⟨by rw [HX1.out, HY1.out], HBZ7.out⟩
          | x1 :: x2 :: x3 :: rest, _, _, hcs', tl2, hT =>
            have h2l : 2 < (x1 :: x2 :: x3 :: rest).length := by simp
            obtain rfl : T = ((⟨false, [], [], [], 0, 0⟩ : RuL), false) := hT.trans (if_pos h2l)
            clear hT
            obtain ⟨n, hn⟩ : ∃ n, n = (x1 :: x2 :: x3 :: rest).length := ⟨_, rfl⟩
            rw [← hn] at h2l ⊢
            have h2i : (2 : Int) < (n : Int) := by omega
            clear hcs' tl2 hn
            have f0 := HR3.out.free 0
            have f1 := HR3.out.free 1
            have f2 := HR3.out.free 2
            have f3 := HR3.out.free 3
            have f4 := HR3.out.free 4
            have f5 := HR3.out.free 5
            have d0 := HR3.out.at (o := 0) rfl
            have d1 := HR3.out.at (o := 1) rfl
            have d2 := HR3.out.at (o := 2) rfl
            have d3 := HR3.out.at (o := 3) rfl
            have d4 := HR3.out.at (o := 4) rfl
            have d5 := HR3.out.at (o := 5) rfl
            go_wp2_with fail
            clear d0 d1 d2 d3 d4 d5 f0 f1 f2 f3 f4 f5
            obtain ⟨Z, hZ⟩ : ∃ Z, Z = ((((((w3.setCell ⟨w.heap.size, 0, none⟩ (.bool false)).setCell ⟨w.heap.size, 1, none⟩ (.string ⟨#[]⟩)).setCell ⟨w.heap.size, 2, none⟩ (.string ⟨#[]⟩)).setCell ⟨w.heap.size, 3, none⟩ (.string ⟨#[]⟩)).setCell ⟨w.heap.size, 4, none⟩ (.int .i64 0)).setCell ⟨w.heap.size, 5, none⟩ (.int .i64 0)) := ⟨_, rfl⟩
            rw [← hZ]
            have hz : Blk Z w.heap.size [.bool false, str [], str [], str [], .int .i64 0, .int .i64 0] := by rw [hZ]; exact ((((((HR3.out.set 0 _).set 1 _).set 2 _).set 3 _).set 4 _).set 5 _)
            have hbz : Below w.heap.size w Z := by rw [hZ]; exact ((((((HB3.out.setCell (p := ⟨w.heap.size, 0, none⟩) (Nat.le_refl _) _).setCell (p := ⟨w.heap.size, 1, none⟩) (Nat.le_refl _) _).setCell (p := ⟨w.heap.size, 2, none⟩) (Nat.le_refl _) _).setCell (p := ⟨w.heap.size, 3, none⟩) (Nat.le_refl _) _).setCell (p := ⟨w.heap.size, 4, none⟩) (Nat.le_refl _) _).setCell (p := ⟨w.heap.size, 5, none⟩) (Nat.le_refl _) _)
            have r0 := hz.at (o := 0) rfl
            have r1 := hz.at (o := 1) rfl
            have r2 := hz.at (o := 2) rfl
            have r3 := hz.at (o := 3) rfl
            have r4 := hz.at (o := 4) rfl
            have r5 := hz.at (o := 5) rfl
            clear hZ hz
            exact bodyPost_ret (v := .tuple #[.agg #[.bool false, str [], str [], str [], .int .i64 0, .int .i64 0], .bool false]) (by simp [results, Tryz.results29, go_sem, r0, r1, r2, r3, r4, r5]) rfl ⟨rfl, hbz⟩
    · rw [if_neg hv]
      have hv1 : v ≠ allowS := fun e => hv (.inl e)
      have hv2 : v ≠ denyS := fun e => hv (.inr e)
      clear hv
      have hqa : (v == [97, 108, 108, 111, 119]) = false := by rw [beq_eq_false_iff_ne]; exact hv1
      have hqd : (v == [100, 101, 110, 121]) = false := by rw [beq_eq_false_iff_ne]; exact hv2
      clear hv1 hv2
      go_enter Tryz.func29, Tryz.ntmps29
      go_wp2_with fail
      refine HS.out.mono ?_
      rintro e w1 ⟨u, rfl, hO, hB⟩
      rcases hO.form with ⟨_, h0⟩ | ⟨g, cap, rfl, hbg, hgl, hlc, hcm, hcs⟩
      · cases h0
      have e0 := hcs 0 (by simp)
      simp only [List.getElem_cons_zero, List.length_cons, List.length_nil, Nat.reduceAdd] at e0 hlc ⊢
      have HB1 := Lib.hid (HB0.out.trans (hB.mono HB0.out.size))
      have HR1 := Lib.hid (HK0.out.below hB HK0.out.lt)
      clear hO hB hcs HS hbg hgl
      have f0 := HR1.out.free 0
      have f1 := HR1.out.free 1
      have f2 := HR1.out.free 2
      have f3 := HR1.out.free 3
      have f4 := HR1.out.free 4
      have f5 := HR1.out.free 5
      have d0 := HR1.out.at (o := 0) rfl
      have d1 := HR1.out.at (o := 1) rfl
      have d2 := HR1.out.at (o := 2) rfl
      have d3 := HR1.out.at (o := 3) rfl
      have d4 := HR1.out.at (o := 4) rfl
      have d5 := HR1.out.at (o := 5) rfl
      go_wp2_with fail
      clear d0 d1 d2 d3 d4 d5 f0 f1 f2 f3 f4 f5
      obtain ⟨Z, hZ⟩ : ∃ Z, Z = ((((((w1.setCell ⟨w.heap.size, 0, none⟩ (.bool false)).setCell ⟨w.heap.size, 1, none⟩ (.string ⟨#[]⟩)).setCell ⟨w.heap.size, 2, none⟩ (.string ⟨#[]⟩)).setCell ⟨w.heap.size, 3, none⟩ (.string ⟨#[]⟩)).setCell ⟨w.heap.size, 4, none⟩ (.int .i64 0)).setCell ⟨w.heap.size, 5, none⟩ (.int .i64 0)) := ⟨_, rfl⟩
      rw [← hZ]
      have hz : Blk Z w.heap.size [.bool false, str [], str [], str [], .int .i64 0, .int .i64 0] := by rw [hZ]; exact ((((((HR1.out.set 0 _).set 1 _).set 2 _).set 3 _).set 4 _).set 5 _)
      have hbz : Below w.heap.size w Z := by rw [hZ]; exact ((((((HB1.out.setCell (p := ⟨w.heap.size, 0, none⟩) (Nat.le_refl _) _).setCell (p := ⟨w.heap.size, 1, none⟩) (Nat.le_refl _) _).setCell (p := ⟨w.heap.size, 2, none⟩) (Nat.le_refl _) _).setCell (p := ⟨w.heap.size, 3, none⟩) (Nat.le_refl _) _).setCell (p := ⟨w.heap.size, 4, none⟩) (Nat.le_refl _) _).setCell (p := ⟨w.heap.size, 5, none⟩) (Nat.le_refl _) _)
      have r0 := hz.at (o := 0) rfl
      have r1 := hz.at (o := 1) rfl
      have r2 := hz.at (o := 2) rfl
      have r3 := hz.at (o := 3) rfl
      have r4 := hz.at (o := 4) rfl
      have r5 := hz.at (o := 5) rfl
      clear hZ hz
      exact bodyPost_ret (v := .tuple #[.agg #[.bool false, str [], str [], str [], .int .i64 0, .int .i64 0], .bool false]) (by simp [results, Tryz.results29, go_sem, r0, r1, r2, r3, r4, r5]) rfl ⟨rfl, hbz⟩
  · rw [lineR_len h5]
    obtain ⟨ls, hls⟩ : ∃ ls, ls = spl 32 l := ⟨_, rfl⟩
    rw [← hls] at HS h5 hne sl1
    clear hls sl2
    go_enter Tryz.func29, Tryz.ntmps29
    go_wp2_with fail
    refine HS.out.mono ?_
    rintro e w1 ⟨u, rfl, hO, hB⟩
    rcases hO.form with ⟨_, h0⟩ | ⟨g, cap, rfl, hbg, hgl, hlc, hcm, hcs⟩
    · exact absurd h0 hne
    obtain ⟨n, hn⟩ : ∃ n, n = ls.length := ⟨_, rfl⟩
    rw [← hn] at h5 hlc ⊢
    have hq1 : (((n : Nat) : Int) == 5) = false := by rw [beq_eq_false_iff_ne]; omega
    have hq2 : (((n : Nat) : Int) != 5) = true := by rw [bne, hq1]; rfl
    have HB1 := Lib.hid (HB0.out.trans (hB.mono HB0.out.size))
    have HR1 := Lib.hid (HK0.out.below hB HK0.out.lt)
    clear hO hB hcs hn h5 HS hbg hgl hne sl1
    have f0 := HR1.out.free 0
    have f1 := HR1.out.free 1
    have f2 := HR1.out.free 2
    have f3 := HR1.out.free 3
    have f4 := HR1.out.free 4
    have f5 := HR1.out.free 5
    have d0 := HR1.out.at (o := 0) rfl
    have d1 := HR1.out.at (o := 1) rfl
    have d2 := HR1.out.at (o := 2) rfl
    have d3 := HR1.out.at (o := 3) rfl
    have d4 := HR1.out.at (o := 4) rfl
    have d5 := HR1.out.at (o := 5) rfl
    go_wp2_with fail
    clear d0 d1 d2 d3 d4 d5 f0 f1 f2 f3 f4 f5
    obtain ⟨Z, hZ⟩ : ∃ Z, Z = ((((((w1.setCell ⟨w.heap.size, 0, none⟩ (.bool false)).setCell ⟨w.heap.size, 1, none⟩ (.string ⟨#[]⟩)).setCell ⟨w.heap.size, 2, none⟩ (.string ⟨#[]⟩)).setCell ⟨w.heap.size, 3, none⟩ (.string ⟨#[]⟩)).setCell ⟨w.heap.size, 4, none⟩ (.int .i64 0)).setCell ⟨w.heap.size, 5, none⟩ (.int .i64 0)) := ⟨_, rfl⟩
    rw [← hZ]
    have hz : Blk Z w.heap.size [.bool false, str [], str [], str [], .int .i64 0, .int .i64 0] := by rw [hZ]; exact ((((((HR1.out.set 0 _).set 1 _).set 2 _).set 3 _).set 4 _).set 5 _)
    have hbz : Below w.heap.size w Z := by rw [hZ]; exact ((((((HB1.out.setCell (p := ⟨w.heap.size, 0, none⟩) (Nat.le_refl _) _).setCell (p := ⟨w.heap.size, 1, none⟩) (Nat.le_refl _) _).setCell (p := ⟨w.heap.size, 2, none⟩) (Nat.le_refl _) _).setCell (p := ⟨w.heap.size, 3, none⟩) (Nat.le_refl _) _).setCell (p := ⟨w.heap.size, 4, none⟩) (Nat.le_refl _) _).setCell (p := ⟨w.heap.size, 5, none⟩) (Nat.le_refl _) _)
    have r0 := hz.at (o := 0) rfl
    have r1 := hz.at (o := 1) rfl
    have r2 := hz.at (o := 2) rfl
    have r3 := hz.at (o := 3) rfl
    have r4 := hz.at (o := 4) rfl
    have r5 := hz.at (o := 5) rfl
    clear hZ hz
    exact bodyPost_ret (v := .tuple #[.agg #[.bool false, str [], str [], str [], .int .i64 0, .int .i64 0], .bool false]) (by simp [results, Tryz.results29, go_sem, r0, r1, r2, r3, r4, r5]) rfl ⟨rfl, hbz⟩
end Go.Proofs.YthpkmdojeegleaaGreatDoor
