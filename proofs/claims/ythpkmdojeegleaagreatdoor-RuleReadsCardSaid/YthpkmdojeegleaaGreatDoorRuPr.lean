/- rule.parseRule. -/
import Derived.Test.YthpkmdojeegleaaGreatDoorRuWh
import Derived.Test.YthpkmdojeegleaaGreatDoorReg
import Derived.Deep.QuietTactic
import Derived.BigQuiet
import Derived.StillTailTactics
set_option maxRecDepth 100000
namespace Go.Proofs.YthpkmdojeegleaaGreatDoor
open Go.RowKit Go.Shelf
attribute [local go_sem] Oper.semAt_some
theorem lineP_len {l : List UInt8} (h : (spl 32 l).length ≠ 5) : lineP l = (⟨false, [], [], [], 0, 0⟩, false) := by
  unfold lineP
  split
  · rename_i e; rw [e] at h; exact absurd rfl h
  · rfl
theorem lineP_five {l v a b c d : List UInt8} (h : spl 32 l = [v, a, b, c, d]) : lineP l = if v = allowS ∨ v = denyS then (⟨v == allowS, a, b, c, (portsP d).1, (portsP d).2⟩, validB ⟨v == allowS, a, b, c, (portsP d).1, (portsP d).2⟩) else (⟨false, [], [], [], 0, 0⟩, false) := by
  unfold lineP; rw [h]
theorem wpOp_valueX {P : Program} {ops : Array Oper} {Q : Exit → Act → World → Prop} {K : Act → World → Prop} {a : Act} {w : World} {i : Nat} {o : Oper} (d : Tmp) (hi : ops[i]? = some o) (hd : o.dst = some d) (hw : Region.wanted o (yielded ops a.tmps) = true) (v : Value) (w' : World) (hr : (execOp a.eval o).run P w = .ok (.value v) w') (h : K (a.put (some d) v) w') : wpOp P ops Q i K a w :=
  wpOp_of_wp hi hw (by unfold Oper.wp; rw [hr]; rw [← hd] at h; exact h)
theorem size_setCellsX (b : Nat) (vs : List Value) (w : World) (o : Nat) : (w.setCells b o vs).heap.size = w.heap.size := by
  induction vs generalizing w o with
  | nil => rfl
  | cons v vs ih => rw [World.setCells, ih]; simp
theorem setAll_seen {w : World} {b : Nat} {cs vs : List Value} (h : Blk w b cs) (hl : vs.length = cs.length) : Blk (w.setCells b 0 vs) b vs := h.setAll hl
set_option maxHeartbeats 8000000 in
theorem parseRule_any (l : List UInt8) (w : World) (hE : Env w) (hl : l.length ≤ 5000) :
    Calls Tryz.prog 26 #[str l] w fun e w' => e = .returned (.tuple #[ragg (lineP l).1, .bool (lineP l).2]) ∧ Below w.heap.size w w' := by
  have hb0 := (Below.refl w.heap.size w).alloc (Nat.le_refl _) (.cells #[.bool false, str [], str [], str [], .int .i64 0, .int .i64 0] 41)
  have HS := Lib.hid (split_ru 32 l _ (hE.below hb0) (by omega))
  have HE := Lib.hid hE
  have HE0 := Lib.hid (hE.below hb0)
  have HB0 := Lib.hid hb0
  have HK0 := Lib.hid (Blk.new w [.bool false, str [], str [], str [], .int .i64 0, .int .i64 0] 41)
  obtain ⟨sl1, sl2⟩ := spl_len (c := 32) l
  by_cases h5 : (spl 32 l).length = 5
  · obtain ⟨v, a, b, c, d, hw⟩ : ∃ v a b c d, spl 32 l = [v, a, b, c, d] := by
      match spl 32 l, h5 with
      | [v, a, b, c, d], _ => exact ⟨v, a, b, c, d, rfl⟩
    rw [lineP_five hw]
    rw [hw] at HS sl2
    have la := sl2 a (by simp)
    have lb := sl2 b (by simp)
    have lc := sl2 c (by simp)
    have ld := sl2 d (by simp)
    clear hE hb0 sl1 sl2 h5 hw
    by_cases hv : v = allowS ∨ v = denyS
    · rw [if_pos hv]
      have HPT := Lib.hid (fun W (h : Env W) => ports_any d W h (by omega))
      obtain ⟨x, y, hxy⟩ : ∃ x y, portsP d = (x, y) := ⟨_, _, rfl⟩
      rw [hxy] at HPT ⊢
      simp only at HPT ⊢
      clear hxy
      obtain ⟨al, hal⟩ : ∃ al, al = (v == allowS) := ⟨_, rfl⟩
      rw [← hal]
      have HV := Lib.hid (fun W (h : Env W) => valid_any ⟨al, a, b, c, x, y⟩ W h ⟨by show a.length ≤ 5000; omega, by show b.length ≤ 5000; omega, by show c.length ≤ 5000; omega⟩)
      have hv2 : (v = allowS ∧ al = true) ∨ (v = denyS ∧ al = false) := by
        rcases hv with e | e
        · exact .inl ⟨e, by rw [hal, e]; rfl⟩
        · exact .inr ⟨e, by rw [hal, e]; rfl⟩
      clear hv hal
      unfold allowS denyS at hv2
      rcases hv2 with ⟨rfl, rfl⟩ | ⟨rfl, rfl⟩
      · skip
        go_enter Tryz.func26, Tryz.ntmps26
        go_wp2_with fail
        refine HS.out.mono ?_
        rintro e w1 ⟨rfl, hB, hz, hcs⟩
        simp only [World.size_alloc, List.length_cons, List.length_nil, Nat.reduceAdd] at hcs hz ⊢
        obtain ⟨g, hg⟩ : ∃ g, g = w.heap.size + 1 := ⟨_, rfl⟩
        rw [← hg] at hcs hz ⊢
        have e0 := hcs 0 _ rfl
        have e1 := hcs 1 _ rfl
        have e2 := hcs 2 _ rfl
        have e3 := hcs 3 _ rfl
        have e4 := hcs 4 _ rfl
        have HB1 := Lib.hid (HB0.out.trans (hB.mono HB0.out.size))
        have HE1 := Lib.hid (HE0.out.below hB)
        have HK1 := Lib.hid (HK0.out.below hB HK0.out.lt)
        have HG := Lib.hid hg
        have HZ1 := Lib.hid hz
        clear hcs hB HS hz hg
        go_wp2_with fail
        refine wp_region_noPanic ?_
        refine wp_region_held (S := fun W => W.cell? ⟨g, 0, none⟩ = some (str [97, 108, 108, 111, 119]) ∧ W.cell? ⟨g, 1, none⟩ = some (str a) ∧ W.cell? ⟨g, 2, none⟩ = some (str b) ∧ W.cell? ⟨g, 3, none⟩ = some (str c)) (by kernel_rfl) ?_
        change wpAnyH _ _ _ _ _ _ _ _ w1.drew
        have HXD := Lib.hid (show w1.drew.cell? ⟨g, 0, none⟩ = some (str [97, 108, 108, 111, 119]) ∧ w1.drew.cell? ⟨g, 1, none⟩ = some (str a) ∧ w1.drew.cell? ⟨g, 2, none⟩ = some (str b) ∧ w1.drew.cell? ⟨g, 3, none⟩ = some (str c) from ⟨e0, e1, e2, e3⟩)
        refine takeH 0 24 (.slice (some ⟨g, 0, none⟩) 5 5) rfl rfl (by kernel_rfl) (by kernel_rfl) (by kernel_rfl) (fun _ _ _ h => h) rfl (fun w' _ => by go_simp) HXD.out ?_
        go_frame
        refine takeH 1 25 (.pointer (some ⟨g, 0, none⟩)) rfl rfl (by kernel_rfl) (by kernel_rfl) (by kernel_rfl) (fun _ _ _ h => h) rfl (fun w' _ => by go_simp) HXD.out ?_
        go_frame
        refine takeH 2 26 (str [97, 108, 108, 111, 119]) rfl rfl (by kernel_rfl) (by kernel_rfl) (by kernel_rfl) (fun _ _ _ h => h) rfl (fun w' h => by obtain ⟨h0, h1, h2, h3⟩ := h; go_simp) HXD.out ?_
        go_frame
        refine takeH 3 27 (.bool true) rfl rfl (by kernel_rfl) (by kernel_rfl) (by kernel_rfl) (fun _ _ _ h => h) rfl (fun w' _ => by go_simp) HXD.out ?_
        go_frame
        refine takeH 4 28 (.slice (some ⟨g, 0, none⟩) 5 5) rfl rfl (by kernel_rfl) (by kernel_rfl) (by kernel_rfl) (fun _ _ _ h => h) rfl (fun w' _ => by go_simp) HXD.out ?_
        go_frame
        refine takeH 5 29 (.pointer (some ⟨g, 1, none⟩)) rfl rfl (by kernel_rfl) (by kernel_rfl) (by kernel_rfl) (fun _ _ _ h => h) rfl (fun w' _ => by go_simp) HXD.out ?_
        go_frame
        refine takeH 6 30 (str a) rfl rfl (by kernel_rfl) (by kernel_rfl) (by kernel_rfl) (fun _ _ _ h => h) rfl (fun w' h => by obtain ⟨h0, h1, h2, h3⟩ := h; go_simp) HXD.out ?_
        go_frame
        refine takeH 7 31 (.slice (some ⟨g, 0, none⟩) 5 5) rfl rfl (by kernel_rfl) (by kernel_rfl) (by kernel_rfl) (fun _ _ _ h => h) rfl (fun w' _ => by go_simp) HXD.out ?_
        go_frame
        refine takeH 8 32 (.pointer (some ⟨g, 2, none⟩)) rfl rfl (by kernel_rfl) (by kernel_rfl) (by kernel_rfl) (fun _ _ _ h => h) rfl (fun w' _ => by go_simp) HXD.out ?_
        go_frame
        refine takeH 9 33 (str b) rfl rfl (by kernel_rfl) (by kernel_rfl) (by kernel_rfl) (fun _ _ _ h => h) rfl (fun w' h => by obtain ⟨h0, h1, h2, h3⟩ := h; go_simp) HXD.out ?_
        go_frame
        refine takeH 10 34 (.slice (some ⟨g, 0, none⟩) 5 5) rfl rfl (by kernel_rfl) (by kernel_rfl) (by kernel_rfl) (fun _ _ _ h => h) rfl (fun w' _ => by go_simp) HXD.out ?_
        go_frame
        refine takeH 11 35 (.pointer (some ⟨g, 3, none⟩)) rfl rfl (by kernel_rfl) (by kernel_rfl) (by kernel_rfl) (fun _ _ _ h => h) rfl (fun w' _ => by go_simp) HXD.out ?_
        go_frame
        refine takeH 12 36 (str c) rfl rfl (by kernel_rfl) (by kernel_rfl) (by kernel_rfl) (fun _ _ _ h => h) rfl (fun w' h => by obtain ⟨h0, h1, h2, h3⟩ := h; go_simp) HXD.out ?_
        go_frame
        refine takeH 13 37 (.agg #[.bool true, str a, str b, str c, .int .i64 0, .int .i64 0]) rfl rfl (by kernel_rfl) (by kernel_rfl) (by kernel_rfl) (fun _ _ _ h => h) rfl (fun w' _ => by go_simp) HXD.out ?_
        go_frame
        obtain ⟨Y, hY⟩ : ∃ Y, Y = w1.drew.alloc (.cells #[.bool false, str [], str [], str [], .int .i64 0, .int .i64 0] 41) := ⟨_, rfl⟩
        obtain ⟨p, hp⟩ : ∃ p, p = w1.heap.size := ⟨_, rfl⟩
        have hbX : Below w1.heap.size w1 Y := by rw [hY]; exact ((Below.refl _ w1).drew).alloc (Nat.le_refl _) _
        have hbl : Blk Y p [.bool false, str [], str [], str [], .int .i64 0, .int .i64 0] := by rw [hY, hp]; exact Blk.new w1.drew _ _
        have hY0 : Y.cell? ⟨g, 0, none⟩ = some (str [97, 108, 108, 111, 119]) ∧ Y.cell? ⟨g, 1, none⟩ = some (str a) ∧ Y.cell? ⟨g, 2, none⟩ = some (str b) ∧ Y.cell? ⟨g, 3, none⟩ = some (str c) := ⟨cell_below e0 hbX, cell_below e1 hbX, cell_below e2 hbX, cell_below e3 hbX⟩
        have hY4 := cell_below e4 hbX
        have hrun : ∀ k, (execOp k (⟨some 5, .alloc 41, 0, "", #[], none⟩ : Oper)).run Tryz.prog w1.drew = (execOp k (⟨some 5, .alloc 41, 0, "", #[], none⟩ : Oper)).run Tryz.prog w1.drew := fun _ => rfl
        clear hrun
        refine wpAnyH_all (rs := [14]) (by kernel_rfl) (by simp) ?_
        simp only [List.mem_singleton, forall_eq]
        refine wpOp_valueX 5 rfl rfl rfl (.pointer (some ⟨p, 0, none⟩)) Y (by rw [hY, hp]; go_simp) ⟨hY0, ?_⟩
        go_frame
        have ht := hbl.there 0 6 (Nat.le_refl _)
        obtain ⟨Z, hZ⟩ : ∃ Z, Z = Y.setCells p 0 [.bool true, str a, str b, str c, .int .i64 0, .int .i64 0] := ⟨_, rfl⟩
        have hbz : Below w1.heap.size w1 Z := by rw [hZ]; exact below_setCells (by omega) _ hbX 0
        have hzn : Blk Z p [.bool true, str a, str b, str c, .int .i64 0, .int .i64 0] := by rw [hZ]; exact hbl.setAll rfl
        have hZ0 : Z.cell? ⟨g, 0, none⟩ = some (str [97, 108, 108, 111, 119]) ∧ Z.cell? ⟨g, 1, none⟩ = some (str a) ∧ Z.cell? ⟨g, 2, none⟩ = some (str b) ∧ Z.cell? ⟨g, 3, none⟩ = some (str c) := ⟨cell_below e0 hbz, cell_below e1 hbz, cell_below e2 hbz, cell_below e3 hbz⟩
        have d4 := cell_below e4 hbz
        refine wpAnyH_all (rs := [15]) (by kernel_rfl) (by simp) ?_
        simp only [List.mem_singleton, forall_eq]
        refine wpOp_storeN rfl rfl rfl 41 (.tmp 5) (.tmp 37) rfl p 0 #[.bool true, str a, str b, str c, .int .i64 0, .int .i64 0] rfl rfl ht (by kernel_rfl) (by simp [Value.oneCell']) ?_
        rw [show (#[.bool true, str a, str b, str c, .int .i64 0, .int .i64 0] : Array Value).toList = [.bool true, str a, str b, str c, .int .i64 0, .int .i64 0] from rfl, ← hZ]
        refine ⟨hZ0, wpAnyH_done (by kernel_rfl) ?_ _⟩
        refine NoPanic.normal ?_
        have HPW := Lib.hid (show w1.heap.size ≤ p ∧ w.heap.size < p from ⟨by omega, by have := HB1.out.size; have := HK1.out.lt; omega⟩)
        have HBZ := Lib.hid (HB1.out.trans (hbz.mono HB1.out.size))
        have HEZ := Lib.hid (HE1.out.below hbz)
        have HKZ := Lib.hid (HK1.out.below hbz HK1.out.lt)
        have HZN := Lib.hid hzn
        clear hY hp hbX hbl hY0 hY4 ht hZ hbz hzn hZ0 e0 e1 e2 e3 e4 HXD
        go_wp2_with fail
        refine (HPT.out _ HEZ.out).mono ?_
        rintro e w5 ⟨rfl, hB5⟩
        have hk5 := HZN.out.below hB5 HZN.out.lt
        have HB5 := Lib.hid (HBZ.out.trans (hB5.mono HBZ.out.size))
        have HE5 := Lib.hid (HEZ.out.below hB5)
        have HK5 := Lib.hid (HKZ.out.below hB5 HKZ.out.lt)
        have HZ5 := Lib.hid hk5
        have f4 := hk5.free 4
        have f5 := hk5.free 5
        have c4 := hk5.at (o := 4) rfl
        have c5 := hk5.at (o := 5) rfl
        clear hB5 hk5 d4
        go_wp2_with fail
        refine wp_region_noPanic ?_
        obtain ⟨W6, hW6⟩ : ∃ W6, W6 = (w5.setCell ⟨p, 4, none⟩ (.int .i64 x)).setCell ⟨p, 5, none⟩ (.int .i64 y) := ⟨_, rfl⟩
        rw [← hW6]
        have hk6 : Blk W6 p [.bool true, str a, str b, str c, .int .i64 x, .int .i64 y] := by rw [hW6]; exact (HZ5.out.set 4 _).set 5 _
        have hb6 : Below w.heap.size w W6 := by rw [hW6]; exact (HB5.out.setCell (p := ⟨p, 4, none⟩) (by show w.heap.size ≤ p; have := HPW.out.2; omega) _).setCell (p := ⟨p, 5, none⟩) (by show w.heap.size ≤ p; have := HPW.out.2; omega) _
        have hkr : Blk W6 w.heap.size [.bool false, str [], str [], str [], .int .i64 0, .int .i64 0] := by rw [hW6]; exact (HK5.out.setOther (a := ⟨p, 4, none⟩) (by show p ≠ w.heap.size; have := HPW.out.2; omega) _).setOther (a := ⟨p, 5, none⟩) (by show p ≠ w.heap.size; have := HPW.out.2; omega) _
        have HE6 := Lib.hid (HE.out.below hb6)
        have HB6 := Lib.hid hb6; have HK6 := Lib.hid hk6; have HR6 := Lib.hid hkr
        clear hW6 hk6 hb6 hkr f4 f5 c4 c5
        refine wp_region_held (S := fun W => W.cell? ⟨p, 0, none⟩ = some (.bool true) ∧ W.cell? ⟨p, 1, none⟩ = some (str a) ∧ W.cell? ⟨p, 2, none⟩ = some (str b) ∧ W.cell? ⟨p, 3, none⟩ = some (str c) ∧ W.cell? ⟨p, 4, none⟩ = some (.int .i64 x) ∧ W.cell? ⟨p, 5, none⟩ = some (.int .i64 y)) (by kernel_rfl) ?_
        change wpAnyH _ _ _ _ _ _ _ _ W6.drew
        have SIX : ∀ W, Blk W p [.bool true, str a, str b, str c, .int .i64 x, .int .i64 y] → (W.cell? ⟨p, 0, none⟩ = some (.bool true) ∧ W.cell? ⟨p, 1, none⟩ = some (str a) ∧ W.cell? ⟨p, 2, none⟩ = some (str b) ∧ W.cell? ⟨p, 3, none⟩ = some (str c) ∧ W.cell? ⟨p, 4, none⟩ = some (.int .i64 x) ∧ W.cell? ⟨p, 5, none⟩ = some (.int .i64 y)) := fun W h => ⟨h.at (o := 0) rfl, h.at (o := 1) rfl, h.at (o := 2) rfl, h.at (o := 3) rfl, h.at (o := 4) rfl, h.at (o := 5) rfl⟩
        have HXD := Lib.hid (SIX W6.drew HK6.out.drew)
        have HSIX := Lib.hid SIX; clear SIX
        refine takeH 0 47 (.agg #[.bool true, str a, str b, str c, .int .i64 x, .int .i64 y]) rfl rfl (by kernel_rfl) (by kernel_rfl) (by kernel_rfl) (fun _ _ _ h => h) rfl (fun w' h => by obtain ⟨h0, h1, h2, h3, h4, h5⟩ := h; go_simp) HXD.out ?_
        go_frame
        refine takeH 1 48 (.agg #[.bool true, str a, str b, str c, .int .i64 x, .int .i64 y]) rfl rfl (by kernel_rfl) (by kernel_rfl) (by kernel_rfl) (fun _ _ _ h => h) rfl (fun w' h => by obtain ⟨h0, h1, h2, h3, h4, h5⟩ := h; go_simp) HXD.out ?_
        go_frame
        refine wpAnyH_all (rs := [2]) (by kernel_rfl) (by simp) ?_
        simp only [List.mem_singleton, forall_eq]
        refine wpOp_callD 49 rfl rfl rfl 34 #[.agg #[.bool true, str a, str b, str c, .int .i64 x, .int .i64 y]] (by go_simp) ?_
        refine (HV.out W6.drew (HE6.out.below ((Below.refl _ W6).drew))).mono ?_
        rintro e W7 ⟨rfl, hB7⟩
        have hk7 := HK6.out.drew.below hB7 HK6.out.drew.lt
        have hr7 := HR6.out.drew.below hB7 HR6.out.drew.lt
        have hb7 : Below w.heap.size w W7 := (HB6.out.drew).trans (hB7.mono HB6.out.size)
        refine ⟨_, rfl, HSIX.out _ hk7, ?_⟩
        go_frame
        have HXE := Lib.hid (HSIX.out _ hk7)
        have ht7 := hr7.there 0 6 (Nat.le_refl _)
        obtain ⟨Z7, hZ7⟩ : ∃ Z7, Z7 = W7.setCells w.heap.size 0 [.bool true, str a, str b, str c, .int .i64 x, .int .i64 y] := ⟨_, rfl⟩
        have hz7 : Blk Z7 w.heap.size [.bool true, str a, str b, str c, .int .i64 x, .int .i64 y] := by rw [hZ7]; exact hr7.setAll rfl
        have hbz7 : Below w.heap.size w Z7 := by rw [hZ7]; exact below_setCells (Nat.le_refl _) _ hb7 0
        have hk8 : Blk Z7 p [.bool true, str a, str b, str c, .int .i64 x, .int .i64 y] := by rw [hZ7]; exact hk7.grown (grown_setCells _ _ _ _) (by have := HPW.out.2; simp; omega)
        have HX7 := Lib.hid (HSIX.out _ hk8)
        refine wpAnyH_all (rs := [3]) (by kernel_rfl) (by simp) ?_
        simp only [List.mem_singleton, forall_eq]
        refine wpOp_storeN rfl rfl rfl 41 (.tmp 2) (.tmp 47) rfl w.heap.size 0 #[.bool true, str a, str b, str c, .int .i64 x, .int .i64 y] rfl rfl ht7 (by kernel_rfl) (by simp [Value.oneCell']) ?_
        rw [show (#[.bool true, str a, str b, str c, .int .i64 x, .int .i64 y] : Array Value).toList = [.bool true, str a, str b, str c, .int .i64 x, .int .i64 y] from rfl, ← hZ7]
        refine ⟨HX7.out, ?_⟩
        obtain ⟨P, hP⟩ : ∃ P, P = validB ⟨true, a, b, c, x, y⟩ := ⟨_, rfl⟩
        try rw [← hP]
        refine takeH 4 3 (.bool (validB ⟨true, a, b, c, x, y⟩)) rfl rfl (by kernel_rfl) (by kernel_rfl) (by kernel_rfl) (fun _ _ _ h => h) rfl (fun w' _ => by first | go_simp | (go_simp; rw [hP])) HX7.out ?_
        go_frame
        refine wpAnyH_done (by kernel_rfl) ?_ _
        refine NoPanic.normal ?_
        have r0 := hz7.at (o := 0) rfl
        have r1 := hz7.at (o := 1) rfl
        have r2 := hz7.at (o := 2) rfl
        have r3 := hz7.at (o := 3) rfl
        have r4 := hz7.at (o := 4) rfl
        have r5 := hz7.at (o := 5) rfl
        have HBZ7 := Lib.hid hbz7
        clear hZ7 hz7 hbz7 hk8 ht7 hk7 hr7 hb7 hB7 HX7 HSIX HXD hP
        go_wp2_with fail
        exact bodyPost_ret (v := .tuple #[.agg #[.bool true, str a, str b, str c, .int .i64 x, .int .i64 y], .bool (validB ⟨true, a, b, c, x, y⟩)]) (by simp [results, Tryz.results26, go_sem, r0, r1, r2, r3, r4, r5]) rfl ⟨rfl, HBZ7.out⟩
      · skip
        go_enter Tryz.func26, Tryz.ntmps26
        go_wp2_with fail
        refine HS.out.mono ?_
        rintro e w1 ⟨rfl, hB, hz, hcs⟩
        simp only [World.size_alloc, List.length_cons, List.length_nil, Nat.reduceAdd] at hcs hz ⊢
        obtain ⟨g, hg⟩ : ∃ g, g = w.heap.size + 1 := ⟨_, rfl⟩
        rw [← hg] at hcs hz ⊢
        have e0 := hcs 0 _ rfl
        have e1 := hcs 1 _ rfl
        have e2 := hcs 2 _ rfl
        have e3 := hcs 3 _ rfl
        have e4 := hcs 4 _ rfl
        have HB1 := Lib.hid (HB0.out.trans (hB.mono HB0.out.size))
        have HE1 := Lib.hid (HE0.out.below hB)
        have HK1 := Lib.hid (HK0.out.below hB HK0.out.lt)
        have HG := Lib.hid hg
        have HZ1 := Lib.hid hz
        clear hcs hB HS hz hg
        go_wp2_with fail
        refine wp_region_noPanic ?_
        refine wp_region_held (S := fun W => W.cell? ⟨g, 0, none⟩ = some (str [100, 101, 110, 121]) ∧ W.cell? ⟨g, 1, none⟩ = some (str a) ∧ W.cell? ⟨g, 2, none⟩ = some (str b) ∧ W.cell? ⟨g, 3, none⟩ = some (str c)) (by kernel_rfl) ?_
        change wpAnyH _ _ _ _ _ _ _ _ w1.drew
        have HXD := Lib.hid (show w1.drew.cell? ⟨g, 0, none⟩ = some (str [100, 101, 110, 121]) ∧ w1.drew.cell? ⟨g, 1, none⟩ = some (str a) ∧ w1.drew.cell? ⟨g, 2, none⟩ = some (str b) ∧ w1.drew.cell? ⟨g, 3, none⟩ = some (str c) from ⟨e0, e1, e2, e3⟩)
        refine takeH 0 24 (.slice (some ⟨g, 0, none⟩) 5 5) rfl rfl (by kernel_rfl) (by kernel_rfl) (by kernel_rfl) (fun _ _ _ h => h) rfl (fun w' _ => by go_simp) HXD.out ?_
        go_frame
        refine takeH 1 25 (.pointer (some ⟨g, 0, none⟩)) rfl rfl (by kernel_rfl) (by kernel_rfl) (by kernel_rfl) (fun _ _ _ h => h) rfl (fun w' _ => by go_simp) HXD.out ?_
        go_frame
        refine takeH 2 26 (str [100, 101, 110, 121]) rfl rfl (by kernel_rfl) (by kernel_rfl) (by kernel_rfl) (fun _ _ _ h => h) rfl (fun w' h => by obtain ⟨h0, h1, h2, h3⟩ := h; go_simp) HXD.out ?_
        go_frame
        refine takeH 3 27 (.bool false) rfl rfl (by kernel_rfl) (by kernel_rfl) (by kernel_rfl) (fun _ _ _ h => h) rfl (fun w' _ => by go_simp) HXD.out ?_
        go_frame
        refine takeH 4 28 (.slice (some ⟨g, 0, none⟩) 5 5) rfl rfl (by kernel_rfl) (by kernel_rfl) (by kernel_rfl) (fun _ _ _ h => h) rfl (fun w' _ => by go_simp) HXD.out ?_
        go_frame
        refine takeH 5 29 (.pointer (some ⟨g, 1, none⟩)) rfl rfl (by kernel_rfl) (by kernel_rfl) (by kernel_rfl) (fun _ _ _ h => h) rfl (fun w' _ => by go_simp) HXD.out ?_
        go_frame
        refine takeH 6 30 (str a) rfl rfl (by kernel_rfl) (by kernel_rfl) (by kernel_rfl) (fun _ _ _ h => h) rfl (fun w' h => by obtain ⟨h0, h1, h2, h3⟩ := h; go_simp) HXD.out ?_
        go_frame
        refine takeH 7 31 (.slice (some ⟨g, 0, none⟩) 5 5) rfl rfl (by kernel_rfl) (by kernel_rfl) (by kernel_rfl) (fun _ _ _ h => h) rfl (fun w' _ => by go_simp) HXD.out ?_
        go_frame
        refine takeH 8 32 (.pointer (some ⟨g, 2, none⟩)) rfl rfl (by kernel_rfl) (by kernel_rfl) (by kernel_rfl) (fun _ _ _ h => h) rfl (fun w' _ => by go_simp) HXD.out ?_
        go_frame
        refine takeH 9 33 (str b) rfl rfl (by kernel_rfl) (by kernel_rfl) (by kernel_rfl) (fun _ _ _ h => h) rfl (fun w' h => by obtain ⟨h0, h1, h2, h3⟩ := h; go_simp) HXD.out ?_
        go_frame
        refine takeH 10 34 (.slice (some ⟨g, 0, none⟩) 5 5) rfl rfl (by kernel_rfl) (by kernel_rfl) (by kernel_rfl) (fun _ _ _ h => h) rfl (fun w' _ => by go_simp) HXD.out ?_
        go_frame
        refine takeH 11 35 (.pointer (some ⟨g, 3, none⟩)) rfl rfl (by kernel_rfl) (by kernel_rfl) (by kernel_rfl) (fun _ _ _ h => h) rfl (fun w' _ => by go_simp) HXD.out ?_
        go_frame
        refine takeH 12 36 (str c) rfl rfl (by kernel_rfl) (by kernel_rfl) (by kernel_rfl) (fun _ _ _ h => h) rfl (fun w' h => by obtain ⟨h0, h1, h2, h3⟩ := h; go_simp) HXD.out ?_
        go_frame
        refine takeH 13 37 (.agg #[.bool false, str a, str b, str c, .int .i64 0, .int .i64 0]) rfl rfl (by kernel_rfl) (by kernel_rfl) (by kernel_rfl) (fun _ _ _ h => h) rfl (fun w' _ => by go_simp) HXD.out ?_
        go_frame
        obtain ⟨Y, hY⟩ : ∃ Y, Y = w1.drew.alloc (.cells #[.bool false, str [], str [], str [], .int .i64 0, .int .i64 0] 41) := ⟨_, rfl⟩
        obtain ⟨p, hp⟩ : ∃ p, p = w1.heap.size := ⟨_, rfl⟩
        have hbX : Below w1.heap.size w1 Y := by rw [hY]; exact ((Below.refl _ w1).drew).alloc (Nat.le_refl _) _
        have hbl : Blk Y p [.bool false, str [], str [], str [], .int .i64 0, .int .i64 0] := by rw [hY, hp]; exact Blk.new w1.drew _ _
        have hY0 : Y.cell? ⟨g, 0, none⟩ = some (str [100, 101, 110, 121]) ∧ Y.cell? ⟨g, 1, none⟩ = some (str a) ∧ Y.cell? ⟨g, 2, none⟩ = some (str b) ∧ Y.cell? ⟨g, 3, none⟩ = some (str c) := ⟨cell_below e0 hbX, cell_below e1 hbX, cell_below e2 hbX, cell_below e3 hbX⟩
        have hY4 := cell_below e4 hbX
        have hrun : ∀ k, (execOp k (⟨some 5, .alloc 41, 0, "", #[], none⟩ : Oper)).run Tryz.prog w1.drew = (execOp k (⟨some 5, .alloc 41, 0, "", #[], none⟩ : Oper)).run Tryz.prog w1.drew := fun _ => rfl
        clear hrun
        refine wpAnyH_all (rs := [14]) (by kernel_rfl) (by simp) ?_
        simp only [List.mem_singleton, forall_eq]
        refine wpOp_valueX 5 rfl rfl rfl (.pointer (some ⟨p, 0, none⟩)) Y (by rw [hY, hp]; go_simp) ⟨hY0, ?_⟩
        go_frame
        have ht := hbl.there 0 6 (Nat.le_refl _)
        obtain ⟨Z, hZ⟩ : ∃ Z, Z = Y.setCells p 0 [.bool false, str a, str b, str c, .int .i64 0, .int .i64 0] := ⟨_, rfl⟩
        have hbz : Below w1.heap.size w1 Z := by rw [hZ]; exact below_setCells (by omega) _ hbX 0
        have hzn : Blk Z p [.bool false, str a, str b, str c, .int .i64 0, .int .i64 0] := by rw [hZ]; exact hbl.setAll rfl
        have hZ0 : Z.cell? ⟨g, 0, none⟩ = some (str [100, 101, 110, 121]) ∧ Z.cell? ⟨g, 1, none⟩ = some (str a) ∧ Z.cell? ⟨g, 2, none⟩ = some (str b) ∧ Z.cell? ⟨g, 3, none⟩ = some (str c) := ⟨cell_below e0 hbz, cell_below e1 hbz, cell_below e2 hbz, cell_below e3 hbz⟩
        have d4 := cell_below e4 hbz
        refine wpAnyH_all (rs := [15]) (by kernel_rfl) (by simp) ?_
        simp only [List.mem_singleton, forall_eq]
        refine wpOp_storeN rfl rfl rfl 41 (.tmp 5) (.tmp 37) rfl p 0 #[.bool false, str a, str b, str c, .int .i64 0, .int .i64 0] rfl rfl ht (by kernel_rfl) (by simp [Value.oneCell']) ?_
        rw [show (#[.bool false, str a, str b, str c, .int .i64 0, .int .i64 0] : Array Value).toList = [.bool false, str a, str b, str c, .int .i64 0, .int .i64 0] from rfl, ← hZ]
        refine ⟨hZ0, wpAnyH_done (by kernel_rfl) ?_ _⟩
        refine NoPanic.normal ?_
        have HPW := Lib.hid (show w1.heap.size ≤ p ∧ w.heap.size < p from ⟨by omega, by have := HB1.out.size; have := HK1.out.lt; omega⟩)
        have HBZ := Lib.hid (HB1.out.trans (hbz.mono HB1.out.size))
        have HEZ := Lib.hid (HE1.out.below hbz)
        have HKZ := Lib.hid (HK1.out.below hbz HK1.out.lt)
        have HZN := Lib.hid hzn
        clear hY hp hbX hbl hY0 hY4 ht hZ hbz hzn hZ0 e0 e1 e2 e3 e4 HXD
        go_wp2_with fail
        refine (HPT.out _ HEZ.out).mono ?_
        rintro e w5 ⟨rfl, hB5⟩
        have hk5 := HZN.out.below hB5 HZN.out.lt
        have HB5 := Lib.hid (HBZ.out.trans (hB5.mono HBZ.out.size))
        have HE5 := Lib.hid (HEZ.out.below hB5)
        have HK5 := Lib.hid (HKZ.out.below hB5 HKZ.out.lt)
        have HZ5 := Lib.hid hk5
        have f4 := hk5.free 4
        have f5 := hk5.free 5
        have c4 := hk5.at (o := 4) rfl
        have c5 := hk5.at (o := 5) rfl
        clear hB5 hk5 d4
        go_wp2_with fail
        refine wp_region_noPanic ?_
        obtain ⟨W6, hW6⟩ : ∃ W6, W6 = (w5.setCell ⟨p, 4, none⟩ (.int .i64 x)).setCell ⟨p, 5, none⟩ (.int .i64 y) := ⟨_, rfl⟩
        rw [← hW6]
        have hk6 : Blk W6 p [.bool false, str a, str b, str c, .int .i64 x, .int .i64 y] := by rw [hW6]; exact (HZ5.out.set 4 _).set 5 _
        have hb6 : Below w.heap.size w W6 := by rw [hW6]; exact (HB5.out.setCell (p := ⟨p, 4, none⟩) (by show w.heap.size ≤ p; have := HPW.out.2; omega) _).setCell (p := ⟨p, 5, none⟩) (by show w.heap.size ≤ p; have := HPW.out.2; omega) _
        have hkr : Blk W6 w.heap.size [.bool false, str [], str [], str [], .int .i64 0, .int .i64 0] := by rw [hW6]; exact (HK5.out.setOther (a := ⟨p, 4, none⟩) (by show p ≠ w.heap.size; have := HPW.out.2; omega) _).setOther (a := ⟨p, 5, none⟩) (by show p ≠ w.heap.size; have := HPW.out.2; omega) _
        have HE6 := Lib.hid (HE.out.below hb6)
        have HB6 := Lib.hid hb6; have HK6 := Lib.hid hk6; have HR6 := Lib.hid hkr
        clear hW6 hk6 hb6 hkr f4 f5 c4 c5
        refine wp_region_held (S := fun W => W.cell? ⟨p, 0, none⟩ = some (.bool false) ∧ W.cell? ⟨p, 1, none⟩ = some (str a) ∧ W.cell? ⟨p, 2, none⟩ = some (str b) ∧ W.cell? ⟨p, 3, none⟩ = some (str c) ∧ W.cell? ⟨p, 4, none⟩ = some (.int .i64 x) ∧ W.cell? ⟨p, 5, none⟩ = some (.int .i64 y)) (by kernel_rfl) ?_
        change wpAnyH _ _ _ _ _ _ _ _ W6.drew
        have SIX : ∀ W, Blk W p [.bool false, str a, str b, str c, .int .i64 x, .int .i64 y] → (W.cell? ⟨p, 0, none⟩ = some (.bool false) ∧ W.cell? ⟨p, 1, none⟩ = some (str a) ∧ W.cell? ⟨p, 2, none⟩ = some (str b) ∧ W.cell? ⟨p, 3, none⟩ = some (str c) ∧ W.cell? ⟨p, 4, none⟩ = some (.int .i64 x) ∧ W.cell? ⟨p, 5, none⟩ = some (.int .i64 y)) := fun W h => ⟨h.at (o := 0) rfl, h.at (o := 1) rfl, h.at (o := 2) rfl, h.at (o := 3) rfl, h.at (o := 4) rfl, h.at (o := 5) rfl⟩
        have HXD := Lib.hid (SIX W6.drew HK6.out.drew)
        have HSIX := Lib.hid SIX; clear SIX
        refine takeH 0 47 (.agg #[.bool false, str a, str b, str c, .int .i64 x, .int .i64 y]) rfl rfl (by kernel_rfl) (by kernel_rfl) (by kernel_rfl) (fun _ _ _ h => h) rfl (fun w' h => by obtain ⟨h0, h1, h2, h3, h4, h5⟩ := h; go_simp) HXD.out ?_
        go_frame
        refine takeH 1 48 (.agg #[.bool false, str a, str b, str c, .int .i64 x, .int .i64 y]) rfl rfl (by kernel_rfl) (by kernel_rfl) (by kernel_rfl) (fun _ _ _ h => h) rfl (fun w' h => by obtain ⟨h0, h1, h2, h3, h4, h5⟩ := h; go_simp) HXD.out ?_
        go_frame
        refine wpAnyH_all (rs := [2]) (by kernel_rfl) (by simp) ?_
        simp only [List.mem_singleton, forall_eq]
        refine wpOp_callD 49 rfl rfl rfl 34 #[.agg #[.bool false, str a, str b, str c, .int .i64 x, .int .i64 y]] (by go_simp) ?_
        refine (HV.out W6.drew (HE6.out.below ((Below.refl _ W6).drew))).mono ?_
        rintro e W7 ⟨rfl, hB7⟩
        have hk7 := HK6.out.drew.below hB7 HK6.out.drew.lt
        have hr7 := HR6.out.drew.below hB7 HR6.out.drew.lt
        have hb7 : Below w.heap.size w W7 := (HB6.out.drew).trans (hB7.mono HB6.out.size)
        refine ⟨_, rfl, HSIX.out _ hk7, ?_⟩
        go_frame
        have HXE := Lib.hid (HSIX.out _ hk7)
        have ht7 := hr7.there 0 6 (Nat.le_refl _)
        obtain ⟨Z7, hZ7⟩ : ∃ Z7, Z7 = W7.setCells w.heap.size 0 [.bool false, str a, str b, str c, .int .i64 x, .int .i64 y] := ⟨_, rfl⟩
        have hz7 : Blk Z7 w.heap.size [.bool false, str a, str b, str c, .int .i64 x, .int .i64 y] := by rw [hZ7]; exact hr7.setAll rfl
        have hbz7 : Below w.heap.size w Z7 := by rw [hZ7]; exact below_setCells (Nat.le_refl _) _ hb7 0
        have hk8 : Blk Z7 p [.bool false, str a, str b, str c, .int .i64 x, .int .i64 y] := by rw [hZ7]; exact hk7.grown (grown_setCells _ _ _ _) (by have := HPW.out.2; simp; omega)
        have HX7 := Lib.hid (HSIX.out _ hk8)
        refine wpAnyH_all (rs := [3]) (by kernel_rfl) (by simp) ?_
        simp only [List.mem_singleton, forall_eq]
        refine wpOp_storeN rfl rfl rfl 41 (.tmp 2) (.tmp 47) rfl w.heap.size 0 #[.bool false, str a, str b, str c, .int .i64 x, .int .i64 y] rfl rfl ht7 (by kernel_rfl) (by simp [Value.oneCell']) ?_
        rw [show (#[.bool false, str a, str b, str c, .int .i64 x, .int .i64 y] : Array Value).toList = [.bool false, str a, str b, str c, .int .i64 x, .int .i64 y] from rfl, ← hZ7]
        refine ⟨HX7.out, ?_⟩
        obtain ⟨P, hP⟩ : ∃ P, P = validB ⟨false, a, b, c, x, y⟩ := ⟨_, rfl⟩
        try rw [← hP]
        refine takeH 4 3 (.bool (validB ⟨false, a, b, c, x, y⟩)) rfl rfl (by kernel_rfl) (by kernel_rfl) (by kernel_rfl) (fun _ _ _ h => h) rfl (fun w' _ => by first | go_simp | (go_simp; rw [hP])) HX7.out ?_
        go_frame
        refine wpAnyH_done (by kernel_rfl) ?_ _
        refine NoPanic.normal ?_
        have r0 := hz7.at (o := 0) rfl
        have r1 := hz7.at (o := 1) rfl
        have r2 := hz7.at (o := 2) rfl
        have r3 := hz7.at (o := 3) rfl
        have r4 := hz7.at (o := 4) rfl
        have r5 := hz7.at (o := 5) rfl
        have HBZ7 := Lib.hid hbz7
        clear hZ7 hz7 hbz7 hk8 ht7 hk7 hr7 hb7 hB7 HX7 HSIX HXD hP
        go_wp2_with fail
        exact bodyPost_ret (v := .tuple #[.agg #[.bool false, str a, str b, str c, .int .i64 x, .int .i64 y], .bool (validB ⟨false, a, b, c, x, y⟩)]) (by simp [results, Tryz.results26, go_sem, r0, r1, r2, r3, r4, r5]) rfl ⟨rfl, HBZ7.out⟩
    · rw [if_neg hv]
      have hv1 : (v == [97, 108, 108, 111, 119]) = false := by rw [beq_eq_false_iff_ne]; exact fun e => hv (.inl e)
      have hv2 : (v == [100, 101, 110, 121]) = false := by rw [beq_eq_false_iff_ne]; exact fun e => hv (.inr e)
      clear hv la lb lc ld
      go_enter Tryz.func26, Tryz.ntmps26
      go_wp2_with fail
      refine HS.out.mono ?_
      rintro e w1 ⟨rfl, hB, hz, hcs⟩
      simp only [World.size_alloc, List.length_cons, List.length_nil, Nat.reduceAdd] at hcs hz ⊢
      obtain ⟨g, hg⟩ : ∃ g, g = w.heap.size + 1 := ⟨_, rfl⟩
      rw [← hg] at hcs hz ⊢
      have e0 := hcs 0 _ rfl
      have HB1 := Lib.hid (HB0.out.trans (hB.mono HB0.out.size))
      have hk1 := HK0.out.below hB HK0.out.lt
      have r0 := hk1.at (o := 0) rfl
      have q0 := hk1.free 0
      have r1 := hk1.at (o := 1) rfl
      have q1 := hk1.free 1
      have r2 := hk1.at (o := 2) rfl
      have q2 := hk1.free 2
      have r3 := hk1.at (o := 3) rfl
      have q3 := hk1.free 3
      have r4 := hk1.at (o := 4) rfl
      have q4 := hk1.free 4
      have r5 := hk1.at (o := 5) rfl
      have q5 := hk1.free 5
      have hlt := hk1.lt
      have ht1 := hk1.there 0 6 (Nat.le_refl _)
      have HK1 := Lib.hid hk1
      clear hcs hB HS hz hg hk1
      go_wp2_with fail
      have hfin := (((((HB1.out.setCell (p := ⟨w.heap.size, 0, none⟩) (Nat.le_refl _) (.bool false)).setCell (p := ⟨w.heap.size, 1, none⟩) (Nat.le_refl _) (str [])).setCell (p := ⟨w.heap.size, 2, none⟩) (Nat.le_refl _) (str [])).setCell (p := ⟨w.heap.size, 3, none⟩) (Nat.le_refl _) (str [])).setCell (p := ⟨w.heap.size, 4, none⟩) (Nat.le_refl _) (.int .i64 0)).setCell (p := ⟨w.heap.size, 5, none⟩) (Nat.le_refl _) (.int .i64 0)
      exact bodyPost_ret (v := .tuple #[.agg #[.bool false, str [], str [], str [], .int .i64 0, .int .i64 0], .bool false]) (by simp [results, Tryz.results26, go_sem, r0, r1, r2, r3, r4, r5]) rfl ⟨rfl, hfin⟩
  · rw [lineP_len h5]
    obtain ⟨M, hM⟩ : ∃ M, M = (spl 32 l).length := ⟨_, rfl⟩
    rw [← hM] at HS h5
    have hne : ((M : Int) == 5) = false := by rw [beq_eq_false_iff_ne]; omega
    have hne2 : ((M : Int) != 5) = true := by rw [bne_iff_ne]; omega
    clear sl1 sl2 hM h5 hE hb0
    go_enter Tryz.func26, Tryz.ntmps26
    go_wp2_with fail
    refine HS.out.mono ?_
    rintro e w1 ⟨rfl, hB, hz, hcs⟩
    simp only [World.size_alloc] at hcs hz ⊢
    obtain ⟨g, hg⟩ : ∃ g, g = w.heap.size + 1 := ⟨_, rfl⟩
    rw [← hg] at hcs hz ⊢
    have HB1 := Lib.hid (HB0.out.trans (hB.mono HB0.out.size))
    have hk1 := HK0.out.below hB HK0.out.lt
    have r0 := hk1.at (o := 0) rfl
    have q0 := hk1.free 0
    have r1 := hk1.at (o := 1) rfl
    have q1 := hk1.free 1
    have r2 := hk1.at (o := 2) rfl
    have q2 := hk1.free 2
    have r3 := hk1.at (o := 3) rfl
    have q3 := hk1.free 3
    have r4 := hk1.at (o := 4) rfl
    have q4 := hk1.free 4
    have r5 := hk1.at (o := 5) rfl
    have q5 := hk1.free 5
    have hlt := hk1.lt
    have ht1 := hk1.there 0 6 (Nat.le_refl _)
    have HK1 := Lib.hid hk1
    clear hcs hB HS hz hg hk1
    go_wp2_with fail
    have hfin := (((((HB1.out.setCell (p := ⟨w.heap.size, 0, none⟩) (Nat.le_refl _) (.bool false)).setCell (p := ⟨w.heap.size, 1, none⟩) (Nat.le_refl _) (str [])).setCell (p := ⟨w.heap.size, 2, none⟩) (Nat.le_refl _) (str [])).setCell (p := ⟨w.heap.size, 3, none⟩) (Nat.le_refl _) (str [])).setCell (p := ⟨w.heap.size, 4, none⟩) (Nat.le_refl _) (.int .i64 0)).setCell (p := ⟨w.heap.size, 5, none⟩) (Nat.le_refl _) (.int .i64 0)
    exact bodyPost_ret (v := .tuple #[.agg #[.bool false, str [], str [], str [], .int .i64 0, .int .i64 0], .bool false]) (by simp [results, Tryz.results26, go_sem, r0, r1, r2, r3, r4, r5]) rfl ⟨rfl, hfin⟩
end Go.Proofs.YthpkmdojeegleaaGreatDoor
