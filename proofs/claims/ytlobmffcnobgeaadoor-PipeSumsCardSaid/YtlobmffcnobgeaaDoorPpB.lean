/- pipe: Read. pipe: New. -/
import Derived.Test.YtlobmffcnobgeaaDoorPpA
import Derived.Deep.RegionHeld3
set_option maxRecDepth 100000
namespace Go.Proofs.YtlobmffcnobgeaaDoor
open Go.RowKit
attribute [local go_sem] Oper.semAt_some
theorem read_nil (k m : Int) (w : World) : Calls Tryd.prog 19 #[.pointer none, .int .i64 k, .int .i64 m] w fun e w' => e = .returned (.tuple #[.slice none 0 0, .int .i64 6]) ∧ w' = w := by
  have HD := Lib.hid (dir_nil k w)
  go_enter Tryd.func19, Tryd.ntmps19
  go_wp2_with fail
  refine HD.out.mono ?_
  rintro e w' ⟨rfl, rfl⟩
  go_wp2_with fail
  go_ret2
  exact ⟨rfl, rfl⟩
theorem read_bad (b : Nat) (k m : Int) (hk : k ≠ 0 ∧ k ≠ 1) (w : World) : Calls Tryd.prog 19 #[tP b, .int .i64 k, .int .i64 m] w fun e w' => e = .returned (.tuple #[.slice none 0 0, .int .i64 1]) ∧ w' = w := by
  have HD := Lib.hid (dir_bad b k hk w)
  clear hk
  go_enter Tryd.func19, Tryd.ntmps19
  go_wp2_with fail
  refine HD.out.mono ?_
  rintro e w' ⟨rfl, rfl⟩
  go_wp2_with fail
  go_ret2
  exact ⟨rfl, rfl⟩
section
variable {w w' : World} {base b room : Nat} {V : Nat → Value} {H : Nat → Nat} {X : Nat → WayL}
/-- How many bytes are read, and what is then. -/
def rdN (x : WayL) (m : Int) : Nat := min m.toNat x.buf.length
def rdX (x : WayL) (m : Int) : WayL := { x with buf := x.buf.drop (rdN x m), read := x.read ++ x.buf.take (rdN x m) }
/-- Behind the Clone, the Delete and the store. -/
theorem read_mid (h : PP w base b room V H X) (i : Nat) (hi : i < 2) {w1 w2 : World} {v' vc : Value} {lc : List UInt8} (hb : Below w.heap.size w w1) (hc : OwnB w1 w.heap.size vc lc) (hg : w1.grownBy w2 (V i).ownBlock) :
    Blk w2 b (ppc room V H X) ∧ HashM (w2.setCell ⟨b, 1 + 4 * i, none⟩ v') (H i) (X i).read ∧ TabA (w2.setCell ⟨b, 1 + 4 * i, none⟩ v') ∧ OwnB (w2.setCell ⟨b, 1 + 4 * i, none⟩ v') w.heap.size vc lc := by
  have h1 := h.below hb
  have hb2 : Blk w2 b (ppc room V H X) := h1.blk.grown hg (h.apb i hi).1.symm
  have ht : Trs (b :: (V i).ownBlock.toList) w1 (w2.setCell ⟨b, 1 + 4 * i, none⟩ v') := ((Trs.ofGrown hg).mono (fun k hk => List.mem_cons_of_mem _ hk)).set (by simp) _
  refine ⟨hb2, (h1.hash i hi).trs ht (fun hm => ?_), fun j hj => ?_, hc.trs ht (fun k hk hm => ?_)⟩
  · rcases List.mem_cons.1 hm with e | e
    · exact (h.apb i hi).2 e
    · exact h.aph i i hi hi (by simpa using e)
  · rw [← h1.tab j hj]
    simp only [World.cell?]
    rw [ht.block _ (Nat.lt_of_lt_of_le h.glob h1.size) (fun hm => ?_)]
    have hgl := h.glob
    rcases List.mem_cons.1 hm with e | e
    · have := h.geb; omega
    · have := (h.own i hi).lt _ (by simpa using e); omega
  · have h2 := (hc.lt k hk).1
    rcases List.mem_cons.1 hm with e | e
    · have := h.blk.lt; omega
    · have := (h.own i hi).lt k (by simpa using e); omega
theorem read_fin (h : PP w base b room V H X) (i : Nat) (hi : i < 2) {w1 w2 w4 : World} {v' : Value} {x' : WayL} (hb : Below w.heap.size w w1) (hg : w1.grownBy w2 (V i).ownBlock) (hO : OwnB w2 base v' x'.buf) (hv : v'.ownBlock = (V i).ownBlock)
    (hg4 : (w2.setCell ⟨b, 1 + 4 * i, none⟩ v').grownBy w4 (some (H i))) (hh : HashM w4 (H i) x'.read) (hsh : x'.shut = (X i).shut) (hwr : x'.wrote = (X i).wrote) (hl : x'.buf.length ≤ room) :
    PP w4 base b room (upd V i v') H (upd X i x') ∧ Trs (ppS b V H) w w4 := by
  have h1 := h.below hb
  have hb2 : Blk w2 b (ppc room V H X) := h1.blk.grown hg (h.apb i hi).1.symm
  have ht2 : Trs (b :: H i :: (V i).ownBlock.toList) w1 (w2.setCell ⟨b, 1 + 4 * i, none⟩ v') := ((Trs.ofGrown hg).mono (fun k hk => List.mem_cons_of_mem _ (List.mem_cons_of_mem _ hk))).set (by simp) _
  have ht : Trs (b :: H i :: (V i).ownBlock.toList) w1 w4 := ht2.grown hg4 (fun k e => by cases e; simp)
  have hne : v'.ownBlock ≠ some b := by rw [hv]; exact (h.apb i hi).1
  have hnh : v'.ownBlock ≠ some (H i) := by rw [hv]; exact h.aph i i hi hi
  obtain ⟨g1, g2, _⟩ := h1.turn i hi v' x' _ ht (fun k hk => by
      rcases List.mem_cons.1 hk with e | hk
      · exact .inl e
      · rcases List.mem_cons.1 hk with e | e
        · exact .inr (.inl e)
        · exact .inr (.inr (by simpa using e))) (by
      have := (hb2.set (1 + 4 * i) v').grown hg4 (fun e => (h.apb i hi).2 (Option.some.inj e).symm)
      rcases (show i = 0 ∨ i = 1 by omega) with rfl | rfl
      · have e : (ppc room V H X).set 1 v' = ppc room (upd V 0 v') H (upd X 0 x') := by
          show [_, v', .bool (X 0).shut, .int .u64 (un (X 0).wrote), _, _, _, _, _] = [_, v', .bool x'.shut, .int .u64 (un x'.wrote), _, _, _, _, _]
          rw [hsh, hwr]; rfl
        rw [← e]; exact this
      · have e : (ppc room V H X).set 5 v' = ppc room (upd V 1 v') H (upd X 1 x') := by
          show [_, _, _, _, _, v', .bool (X 1).shut, .int .u64 (un (X 1).wrote), _] = [_, _, _, _, _, v', .bool x'.shut, .int .u64 (un x'.wrote), _]
          rw [hsh, hwr]; rfl
        rw [← e]; exact this)
    ((hO.kept (grown_set w2 ⟨b, 1 + 4 * i, none⟩ v') (.inr hne)).kept hg4 (.inr hnh)) hh (fun k hk => .inl (by rw [← hv]; exact hk)) hl
  exact ⟨g1, (Trs.of_below hb).trans g2⟩
set_option maxHeartbeats 1000000 in
theorem read_0 (h : PP w base b room V H X) (m : Int) :
    Calls Tryd.prog 19 #[tP b, .int .i64 0, .int .i64 m] w fun e w' => ∃ v v', e = .returned (.tuple #[v, .int .i64 0]) ∧ OwnB w' w.heap.size v ((X 0).buf.take (rdN (X 0) m)) ∧ v'.ownBlock = (V 0).ownBlock ∧ PP w' base b room (upd V 0 v') H (upd X 0 (rdX (X 0) m)) ∧ Trs (ppS b V H) w w' := by
  have HD := Lib.hid (dir_ok b 0 (by omega) w)
  have HP := Lib.hid h
  have k0 : w.cell? ⟨b, 1, none⟩ = some (V 0) := h.blk.at (o := 1) rfl
  have hln := h.len 0 (by omega)
  have hr2 := h.r2
  have hgl : 1 ≠ H 0 := (by have := h.glob; have := h.geh 0 (by omega); omega)
  have hlt : H 0 < w.heap.size := (h.hash 0 (by omega)).lt
  have hbs := h.size
  obtain ⟨n, hn⟩ : ∃ n, n = rdN (X 0) m := ⟨_, rfl⟩
  obtain ⟨x2, hx2⟩ : ∃ x, x = rdX (X 0) m := ⟨_, rfl⟩
  rw [← hn, ← hx2]
  have hx3 : x2 = { X 0 with buf := (X 0).buf.drop n, read := (X 0).read ++ (X 0).buf.take n } := by rw [hx2, hn]; rfl
  have hnle : n ≤ (X 0).buf.length := by rw [hn]; unfold rdN; omega
  have HN := Lib.hid (show (m ≤ 0 ∧ (n : Int) = 0) ∨ (0 < m ∧ m ≤ ((X 0).buf.length : Int) ∧ (n : Int) = m) ∨ (¬ m ≤ ((X 0).buf.length : Int) ∧ 0 < (X 0).buf.length ∧ (n : Int) = ((X 0).buf.length : Int)) ∨ (0 < m ∧ (X 0).buf.length = 0 ∧ (n : Int) = 0) from by rw [hn]; unfold rdN; omega)
  obtain ⟨VA, VC, hV, _, q1, q2, _⟩ := (h.own 0 (by omega)).sl
  rw [hV] at k0
  have HV1 := Lib.hid hV; clear hV
  have HX3 := Lib.hid hx3
  have HH := Lib.hid (h.hash 0 (by omega))
  clear hn hx2 hx3 h
  obtain ⟨L, hL⟩ : ∃ L, L = (X 0).buf := ⟨_, rfl⟩
  rw [← hL] at hln hnle HN HV1 HX3 k0 q1 ⊢
  have HO0 : Hid (OwnB w base (.slice VA L.length VC) L) := Lib.hid (by rw [← HV1.out, hL]; exact HP.out.own 0 (by omega))
  clear hL
  obtain ⟨K, hK⟩ : ∃ K, K = L.length := ⟨_, rfl⟩
  rw [← hK] at hln hnle HN HV1 k0 q1 HO0
  have HSL := Lib.hid (show Sl w w.heap.size (.slice VA n VC) (L.take n) from by
    obtain ⟨A2, c2, e2, _, _, _, hsl⟩ := HO0.out.sl.take n (by rw [← hK]; exact hnle)
    injection e2 with e3 _ e4
    subst e3; subst e4
    exact hsl)
  have Hq : Hid ((L.take n).length = n) := Lib.hid (by rw [List.length_take, ← hK]; omega)
  obtain ⟨N, hNN⟩ : ∃ N : Int, N = (n : Int) := ⟨_, rfl⟩
  have hrun : ∀ w, (Instr.slice 29 (.slice VA K VC) none (some (.int .i64 N)) none).run Tryd.prog w = .ok (.slice VA n VC) w := by rw [hNN]; exact slice_h VA K VC n (by omega)
  rw [← hNN] at HN
  have HNN := Lib.hid hNN; clear hNN
  have hc0 : (0 : Int) ≤ (K : Int) := by omega
  have HHn := Lib.hid (show some b ≠ (Value.slice VA K VC).ownBlock from by rw [← HV1.out]; exact (HP.out.apb 0 (by omega)).1.symm)
  have HDel := Lib.hid (show ∀ W, OwnB W base (.slice VA K VC) L → Calls Tryd.prog 38 #[.slice VA K VC, .int .i64 0, .int .i64 N] W fun e w' => ∃ v', e = .returned v' ∧ OwnB w' base v' (L.drop n) ∧ v'.ownBlock = (Value.slice VA K VC).ownBlock ∧ W.grownBy w' (Value.slice VA K VC).ownBlock from fun W hO => by
    rw [HNN.out]; exact del_first base _ L n W hO (by rw [← hK]; exact hnle) (by rw [← hK]; omega))
  have HVb := Lib.hid (show (V 0).ownBlock = (Value.slice VA K VC).ownBlock from by rw [HV1.out])
  have HK := Lib.hid hK; clear hK
  rcases HN.out with ⟨hc, rfl⟩ | ⟨hc, hc2, rfl⟩ | ⟨hc, hc2, rfl⟩ | ⟨hc, hc2, rfl⟩
  · go_enter Tryd.func19, Tryd.ntmps19
    go_wp2_with fail
    refine HD.out.mono ?_
    rintro e w' ⟨rfl, rfl⟩
    go_wp2_with fail
    refine (clone_all w'.heap.size _ (L.take n) w' HSL.out (Nat.le_refl _) (by rw [Hq.out]; omega)).mono ?_
    rintro e w1 ⟨vc, rfl, hOc, hB1⟩
    obtain ⟨CA, CC, rfl, _, _, _, _⟩ := hOc.sl
    have HOc := Lib.hid hOc
    have HB1 := Lib.hid hB1
    have hk1 := (HP.out.below hB1).blk
    have c1 : w1.cell? ⟨b, 1, none⟩ = some (.slice VA K VC) := (hB1.cell (p := ⟨b, 1, none⟩) HP.out.blk.lt).trans k0
    have f1 := hk1.free 1
    have HO1 := Lib.hid (HO0.out.below hB1)
    have HK1 := Lib.hid hk1
    clear hOc hB1 hk1 k0
    rw [Hq.out] at HOc ⊢
    go_wp2_with fail
    refine (HDel.out w1 HO1.out).mono ?_
    rintro e w2 ⟨v2, rfl, hO2, hob, hg2⟩
    obtain ⟨DA, DC, rfl, _, _, _, _⟩ := hO2.sl
    obtain ⟨dl, hdl⟩ : ∃ dl, dl = (L.drop n).length := ⟨_, rfl⟩
    rw [← hdl] at hO2 hob ⊢
    clear hdl
    have hg2' : w1.grownBy w2 (V 0).ownBlock := (by rw [HVb.out]; exact hg2)
    have HM := Lib.hid (read_mid (v' := .slice DA dl DC) HP.out 0 (by omega) HB1.out HOc.out hg2')
    have hk2 := HM.out.1
    have e0 := hk2.at (o := 1) rfl
    have e1 := hk2.free 1
    have e3 := hk2.at (o := 4) rfl
    have HO2 := Lib.hid hO2
    have Hob := Lib.hid hob
    have Hg2 := Lib.hid hg2'
    clear hk2 hO2 hob hg2 hg2'
    go_wp2_with fail
    obtain ⟨CA', CC', ec, hsrc⟩ := (HM.out.2.2.2).src (hb := H 0) hlt (by rw [Hq.out]; omega)
    rw [Hq.out] at ec
    injection ec with ec1 _ ec2
    subst ec1; subst ec2
    have HWM := Lib.hid (write_m (H 0) (X 0).read CA CC (L.take n) _ HM.out.2.1 hsrc HM.out.2.2.1 hgl)
    rw [Hq.out] at HWM
    clear hsrc
    refine HWM.out.mono ?_
    rintro e w4 ⟨rfl, hh4, hg4⟩
    have HF := Lib.hid (read_fin (x' := x2) HP.out 0 (by omega) HB1.out Hg2.out (by rw [HX3.out]; exact HO2.out) (by rw [HVb.out]; exact Hob.out) hg4 (by rw [HX3.out]; exact hh4) (by rw [HX3.out]) (by rw [HX3.out]) (by rw [HX3.out]; show (L.drop n).length ≤ room; rw [List.length_drop, ← HK.out]; omega))
    have HOf := Lib.hid ((HM.out.2.2.2).kept hg4 (by cases hvv : (Value.slice CA n CC).ownBlock; exact .inl rfl; right; intro e; have := (HM.out.2.2.2).lt _ hvv; have := Option.some.inj e; omega))
    clear hh4 hg4
    go_wp2_with fail
    go_ret2
    exact ⟨_, _, rfl, HOf.out, by rw [HVb.out]; exact Hob.out, HF.out⟩
  · go_enter Tryd.func19, Tryd.ntmps19
    go_wp2_with fail
    refine HD.out.mono ?_
    rintro e w' ⟨rfl, rfl⟩
    go_wp2_with fail
    refine (clone_all w'.heap.size _ (L.take n) w' HSL.out (Nat.le_refl _) (by rw [Hq.out]; omega)).mono ?_
    rintro e w1 ⟨vc, rfl, hOc, hB1⟩
    obtain ⟨CA, CC, rfl, _, _, _, _⟩ := hOc.sl
    have HOc := Lib.hid hOc
    have HB1 := Lib.hid hB1
    have hk1 := (HP.out.below hB1).blk
    have c1 : w1.cell? ⟨b, 1, none⟩ = some (.slice VA K VC) := (hB1.cell (p := ⟨b, 1, none⟩) HP.out.blk.lt).trans k0
    have f1 := hk1.free 1
    have HO1 := Lib.hid (HO0.out.below hB1)
    have HK1 := Lib.hid hk1
    clear hOc hB1 hk1 k0
    rw [Hq.out] at HOc ⊢
    go_wp2_with fail
    refine (HDel.out w1 HO1.out).mono ?_
    rintro e w2 ⟨v2, rfl, hO2, hob, hg2⟩
    obtain ⟨DA, DC, rfl, _, _, _, _⟩ := hO2.sl
    obtain ⟨dl, hdl⟩ : ∃ dl, dl = (L.drop n).length := ⟨_, rfl⟩
    rw [← hdl] at hO2 hob ⊢
    clear hdl
    have hg2' : w1.grownBy w2 (V 0).ownBlock := (by rw [HVb.out]; exact hg2)
    have HM := Lib.hid (read_mid (v' := .slice DA dl DC) HP.out 0 (by omega) HB1.out HOc.out hg2')
    have hk2 := HM.out.1
    have e0 := hk2.at (o := 1) rfl
    have e1 := hk2.free 1
    have e3 := hk2.at (o := 4) rfl
    have HO2 := Lib.hid hO2
    have Hob := Lib.hid hob
    have Hg2 := Lib.hid hg2'
    clear hk2 hO2 hob hg2 hg2'
    go_wp2_with fail
    obtain ⟨CA', CC', ec, hsrc⟩ := (HM.out.2.2.2).src (hb := H 0) hlt (by rw [Hq.out]; omega)
    rw [Hq.out] at ec
    injection ec with ec1 _ ec2
    subst ec1; subst ec2
    have HWM := Lib.hid (write_m (H 0) (X 0).read CA CC (L.take n) _ HM.out.2.1 hsrc HM.out.2.2.1 hgl)
    rw [Hq.out] at HWM
    clear hsrc
    refine HWM.out.mono ?_
    rintro e w4 ⟨rfl, hh4, hg4⟩
    have HF := Lib.hid (read_fin (x' := x2) HP.out 0 (by omega) HB1.out Hg2.out (by rw [HX3.out]; exact HO2.out) (by rw [HVb.out]; exact Hob.out) hg4 (by rw [HX3.out]; exact hh4) (by rw [HX3.out]) (by rw [HX3.out]) (by rw [HX3.out]; show (L.drop n).length ≤ room; rw [List.length_drop, ← HK.out]; omega))
    have HOf := Lib.hid ((HM.out.2.2.2).kept hg4 (by cases hvv : (Value.slice CA n CC).ownBlock; exact .inl rfl; right; intro e; have := (HM.out.2.2.2).lt _ hvv; have := Option.some.inj e; omega))
    clear hh4 hg4
    go_wp2_with fail
    go_ret2
    exact ⟨_, _, rfl, HOf.out, by rw [HVb.out]; exact Hob.out, HF.out⟩
  · obtain rfl : n = K := by have := HNN.out; omega
    go_enter Tryd.func19, Tryd.ntmps19
    go_wp2_with fail
    refine HD.out.mono ?_
    rintro e w' ⟨rfl, rfl⟩
    go_wp2_with fail
    refine (clone_all w'.heap.size _ (L.take n) w' HSL.out (Nat.le_refl _) (by rw [Hq.out]; omega)).mono ?_
    rintro e w1 ⟨vc, rfl, hOc, hB1⟩
    obtain ⟨CA, CC, rfl, _, _, _, _⟩ := hOc.sl
    have HOc := Lib.hid hOc
    have HB1 := Lib.hid hB1
    have hk1 := (HP.out.below hB1).blk
    have c1 : w1.cell? ⟨b, 1, none⟩ = some (.slice VA n VC) := (hB1.cell (p := ⟨b, 1, none⟩) HP.out.blk.lt).trans k0
    have f1 := hk1.free 1
    have HO1 := Lib.hid (HO0.out.below hB1)
    have HK1 := Lib.hid hk1
    clear hOc hB1 hk1 k0
    rw [Hq.out] at HOc ⊢
    go_wp2_with fail
    refine (HDel.out w1 HO1.out).mono ?_
    rintro e w2 ⟨v2, rfl, hO2, hob, hg2⟩
    obtain ⟨DA, DC, rfl, _, _, _, _⟩ := hO2.sl
    obtain ⟨dl, hdl⟩ : ∃ dl, dl = (L.drop n).length := ⟨_, rfl⟩
    rw [← hdl] at hO2 hob ⊢
    clear hdl
    have hg2' : w1.grownBy w2 (V 0).ownBlock := (by rw [HVb.out]; exact hg2)
    have HM := Lib.hid (read_mid (v' := .slice DA dl DC) HP.out 0 (by omega) HB1.out HOc.out hg2')
    have hk2 := HM.out.1
    have e0 := hk2.at (o := 1) rfl
    have e1 := hk2.free 1
    have e3 := hk2.at (o := 4) rfl
    have HO2 := Lib.hid hO2
    have Hob := Lib.hid hob
    have Hg2 := Lib.hid hg2'
    clear hk2 hO2 hob hg2 hg2'
    go_wp2_with fail
    obtain ⟨CA', CC', ec, hsrc⟩ := (HM.out.2.2.2).src (hb := H 0) hlt (by rw [Hq.out]; omega)
    rw [Hq.out] at ec
    injection ec with ec1 _ ec2
    subst ec1; subst ec2
    have HWM := Lib.hid (write_m (H 0) (X 0).read CA CC (L.take n) _ HM.out.2.1 hsrc HM.out.2.2.1 hgl)
    rw [Hq.out] at HWM
    clear hsrc
    refine HWM.out.mono ?_
    rintro e w4 ⟨rfl, hh4, hg4⟩
    have HF := Lib.hid (read_fin (x' := x2) HP.out 0 (by omega) HB1.out Hg2.out (by rw [HX3.out]; exact HO2.out) (by rw [HVb.out]; exact Hob.out) hg4 (by rw [HX3.out]; exact hh4) (by rw [HX3.out]) (by rw [HX3.out]) (by rw [HX3.out]; show (L.drop n).length ≤ room; rw [List.length_drop, ← HK.out]; omega))
    have HOf := Lib.hid ((HM.out.2.2.2).kept hg4 (by cases hvv : (Value.slice CA n CC).ownBlock; exact .inl rfl; right; intro e; have := (HM.out.2.2.2).lt _ hvv; have := Option.some.inj e; omega))
    clear hh4 hg4
    go_wp2_with fail
    go_ret2
    exact ⟨_, _, rfl, HOf.out, by rw [HVb.out]; exact Hob.out, HF.out⟩

  · obtain rfl : n = 0 := by have := HNN.out; omega
    subst hc2
    go_enter Tryd.func19, Tryd.ntmps19
    go_wp2_with fail
    refine HD.out.mono ?_
    rintro e w' ⟨rfl, rfl⟩
    go_wp2_with fail
    refine (clone_all w'.heap.size _ (L.take 0) w' HSL.out (Nat.le_refl _) (by rw [Hq.out]; omega)).mono ?_
    rintro e w1 ⟨vc, rfl, hOc, hB1⟩
    obtain ⟨CA, CC, rfl, _, _, _, _⟩ := hOc.sl
    have HOc := Lib.hid hOc
    have HB1 := Lib.hid hB1
    have hk1 := (HP.out.below hB1).blk
    have c1 : w1.cell? ⟨b, 1, none⟩ = some (.slice VA 0 VC) := (hB1.cell (p := ⟨b, 1, none⟩) HP.out.blk.lt).trans k0
    have f1 := hk1.free 1
    have HO1 := Lib.hid (HO0.out.below hB1)
    have HK1 := Lib.hid hk1
    clear hOc hB1 hk1 k0
    rw [Hq.out] at HOc ⊢
    go_wp2_with fail
    refine (HDel.out w1 HO1.out).mono ?_
    rintro e w2 ⟨v2, rfl, hO2, hob, hg2⟩
    obtain ⟨DA, DC, rfl, _, _, _, _⟩ := hO2.sl
    obtain ⟨dl, hdl⟩ : ∃ dl, dl = (L.drop 0).length := ⟨_, rfl⟩
    rw [← hdl] at hO2 hob ⊢
    clear hdl
    have hg2' : w1.grownBy w2 (V 0).ownBlock := (by rw [HVb.out]; exact hg2)
    have HM := Lib.hid (read_mid (v' := .slice DA dl DC) HP.out 0 (by omega) HB1.out HOc.out hg2')
    have hk2 := HM.out.1
    have e0 := hk2.at (o := 1) rfl
    have e1 := hk2.free 1
    have e3 := hk2.at (o := 4) rfl
    have HO2 := Lib.hid hO2
    have Hob := Lib.hid hob
    have Hg2 := Lib.hid hg2'
    clear hk2 hO2 hob hg2 hg2'
    go_wp2_with fail
    obtain ⟨CA', CC', ec, hsrc⟩ := (HM.out.2.2.2).src (hb := H 0) hlt (by rw [Hq.out]; omega)
    rw [Hq.out] at ec
    injection ec with ec1 _ ec2
    subst ec1; subst ec2
    have HWM := Lib.hid (write_m (H 0) (X 0).read CA CC (L.take 0) _ HM.out.2.1 hsrc HM.out.2.2.1 hgl)
    rw [Hq.out] at HWM
    clear hsrc
    refine HWM.out.mono ?_
    rintro e w4 ⟨rfl, hh4, hg4⟩
    have HF := Lib.hid (read_fin (x' := x2) HP.out 0 (by omega) HB1.out Hg2.out (by rw [HX3.out]; exact HO2.out) (by rw [HVb.out]; exact Hob.out) hg4 (by rw [HX3.out]; exact hh4) (by rw [HX3.out]) (by rw [HX3.out]) (by rw [HX3.out]; show (L.drop 0).length ≤ room; rw [List.length_drop, ← HK.out]; omega))
    have HOf := Lib.hid ((HM.out.2.2.2).kept hg4 (by cases hvv : (Value.slice CA 0 CC).ownBlock; exact .inl rfl; right; intro e; have := (HM.out.2.2.2).lt _ hvv; have := Option.some.inj e; omega))
    clear hh4 hg4
    go_wp2_with fail
    go_ret2
    exact ⟨_, _, rfl, HOf.out, by rw [HVb.out]; exact Hob.out, HF.out⟩
set_option maxHeartbeats 1000000 in
theorem read_1 (h : PP w base b room V H X) (m : Int) :
    Calls Tryd.prog 19 #[tP b, .int .i64 1, .int .i64 m] w fun e w' => ∃ v v', e = .returned (.tuple #[v, .int .i64 0]) ∧ OwnB w' w.heap.size v ((X 1).buf.take (rdN (X 1) m)) ∧ v'.ownBlock = (V 1).ownBlock ∧ PP w' base b room (upd V 1 v') H (upd X 1 (rdX (X 1) m)) ∧ Trs (ppS b V H) w w' := by
  have HD := Lib.hid (dir_ok b 1 (by omega) w)
  have HP := Lib.hid h
  have k0 : w.cell? ⟨b, 5, none⟩ = some (V 1) := h.blk.at (o := 5) rfl
  have hln := h.len 1 (by omega)
  have hr2 := h.r2
  have hgl : 1 ≠ H 1 := (by have := h.glob; have := h.geh 1 (by omega); omega)
  have hlt : H 1 < w.heap.size := (h.hash 1 (by omega)).lt
  have hbs := h.size
  obtain ⟨n, hn⟩ : ∃ n, n = rdN (X 1) m := ⟨_, rfl⟩
  obtain ⟨x2, hx2⟩ : ∃ x, x = rdX (X 1) m := ⟨_, rfl⟩
  rw [← hn, ← hx2]
  have hx3 : x2 = { X 1 with buf := (X 1).buf.drop n, read := (X 1).read ++ (X 1).buf.take n } := by rw [hx2, hn]; rfl
  have hnle : n ≤ (X 1).buf.length := by rw [hn]; unfold rdN; omega
  have HN := Lib.hid (show (m ≤ 0 ∧ (n : Int) = 0) ∨ (0 < m ∧ m ≤ ((X 1).buf.length : Int) ∧ (n : Int) = m) ∨ (¬ m ≤ ((X 1).buf.length : Int) ∧ 0 < (X 1).buf.length ∧ (n : Int) = ((X 1).buf.length : Int)) ∨ (0 < m ∧ (X 1).buf.length = 0 ∧ (n : Int) = 0) from by rw [hn]; unfold rdN; omega)
  obtain ⟨VA, VC, hV, _, q1, q2, _⟩ := (h.own 1 (by omega)).sl
  rw [hV] at k0
  have HV1 := Lib.hid hV; clear hV
  have HX3 := Lib.hid hx3
  have HH := Lib.hid (h.hash 1 (by omega))
  clear hn hx2 hx3 h
  obtain ⟨L, hL⟩ : ∃ L, L = (X 1).buf := ⟨_, rfl⟩
  rw [← hL] at hln hnle HN HV1 HX3 k0 q1 ⊢
  have HO0 : Hid (OwnB w base (.slice VA L.length VC) L) := Lib.hid (by rw [← HV1.out, hL]; exact HP.out.own 1 (by omega))
  clear hL
  obtain ⟨K, hK⟩ : ∃ K, K = L.length := ⟨_, rfl⟩
  rw [← hK] at hln hnle HN HV1 k0 q1 HO0
  have HSL := Lib.hid (show Sl w w.heap.size (.slice VA n VC) (L.take n) from by
    obtain ⟨A2, c2, e2, _, _, _, hsl⟩ := HO0.out.sl.take n (by rw [← hK]; exact hnle)
    injection e2 with e3 _ e4
    subst e3; subst e4
    exact hsl)
  have Hq : Hid ((L.take n).length = n) := Lib.hid (by rw [List.length_take, ← hK]; omega)
  obtain ⟨N, hNN⟩ : ∃ N : Int, N = (n : Int) := ⟨_, rfl⟩
  have hrun : ∀ w, (Instr.slice 29 (.slice VA K VC) none (some (.int .i64 N)) none).run Tryd.prog w = .ok (.slice VA n VC) w := by rw [hNN]; exact slice_h VA K VC n (by omega)
  rw [← hNN] at HN
  have HNN := Lib.hid hNN; clear hNN
  have hc0 : (0 : Int) ≤ (K : Int) := by omega
  have HHn := Lib.hid (show some b ≠ (Value.slice VA K VC).ownBlock from by rw [← HV1.out]; exact (HP.out.apb 1 (by omega)).1.symm)
  have HDel := Lib.hid (show ∀ W, OwnB W base (.slice VA K VC) L → Calls Tryd.prog 38 #[.slice VA K VC, .int .i64 0, .int .i64 N] W fun e w' => ∃ v', e = .returned v' ∧ OwnB w' base v' (L.drop n) ∧ v'.ownBlock = (Value.slice VA K VC).ownBlock ∧ W.grownBy w' (Value.slice VA K VC).ownBlock from fun W hO => by
    rw [HNN.out]; exact del_first base _ L n W hO (by rw [← hK]; exact hnle) (by rw [← hK]; omega))
  have HVb := Lib.hid (show (V 1).ownBlock = (Value.slice VA K VC).ownBlock from by rw [HV1.out])
  have HK := Lib.hid hK; clear hK
  rcases HN.out with ⟨hc, rfl⟩ | ⟨hc, hc2, rfl⟩ | ⟨hc, hc2, rfl⟩ | ⟨hc, hc2, rfl⟩
  · go_enter Tryd.func19, Tryd.ntmps19
    go_wp2_with fail
    refine HD.out.mono ?_
    rintro e w' ⟨rfl, rfl⟩
    go_wp2_with fail
    refine (clone_all w'.heap.size _ (L.take n) w' HSL.out (Nat.le_refl _) (by rw [Hq.out]; omega)).mono ?_
    rintro e w1 ⟨vc, rfl, hOc, hB1⟩
    obtain ⟨CA, CC, rfl, _, _, _, _⟩ := hOc.sl
    have HOc := Lib.hid hOc
    have HB1 := Lib.hid hB1
    have hk1 := (HP.out.below hB1).blk
    have c1 : w1.cell? ⟨b, 5, none⟩ = some (.slice VA K VC) := (hB1.cell (p := ⟨b, 5, none⟩) HP.out.blk.lt).trans k0
    have f1 := hk1.free 5
    have HO1 := Lib.hid (HO0.out.below hB1)
    have HK1 := Lib.hid hk1
    clear hOc hB1 hk1 k0
    rw [Hq.out] at HOc ⊢
    go_wp2_with fail
    refine (HDel.out w1 HO1.out).mono ?_
    rintro e w2 ⟨v2, rfl, hO2, hob, hg2⟩
    obtain ⟨DA, DC, rfl, _, _, _, _⟩ := hO2.sl
    obtain ⟨dl, hdl⟩ : ∃ dl, dl = (L.drop n).length := ⟨_, rfl⟩
    rw [← hdl] at hO2 hob ⊢
    clear hdl
    have hg2' : w1.grownBy w2 (V 1).ownBlock := (by rw [HVb.out]; exact hg2)
    have HM := Lib.hid (read_mid (v' := .slice DA dl DC) HP.out 1 (by omega) HB1.out HOc.out hg2')
    have hk2 := HM.out.1
    have e0 := hk2.at (o := 5) rfl
    have e1 := hk2.free 5
    have e3 := hk2.at (o := 8) rfl
    have HO2 := Lib.hid hO2
    have Hob := Lib.hid hob
    have Hg2 := Lib.hid hg2'
    clear hk2 hO2 hob hg2 hg2'
    go_wp2_with fail
    obtain ⟨CA', CC', ec, hsrc⟩ := (HM.out.2.2.2).src (hb := H 1) hlt (by rw [Hq.out]; omega)
    rw [Hq.out] at ec
    injection ec with ec1 _ ec2
    subst ec1; subst ec2
    have HWM := Lib.hid (write_m (H 1) (X 1).read CA CC (L.take n) _ HM.out.2.1 hsrc HM.out.2.2.1 hgl)
    rw [Hq.out] at HWM
    clear hsrc
    refine HWM.out.mono ?_
    rintro e w4 ⟨rfl, hh4, hg4⟩
    have HF := Lib.hid (read_fin (x' := x2) HP.out 1 (by omega) HB1.out Hg2.out (by rw [HX3.out]; exact HO2.out) (by rw [HVb.out]; exact Hob.out) hg4 (by rw [HX3.out]; exact hh4) (by rw [HX3.out]) (by rw [HX3.out]) (by rw [HX3.out]; show (L.drop n).length ≤ room; rw [List.length_drop, ← HK.out]; omega))
    have HOf := Lib.hid ((HM.out.2.2.2).kept hg4 (by cases hvv : (Value.slice CA n CC).ownBlock; exact .inl rfl; right; intro e; have := (HM.out.2.2.2).lt _ hvv; have := Option.some.inj e; omega))
    clear hh4 hg4
    go_wp2_with fail
    go_ret2
    exact ⟨_, _, rfl, HOf.out, by rw [HVb.out]; exact Hob.out, HF.out⟩
  · go_enter Tryd.func19, Tryd.ntmps19
    go_wp2_with fail
    refine HD.out.mono ?_
    rintro e w' ⟨rfl, rfl⟩
    go_wp2_with fail
    refine (clone_all w'.heap.size _ (L.take n) w' HSL.out (Nat.le_refl _) (by rw [Hq.out]; omega)).mono ?_
    rintro e w1 ⟨vc, rfl, hOc, hB1⟩
    obtain ⟨CA, CC, rfl, _, _, _, _⟩ := hOc.sl
    have HOc := Lib.hid hOc
    have HB1 := Lib.hid hB1
    have hk1 := (HP.out.below hB1).blk
    have c1 : w1.cell? ⟨b, 5, none⟩ = some (.slice VA K VC) := (hB1.cell (p := ⟨b, 5, none⟩) HP.out.blk.lt).trans k0
    have f1 := hk1.free 5
    have HO1 := Lib.hid (HO0.out.below hB1)
    have HK1 := Lib.hid hk1
    clear hOc hB1 hk1 k0
    rw [Hq.out] at HOc ⊢
    go_wp2_with fail
    refine (HDel.out w1 HO1.out).mono ?_
    rintro e w2 ⟨v2, rfl, hO2, hob, hg2⟩
    obtain ⟨DA, DC, rfl, _, _, _, _⟩ := hO2.sl
    obtain ⟨dl, hdl⟩ : ∃ dl, dl = (L.drop n).length := ⟨_, rfl⟩
    rw [← hdl] at hO2 hob ⊢
    clear hdl
    have hg2' : w1.grownBy w2 (V 1).ownBlock := (by rw [HVb.out]; exact hg2)
    have HM := Lib.hid (read_mid (v' := .slice DA dl DC) HP.out 1 (by omega) HB1.out HOc.out hg2')
    have hk2 := HM.out.1
    have e0 := hk2.at (o := 5) rfl
    have e1 := hk2.free 5
    have e3 := hk2.at (o := 8) rfl
    have HO2 := Lib.hid hO2
    have Hob := Lib.hid hob
    have Hg2 := Lib.hid hg2'
    clear hk2 hO2 hob hg2 hg2'
    go_wp2_with fail
    obtain ⟨CA', CC', ec, hsrc⟩ := (HM.out.2.2.2).src (hb := H 1) hlt (by rw [Hq.out]; omega)
    rw [Hq.out] at ec
    injection ec with ec1 _ ec2
    subst ec1; subst ec2
    have HWM := Lib.hid (write_m (H 1) (X 1).read CA CC (L.take n) _ HM.out.2.1 hsrc HM.out.2.2.1 hgl)
    rw [Hq.out] at HWM
    clear hsrc
    refine HWM.out.mono ?_
    rintro e w4 ⟨rfl, hh4, hg4⟩
    have HF := Lib.hid (read_fin (x' := x2) HP.out 1 (by omega) HB1.out Hg2.out (by rw [HX3.out]; exact HO2.out) (by rw [HVb.out]; exact Hob.out) hg4 (by rw [HX3.out]; exact hh4) (by rw [HX3.out]) (by rw [HX3.out]) (by rw [HX3.out]; show (L.drop n).length ≤ room; rw [List.length_drop, ← HK.out]; omega))
    have HOf := Lib.hid ((HM.out.2.2.2).kept hg4 (by cases hvv : (Value.slice CA n CC).ownBlock; exact .inl rfl; right; intro e; have := (HM.out.2.2.2).lt _ hvv; have := Option.some.inj e; omega))
    clear hh4 hg4
    go_wp2_with fail
    go_ret2
    exact ⟨_, _, rfl, HOf.out, by rw [HVb.out]; exact Hob.out, HF.out⟩
  · obtain rfl : n = K := by have := HNN.out; omega
    go_enter Tryd.func19, Tryd.ntmps19
    go_wp2_with fail
    refine HD.out.mono ?_
    rintro e w' ⟨rfl, rfl⟩
    go_wp2_with fail
    refine (clone_all w'.heap.size _ (L.take n) w' HSL.out (Nat.le_refl _) (by rw [Hq.out]; omega)).mono ?_
    rintro e w1 ⟨vc, rfl, hOc, hB1⟩
    obtain ⟨CA, CC, rfl, _, _, _, _⟩ := hOc.sl
    have HOc := Lib.hid hOc
    have HB1 := Lib.hid hB1
    have hk1 := (HP.out.below hB1).blk
    have c1 : w1.cell? ⟨b, 5, none⟩ = some (.slice VA n VC) := (hB1.cell (p := ⟨b, 5, none⟩) HP.out.blk.lt).trans k0
    have f1 := hk1.free 5
    have HO1 := Lib.hid (HO0.out.below hB1)
    have HK1 := Lib.hid hk1
    clear hOc hB1 hk1 k0
    rw [Hq.out] at HOc ⊢
    go_wp2_with fail
    refine (HDel.out w1 HO1.out).mono ?_
    rintro e w2 ⟨v2, rfl, hO2, hob, hg2⟩
    obtain ⟨DA, DC, rfl, _, _, _, _⟩ := hO2.sl
    obtain ⟨dl, hdl⟩ : ∃ dl, dl = (L.drop n).length := ⟨_, rfl⟩
    rw [← hdl] at hO2 hob ⊢
    clear hdl
    have hg2' : w1.grownBy w2 (V 1).ownBlock := (by rw [HVb.out]; exact hg2)
    have HM := Lib.hid (read_mid (v' := .slice DA dl DC) HP.out 1 (by omega) HB1.out HOc.out hg2')
    have hk2 := HM.out.1
    have e0 := hk2.at (o := 5) rfl
    have e1 := hk2.free 5
    have e3 := hk2.at (o := 8) rfl
    have HO2 := Lib.hid hO2
    have Hob := Lib.hid hob
    have Hg2 := Lib.hid hg2'
    clear hk2 hO2 hob hg2 hg2'
    go_wp2_with fail
    obtain ⟨CA', CC', ec, hsrc⟩ := (HM.out.2.2.2).src (hb := H 1) hlt (by rw [Hq.out]; omega)
    rw [Hq.out] at ec
    injection ec with ec1 _ ec2
    subst ec1; subst ec2
    have HWM := Lib.hid (write_m (H 1) (X 1).read CA CC (L.take n) _ HM.out.2.1 hsrc HM.out.2.2.1 hgl)
    rw [Hq.out] at HWM
    clear hsrc
    refine HWM.out.mono ?_
    rintro e w4 ⟨rfl, hh4, hg4⟩
    have HF := Lib.hid (read_fin (x' := x2) HP.out 1 (by omega) HB1.out Hg2.out (by rw [HX3.out]; exact HO2.out) (by rw [HVb.out]; exact Hob.out) hg4 (by rw [HX3.out]; exact hh4) (by rw [HX3.out]) (by rw [HX3.out]) (by rw [HX3.out]; show (L.drop n).length ≤ room; rw [List.length_drop, ← HK.out]; omega))
    have HOf := Lib.hid ((HM.out.2.2.2).kept hg4 (by cases hvv : (Value.slice CA n CC).ownBlock; exact .inl rfl; right; intro e; have := (HM.out.2.2.2).lt _ hvv; have := Option.some.inj e; omega))
    clear hh4 hg4
    go_wp2_with fail
    go_ret2
    exact ⟨_, _, rfl, HOf.out, by rw [HVb.out]; exact Hob.out, HF.out⟩

  · obtain rfl : n = 0 := by have := HNN.out; omega
    subst hc2
    go_enter Tryd.func19, Tryd.ntmps19
    go_wp2_with fail
    refine HD.out.mono ?_
    rintro e w' ⟨rfl, rfl⟩
    go_wp2_with fail
    refine (clone_all w'.heap.size _ (L.take 0) w' HSL.out (Nat.le_refl _) (by rw [Hq.out]; omega)).mono ?_
    rintro e w1 ⟨vc, rfl, hOc, hB1⟩
    obtain ⟨CA, CC, rfl, _, _, _, _⟩ := hOc.sl
    have HOc := Lib.hid hOc
    have HB1 := Lib.hid hB1
    have hk1 := (HP.out.below hB1).blk
    have c1 : w1.cell? ⟨b, 5, none⟩ = some (.slice VA 0 VC) := (hB1.cell (p := ⟨b, 5, none⟩) HP.out.blk.lt).trans k0
    have f1 := hk1.free 5
    have HO1 := Lib.hid (HO0.out.below hB1)
    have HK1 := Lib.hid hk1
    clear hOc hB1 hk1 k0
    rw [Hq.out] at HOc ⊢
    go_wp2_with fail
    refine (HDel.out w1 HO1.out).mono ?_
    rintro e w2 ⟨v2, rfl, hO2, hob, hg2⟩
    obtain ⟨DA, DC, rfl, _, _, _, _⟩ := hO2.sl
    obtain ⟨dl, hdl⟩ : ∃ dl, dl = (L.drop 0).length := ⟨_, rfl⟩
    rw [← hdl] at hO2 hob ⊢
    clear hdl
    have hg2' : w1.grownBy w2 (V 1).ownBlock := (by rw [HVb.out]; exact hg2)
    have HM := Lib.hid (read_mid (v' := .slice DA dl DC) HP.out 1 (by omega) HB1.out HOc.out hg2')
    have hk2 := HM.out.1
    have e0 := hk2.at (o := 5) rfl
    have e1 := hk2.free 5
    have e3 := hk2.at (o := 8) rfl
    have HO2 := Lib.hid hO2
    have Hob := Lib.hid hob
    have Hg2 := Lib.hid hg2'
    clear hk2 hO2 hob hg2 hg2'
    go_wp2_with fail
    obtain ⟨CA', CC', ec, hsrc⟩ := (HM.out.2.2.2).src (hb := H 1) hlt (by rw [Hq.out]; omega)
    rw [Hq.out] at ec
    injection ec with ec1 _ ec2
    subst ec1; subst ec2
    have HWM := Lib.hid (write_m (H 1) (X 1).read CA CC (L.take 0) _ HM.out.2.1 hsrc HM.out.2.2.1 hgl)
    rw [Hq.out] at HWM
    clear hsrc
    refine HWM.out.mono ?_
    rintro e w4 ⟨rfl, hh4, hg4⟩
    have HF := Lib.hid (read_fin (x' := x2) HP.out 1 (by omega) HB1.out Hg2.out (by rw [HX3.out]; exact HO2.out) (by rw [HVb.out]; exact Hob.out) hg4 (by rw [HX3.out]; exact hh4) (by rw [HX3.out]) (by rw [HX3.out]) (by rw [HX3.out]; show (L.drop 0).length ≤ room; rw [List.length_drop, ← HK.out]; omega))
    have HOf := Lib.hid ((HM.out.2.2.2).kept hg4 (by cases hvv : (Value.slice CA 0 CC).ownBlock; exact .inl rfl; right; intro e; have := (HM.out.2.2.2).lt _ hvv; have := Option.some.inj e; omega))
    clear hh4 hg4
    go_wp2_with fail
    go_ret2
    exact ⟨_, _, rfl, HOf.out, by rw [HVb.out]; exact Hob.out, HF.out⟩
end
end Go.Proofs.YtlobmffcnobgeaaDoor
set_option maxRecDepth 100000
namespace Go.Proofs.YtlobmffcnobgeaaDoor
open Go.RowKit
attribute [local go_sem] Oper.semAt_some
theorem wpOp_valueW {P : Program} {ops : Array Oper} {Q : Exit → Act → World → Prop} {K : Act → World → Prop} {a : Act} {w : World} {i : Nat} {o : Oper} (d : Tmp) (hi : ops[i]? = some o) (hd : o.dst = some d) (hw : Region.wanted o (yielded ops a.tmps) = true) (v : Value) (w' : World) (hr : (execOp a.eval o).run P w = .ok (.value v) w') (h : K (a.put (some d) v) w') : wpOp P ops Q i K a w :=
  wpOp_of_wp hi hw (by unfold Oper.wp; rw [hr]; rw [← hd] at h; exact h)
def dirc (v : Value) (h : Nat) : List Value := [v, .bool false, .int .u64 0, tP h]
def zeroc : List Value := [.slice none 0 0, .bool false, .int .u64 0, .pointer none]
def newc (room k : Nat) (V : Nat → Value) (H : Nat → Nat) : List Value :=
  .int .i64 (room : Int) :: ((if 0 < k then dirc (V 0) (H 0) else zeroc) ++ (if 1 < k then dirc (V 1) (H 1) else zeroc))
/-- The Pipe under way: k directions are laid. -/
structure NW (w0 w : World) (room k : Nat) (V : Nat → Value) (H : Nat → Nat) : Prop where
  blk : Blk w w0.heap.size (newc room k V H)
  own : ∀ i, i < k → OwnB w w0.heap.size (V i) [] ∧ ∃ g, (V i).ownBlock = some g ∧ w0.heap.size < g
  hash : ∀ i, i < k → HashM w (H i) [] ∧ w0.heap.size < H i
  ap : ∀ i j, i < k → j < k → (V i).ownBlock ≠ some (H j)
  app : ∀ i j, i < j → j < k → (V i).ownBlock ≠ (V j).ownBlock ∧ H i ≠ H j
  below : Below w0.heap.size w0 w
theorem NW.step {w0 w w3 : World} {room k : Nat} {V : Nat → Value} {H : Nat → Nat} (h : NW w0 w room k V H) (hk : k < 2) (v : Value) (g hh : Nat) (hb : Below w.heap.size w w3) (ho : OwnB w3 w.heap.size v []) (hv : v.ownBlock = some g) (hm : HashM w3 hh []) (hge : w.heap.size ≤ hh) (hne : g ≠ hh) :
    NW w0 (w3.setCells w0.heap.size (1 + 4 * k) (dirc v hh)) room (k + 1) (upd V k v) (upd H k hh) := by
  have hP := h.blk.lt
  have hg : w.heap.size ≤ g := (ho.lt g hv).1
  have hgs := grown_setCells w0.heap.size (dirc v hh) w3 (1 + 4 * k)
  have hlen : (newc room k V H).length = 9 := by unfold newc; split <;> split <;> rfl
  have hb0 : Below w0.heap.size w0 w3 := h.below.trans (hb.mono (Nat.le_of_lt hP))
  refine ⟨?_, fun i hi => ?_, fun i hi => ?_, fun i j hi hj => ?_, fun i j hij hj => ?_, below_setCells (Nat.le_refl _) _ hb0 _⟩
  · have := ((h.blk.below hb hP).setCells (vs := dirc v hh) (1 + 4 * k) (by rw [hlen]; show 1 + 4 * k + 4 ≤ 9; omega))
    rcases (show k = 0 ∨ k = 1 by omega) with rfl | rfl
    · exact this
    · exact this
  · by_cases e : i = k
    · subst e; rw [upd_same]
      exact ⟨(ho.lower (Nat.le_of_lt hP)).kept hgs (.inr (by rw [hv]; intro e; have := Option.some.inj e; omega)), g, hv, by omega⟩
    · rw [upd_other _ _ _ _ e]
      obtain ⟨h1, g', h2, h3⟩ := h.own i (by omega)
      exact ⟨((h1.below hb).kept hgs (.inr (by rw [h2]; intro e; have := Option.some.inj e; omega))), g', h2, h3⟩
  · by_cases e : i = k
    · subst e; rw [upd_same]
      exact ⟨hm.grown hgs (by intro e; have := Option.some.inj e; omega), by omega⟩
    · rw [upd_other _ _ _ _ e]
      obtain ⟨h1, h2⟩ := h.hash i (by omega)
      exact ⟨(h1.below hb h1.lt).grown hgs (by intro e; have := Option.some.inj e; omega), h2⟩
  · by_cases e : i = k
    · subst e; rw [upd_same, hv]
      by_cases e2 : j = i
      · subst e2; rw [upd_same]; exact fun e => hne (Option.some.inj e)
      · rw [upd_other _ _ _ _ e2]; have := (h.hash j (by omega)).1.lt; exact fun e => by have := Option.some.inj e; omega
    · rw [upd_other _ _ _ _ e]
      by_cases e2 : j = k
      · subst e2; rw [upd_same]
        obtain ⟨h1, g', h2, h3⟩ := h.own i (by omega)
        have := (h1.lt g' h2).2
        rw [h2]; exact fun e => by have := Option.some.inj e; omega
      · rw [upd_other _ _ _ _ e2]; exact h.ap i j (by omega) (by omega)
  · have ei : i ≠ k := by omega
    rw [upd_other _ _ _ _ ei, upd_other _ _ _ _ ei]
    obtain ⟨h1, g', h2, h3⟩ := h.own i (by omega)
    have h4 := (h1.lt g' h2).2
    have h5 := (h.hash i (by omega)).1.lt
    by_cases e2 : j = k
    · subst e2; rw [upd_same, upd_same, h2, hv]
      exact ⟨fun e => by have := Option.some.inj e; omega, by omega⟩
    · rw [upd_other _ _ _ _ e2, upd_other _ _ _ _ e2]; exact h.app i j hij (by omega)
def wnew : WayL := ⟨[], false, 0, []⟩
theorem NW.done {w0 w : World} {room : Nat} {V : Nat → Value} {H : Nat → Nat} (h : NW w0 w room 2 V H) (h1 : 1 ≤ room) (h2 : room ≤ 4096) (hT : TabA w0) (hG : 1 < w0.heap.size) : PP w w0.heap.size w0.heap.size room V H (fun _ => wnew) := by
  refine ⟨h.blk, fun i hi => (h.own i hi).1, fun i hi => (h.hash i hi).1, Nat.le_refl _, fun i hi => Nat.le_of_lt (h.hash i hi).2, fun i j hi hj => h.ap i j hi hj, fun i hi => ⟨?_, ?_⟩, fun k e => ?_, ?_, h1, h2, fun i hi => ?_, hT.below h.below hG, hG⟩
  · obtain ⟨_, g, h3, h4⟩ := h.own i hi
    rw [h3]; exact fun e => by have := Option.some.inj e; omega
  · have := (h.hash i hi).2; omega
  · have := (h.app 0 1 (by omega) (by omega)).1
    exact fun e2 => this (e.trans e2.symm)
  · exact (h.app 0 1 (by omega) (by omega)).2
  · show 0 ≤ room; omega
theorem new_bad (room : Int) (h : room < 1 ∨ 4096 < room) (w : World) : Calls Tryd.prog 7 #[.int .i64 room] w fun e w' => e = .returned (.tuple #[.pointer none, .int .i64 1]) ∧ w' = w := by
  rcases h with h | h
  · go_enter Tryd.func7, Tryd.ntmps7
    go_wp2_with fail
    go_ret2
    exact ⟨rfl, rfl⟩
  · have h0 : ¬ room < 1 := by omega
    go_enter Tryd.func7, Tryd.ntmps7
    go_wp2_with fail
    go_ret2
    exact ⟨rfl, rfl⟩
theorem there_newc {w0 w : World} {room k : Nat} {V : Nat → Value} {H : Nat → Nat} (h : NW w0 w room k V H) (hk : k < 2) {w3 : World} (hb : Below w.heap.size w w3) : w3.there w0.heap.size (1 + 4 * k) 4 := by
  refine (h.blk.below hb h.blk.lt).there _ _ ?_
  have hlen : (newc room k V H).length = 9 := by unfold newc; split <;> split <;> rfl
  rw [hlen]; omega
set_option maxHeartbeats 2000000 in
theorem new_pp (room : Nat) (w : World) (h1 : 1 ≤ room) (h2 : room ≤ 4096) (hT : TabA w) (hG : 1 < w.heap.size) :
    Calls Tryd.prog 7 #[.int .i64 (room : Int)] w fun e w' => ∃ V H, e = .returned (.tuple #[tP w.heap.size, .int .i64 0]) ∧ PP w' w.heap.size w.heap.size room V H (fun _ => wnew) ∧ Below w.heap.size w w' := by
  have c1 : ¬ (room : Int) < 1 := by omega
  have c2 : ¬ 4096 < (room : Int) := by omega
  have HT := Lib.hid hT; clear hT
  have HNW := Lib.hid (show NW w (w.alloc (.cells #[.int .i64 (room : Int), .slice none 0 0, .bool false, .int .u64 0, .pointer none, .slice none 0 0, .bool false, .int .u64 0, .pointer none] 62)) room 0 (fun _ => .slice none 0 0) (fun _ => 0) from
    ⟨Blk.newAt w _ _ rfl rfl, fun i hi => absurd hi (by omega), fun i hi => absurd hi (by omega), fun i j hi => absurd hi (by omega), fun i j hi hj => absurd hj (by omega), (Below.refl _ _).alloc (Nat.le_refl _) _⟩)
  have HMk := Lib.hid (fun W => make_bytes 0 room (by omega) (by omega) W)
  have HNew := Lib.hid (fun W => new_any W)
  go_enter Tryd.func7, Tryd.ntmps7
  go_wp2_with fail
  go_loopw [5, 15] (fun _ i wr => ∃ (k : Nat) (V : Nat → Value) (H : Nat → Nat), k ≤ 2 ∧ i = .int .i64 (k : Int) ∧ NW w wr room k V H) (fun _ i _ => 2 - (intOf i).toNat)
  case atStart => exact ⟨0, _, _, by omega, rfl, HNW.out⟩
  case round =>
    obtain ⟨k, V, H, hk, rfl, hN⟩ := hrel
    have HN := Lib.hid hN; clear hN
    by_cases hlt : k < 2
    · rcases (show k = 0 ∨ k = 1 by omega) with rfl | rfl
      · go_wp2_with fail
        refine wp_region_noPanic ?_
        refine wp_region_held (S := fun _ => True) (by kernel_rfl) ?_
        change wpAnyH _ _ _ _ _ _ _ _ wr.drew
        refine takeH 0 18 (tP w.heap.size) rfl rfl (by kernel_rfl) (by kernel_rfl) (by kernel_rfl) (fun _ _ _ h => h) rfl (fun w' _ => by go_simp) trivial ?_
        go_frame
        refine takeH 1 19 (.int .i64 0) rfl rfl (by kernel_rfl) (by kernel_rfl) (by kernel_rfl) (fun _ _ _ h => h) rfl (fun w' _ => by go_simp) trivial ?_
        go_frame
        refine takeH 2 20 (.int .i64 (room : Int)) rfl rfl (by kernel_rfl) (by kernel_rfl) (by kernel_rfl) (fun _ _ _ h => h) rfl (fun w' _ => by go_simp) trivial ?_
        go_frame
        refine takeH 6 24 (tP w.heap.size) rfl rfl (by kernel_rfl) (by kernel_rfl) (by kernel_rfl) (fun _ _ _ h => h) rfl (fun w' _ => by go_simp) trivial ?_
        go_frame
        refine takeH 7 25 (.pointer (some ⟨w.heap.size, 1, none⟩)) rfl rfl (by kernel_rfl) (by kernel_rfl) (by kernel_rfl) (fun _ _ _ h => h) rfl (fun w' _ => by go_simp) trivial ?_
        go_frame
        refine wpAnyH_all (rs := [3, 4]) (by kernel_rfl) (by simp) ?_
        simp only [List.mem_cons, List.not_mem_nil, or_false, forall_eq_or_imp, forall_eq]
        refine ⟨?_, ?_⟩
        · have hmk : (Instr.makeSlice 29 (.int .i64 0) (.int .i64 (room : Int))).run Tryd.prog wr.drew = .ok (.slice (some ⟨wr.heap.size, 0, none⟩) 0 room) (wr.drew.alloc (.cells (noughts room) 5)) := HMk.out wr.drew
          refine wpOp_valueW 21 rfl rfl rfl (.slice (some ⟨wr.heap.size, 0, none⟩) 0 room) (wr.drew.alloc (.cells (noughts room) 5)) (by go_simp) ⟨trivial, ?_⟩
          go_frame
          clear hmk
          obtain ⟨W1, hW1⟩ : ∃ W1, W1 = wr.drew.alloc (.cells (noughts room) 5) := ⟨_, rfl⟩
          have hz1 : W1.heap.size = wr.heap.size + 1 := by rw [hW1]; simp
          have hb1 : Below wr.heap.size wr W1 := by rw [hW1]; exact ((Below.refl _ wr).drew).alloc (by simp) _
          have ho1 : OwnB W1 wr.heap.size (.slice (some ⟨wr.heap.size, 0, none⟩) 0 room) [] := by rw [hW1]; exact OwnB.of_heap (Nat.le_refl _) (heap_alloc_new wr.drew _) (noughts_size _) (by unfold maxLen; omega) rfl (by simp) (by omega)
          rw [← hW1]
          clear hW1
          refine wpAnyH_all (rs := [4]) (by kernel_rfl) (by simp) ?_
          simp only [List.mem_singleton, forall_eq]
          refine wpOp_callD 22 rfl rfl rfl 20 #[] (by go_simp) ?_
          refine (HNew.out W1).mono ?_
          rintro e w3 ⟨rfl, hm3, hb3⟩
          refine ⟨_, rfl, trivial, ?_⟩
          go_frame
          obtain ⟨hh, hhh⟩ : ∃ h, h = W1.heap.size := ⟨_, rfl⟩
          have HB3 := Lib.hid (hb1.trans (hb3.mono (by omega)))
          have HO3 := Lib.hid (ho1.below hb3)
          have HM3 := Lib.hid hm3
          have HGe := Lib.hid (show wr.heap.size ≤ hh from by omega)
          have HNe := Lib.hid (show wr.heap.size ≠ hh from by omega)
          have HTh := Lib.hid (there_newc HN.out (by omega) HB3.out)
          rw [← hhh] at HM3 ⊢
          clear hb1 ho1 hm3 hb3
          refine takeH 5 23 (.agg #[.slice (some ⟨wr.heap.size, 0, none⟩) 0 room, .bool false, .int .u64 0, tP hh]) rfl rfl (by kernel_rfl) (by kernel_rfl) (by kernel_rfl) (fun _ _ _ h => h) rfl (fun w' _ => by go_simp) trivial ?_
          go_frame
          refine takeH 8 26 (.pointer (some ⟨w.heap.size, 1, none⟩)) rfl rfl (by kernel_rfl) (by kernel_rfl) (by kernel_rfl) (fun _ _ _ h => h) rfl (fun w' _ => by go_simp) trivial ?_
          go_frame
          refine wpAnyH_all (rs := [9]) (by kernel_rfl) (by simp) ?_
          simp only [List.mem_singleton, forall_eq]
          refine wpOp_storeN rfl rfl rfl 59 (.tmp 26) (.tmp 23) rfl w.heap.size 1 #[.slice (some ⟨wr.heap.size, 0, none⟩) 0 room, .bool false, .int .u64 0, tP hh] rfl rfl HTh.out (by kernel_rfl) (by simp [Value.oneCell']) ?_
          have HF := Lib.hid (HN.out.step (by omega) (.slice (some ⟨wr.heap.size, 0, none⟩) 0 room) wr.heap.size hh HB3.out HO3.out rfl HM3.out HGe.out HNe.out)
          refine ⟨trivial, wpAnyH_done (by kernel_rfl) ?_ _⟩
          refine NoPanic.normal ?_
          obtain ⟨W5, hW5⟩ : ∃ W5, W5 = w3.setCells w.heap.size 1 (#[Value.slice (some ⟨wr.heap.size, 0, none⟩) 0 room, Value.bool false, Value.int .u64 0, tP hh] : Array Value).toList := ⟨_, rfl⟩
          replace HF : Hid (NW w W5 room 1 (upd V 0 (.slice (some ⟨wr.heap.size, 0, none⟩) 0 room)) (upd H 0 hh)) := Lib.hid (by rw [hW5]; exact HF.out)
          rw [← hW5]
          clear hW5
          go_wp2_with fail
          exact ⟨⟨1, _, _, by omega, rfl, HF.out⟩, by simp [intOf]⟩
        · refine wpOp_callD 22 rfl rfl rfl 20 #[] (by go_simp) ?_
          refine (HNew.out wr.drew).mono ?_
          rintro e W1 ⟨rfl, hm1, hb1⟩
          refine ⟨_, rfl, trivial, ?_⟩
          go_frame
          have hlt1 := hm1.lt
          have hb1' : Below wr.heap.size wr W1 := ⟨hb1.os, hb1.tape, hb1.output, hb1.size, hb1.block⟩
          have hz1 := hb1'.size
          obtain ⟨hh, hhh⟩ : ∃ h, h = wr.drew.heap.size := ⟨_, rfl⟩
          have hh2 : hh = wr.heap.size := hhh
          rw [← hhh] at hm1 hlt1 ⊢
          refine wpAnyH_all (rs := [3]) (by kernel_rfl) (by simp) ?_
          simp only [List.mem_singleton, forall_eq]
          have hmk : (Instr.makeSlice 29 (.int .i64 0) (.int .i64 (room : Int))).run Tryd.prog W1 = .ok (.slice (some ⟨W1.heap.size, 0, none⟩) 0 room) (W1.alloc (.cells (noughts room) 5)) := HMk.out W1
          refine wpOp_valueW 21 rfl rfl rfl (.slice (some ⟨W1.heap.size, 0, none⟩) 0 room) (W1.alloc (.cells (noughts room) 5)) (by go_simp) ⟨trivial, ?_⟩
          go_frame
          clear hmk
          obtain ⟨w3, hW3⟩ : ∃ w3, w3 = W1.alloc (.cells (noughts room) 5) := ⟨_, rfl⟩
          obtain ⟨g, hg⟩ : ∃ g, g = W1.heap.size := ⟨_, rfl⟩
          have hb3 : Below W1.heap.size W1 w3 := by rw [hW3]; exact (Below.refl _ W1).alloc (Nat.le_refl _) _
          have ho3 : OwnB w3 W1.heap.size (.slice (some ⟨W1.heap.size, 0, none⟩) 0 room) [] := by rw [hW3]; exact OwnB.of_heap (Nat.le_refl _) (heap_alloc_new W1 _) (noughts_size _) (by unfold maxLen; omega) rfl (by simp) (by omega)
          have HB3 := Lib.hid (hb1'.trans (hb3.mono hz1))
          have HO3 := Lib.hid (ho3.lower hz1)
          have HM3 := Lib.hid (hm1.below hb3 hlt1)
          have HGe := Lib.hid (show wr.heap.size ≤ hh from by omega)
          have HNe := Lib.hid (show g ≠ hh from by omega)
          have HTh := Lib.hid (there_newc HN.out (by omega) HB3.out)
          rw [← hg] at HO3 ⊢
          rw [← hW3]
          clear hW3 hb3 ho3 hb1 hb1' hm1 hg hhh
          refine takeH 5 23 (.agg #[.slice (some ⟨g, 0, none⟩) 0 room, .bool false, .int .u64 0, tP hh]) rfl rfl (by kernel_rfl) (by kernel_rfl) (by kernel_rfl) (fun _ _ _ h => h) rfl (fun w' _ => by go_simp) trivial ?_
          go_frame
          refine takeH 8 26 (.pointer (some ⟨w.heap.size, 1, none⟩)) rfl rfl (by kernel_rfl) (by kernel_rfl) (by kernel_rfl) (fun _ _ _ h => h) rfl (fun w' _ => by go_simp) trivial ?_
          go_frame
          refine wpAnyH_all (rs := [9]) (by kernel_rfl) (by simp) ?_
          simp only [List.mem_singleton, forall_eq]
          refine wpOp_storeN rfl rfl rfl 59 (.tmp 26) (.tmp 23) rfl w.heap.size 1 #[.slice (some ⟨g, 0, none⟩) 0 room, .bool false, .int .u64 0, tP hh] rfl rfl HTh.out (by kernel_rfl) (by simp [Value.oneCell']) ?_
          have HF := Lib.hid (HN.out.step (by omega) (.slice (some ⟨g, 0, none⟩) 0 room) g hh HB3.out HO3.out rfl HM3.out HGe.out HNe.out)
          refine ⟨trivial, wpAnyH_done (by kernel_rfl) ?_ _⟩
          refine NoPanic.normal ?_
          obtain ⟨W5, hW5⟩ : ∃ W5, W5 = w3.setCells w.heap.size 1 (#[Value.slice (some ⟨g, 0, none⟩) 0 room, Value.bool false, Value.int .u64 0, tP hh] : Array Value).toList := ⟨_, rfl⟩
          replace HF : Hid (NW w W5 room 1 (upd V 0 (.slice (some ⟨g, 0, none⟩) 0 room)) (upd H 0 hh)) := Lib.hid (by rw [hW5]; exact HF.out)
          rw [← hW5]
          clear hW5
          go_wp2_with fail
          exact ⟨⟨1, _, _, by omega, rfl, HF.out⟩, by simp [intOf]⟩
      · go_wp2_with fail
        refine wp_region_noPanic ?_
        refine wp_region_held (S := fun _ => True) (by kernel_rfl) ?_
        change wpAnyH _ _ _ _ _ _ _ _ wr.drew
        refine takeH 0 18 (tP w.heap.size) rfl rfl (by kernel_rfl) (by kernel_rfl) (by kernel_rfl) (fun _ _ _ h => h) rfl (fun w' _ => by go_simp) trivial ?_
        go_frame
        refine takeH 1 19 (.int .i64 1) rfl rfl (by kernel_rfl) (by kernel_rfl) (by kernel_rfl) (fun _ _ _ h => h) rfl (fun w' _ => by go_simp) trivial ?_
        go_frame
        refine takeH 2 20 (.int .i64 (room : Int)) rfl rfl (by kernel_rfl) (by kernel_rfl) (by kernel_rfl) (fun _ _ _ h => h) rfl (fun w' _ => by go_simp) trivial ?_
        go_frame
        refine takeH 6 24 (tP w.heap.size) rfl rfl (by kernel_rfl) (by kernel_rfl) (by kernel_rfl) (fun _ _ _ h => h) rfl (fun w' _ => by go_simp) trivial ?_
        go_frame
        refine takeH 7 25 (.pointer (some ⟨w.heap.size, 1, none⟩)) rfl rfl (by kernel_rfl) (by kernel_rfl) (by kernel_rfl) (fun _ _ _ h => h) rfl (fun w' _ => by go_simp) trivial ?_
        go_frame
        refine wpAnyH_all (rs := [3, 4]) (by kernel_rfl) (by simp) ?_
        simp only [List.mem_cons, List.not_mem_nil, or_false, forall_eq_or_imp, forall_eq]
        refine ⟨?_, ?_⟩
        · have hmk : (Instr.makeSlice 29 (.int .i64 0) (.int .i64 (room : Int))).run Tryd.prog wr.drew = .ok (.slice (some ⟨wr.heap.size, 0, none⟩) 0 room) (wr.drew.alloc (.cells (noughts room) 5)) := HMk.out wr.drew
          refine wpOp_valueW 21 rfl rfl rfl (.slice (some ⟨wr.heap.size, 0, none⟩) 0 room) (wr.drew.alloc (.cells (noughts room) 5)) (by go_simp) ⟨trivial, ?_⟩
          go_frame
          clear hmk
          obtain ⟨W1, hW1⟩ : ∃ W1, W1 = wr.drew.alloc (.cells (noughts room) 5) := ⟨_, rfl⟩
          have hz1 : W1.heap.size = wr.heap.size + 1 := by rw [hW1]; simp
          have hb1 : Below wr.heap.size wr W1 := by rw [hW1]; exact ((Below.refl _ wr).drew).alloc (by simp) _
          have ho1 : OwnB W1 wr.heap.size (.slice (some ⟨wr.heap.size, 0, none⟩) 0 room) [] := by rw [hW1]; exact OwnB.of_heap (Nat.le_refl _) (heap_alloc_new wr.drew _) (noughts_size _) (by unfold maxLen; omega) rfl (by simp) (by omega)
          rw [← hW1]
          clear hW1
          refine wpAnyH_all (rs := [4]) (by kernel_rfl) (by simp) ?_
          simp only [List.mem_singleton, forall_eq]
          refine wpOp_callD 22 rfl rfl rfl 20 #[] (by go_simp) ?_
          refine (HNew.out W1).mono ?_
          rintro e w3 ⟨rfl, hm3, hb3⟩
          refine ⟨_, rfl, trivial, ?_⟩
          go_frame
          obtain ⟨hh, hhh⟩ : ∃ h, h = W1.heap.size := ⟨_, rfl⟩
          have HB3 := Lib.hid (hb1.trans (hb3.mono (by omega)))
          have HO3 := Lib.hid (ho1.below hb3)
          have HM3 := Lib.hid hm3
          have HGe := Lib.hid (show wr.heap.size ≤ hh from by omega)
          have HNe := Lib.hid (show wr.heap.size ≠ hh from by omega)
          have HTh := Lib.hid (there_newc HN.out (by omega) HB3.out)
          rw [← hhh] at HM3 ⊢
          clear hb1 ho1 hm3 hb3
          refine takeH 5 23 (.agg #[.slice (some ⟨wr.heap.size, 0, none⟩) 0 room, .bool false, .int .u64 0, tP hh]) rfl rfl (by kernel_rfl) (by kernel_rfl) (by kernel_rfl) (fun _ _ _ h => h) rfl (fun w' _ => by go_simp) trivial ?_
          go_frame
          refine takeH 8 26 (.pointer (some ⟨w.heap.size, 5, none⟩)) rfl rfl (by kernel_rfl) (by kernel_rfl) (by kernel_rfl) (fun _ _ _ h => h) rfl (fun w' _ => by go_simp) trivial ?_
          go_frame
          refine wpAnyH_all (rs := [9]) (by kernel_rfl) (by simp) ?_
          simp only [List.mem_singleton, forall_eq]
          refine wpOp_storeN rfl rfl rfl 59 (.tmp 26) (.tmp 23) rfl w.heap.size 5 #[.slice (some ⟨wr.heap.size, 0, none⟩) 0 room, .bool false, .int .u64 0, tP hh] rfl rfl HTh.out (by kernel_rfl) (by simp [Value.oneCell']) ?_
          have HF := Lib.hid (HN.out.step (by omega) (.slice (some ⟨wr.heap.size, 0, none⟩) 0 room) wr.heap.size hh HB3.out HO3.out rfl HM3.out HGe.out HNe.out)
          refine ⟨trivial, wpAnyH_done (by kernel_rfl) ?_ _⟩
          refine NoPanic.normal ?_
          obtain ⟨W5, hW5⟩ : ∃ W5, W5 = w3.setCells w.heap.size 5 (#[Value.slice (some ⟨wr.heap.size, 0, none⟩) 0 room, Value.bool false, Value.int .u64 0, tP hh] : Array Value).toList := ⟨_, rfl⟩
          replace HF : Hid (NW w W5 room 2 (upd V 1 (.slice (some ⟨wr.heap.size, 0, none⟩) 0 room)) (upd H 1 hh)) := Lib.hid (by rw [hW5]; exact HF.out)
          rw [← hW5]
          clear hW5
          go_wp2_with fail
          exact ⟨⟨2, _, _, by omega, rfl, HF.out⟩, by simp [intOf]⟩
        · refine wpOp_callD 22 rfl rfl rfl 20 #[] (by go_simp) ?_
          refine (HNew.out wr.drew).mono ?_
          rintro e W1 ⟨rfl, hm1, hb1⟩
          refine ⟨_, rfl, trivial, ?_⟩
          go_frame
          have hlt1 := hm1.lt
          have hb1' : Below wr.heap.size wr W1 := ⟨hb1.os, hb1.tape, hb1.output, hb1.size, hb1.block⟩
          have hz1 := hb1'.size
          obtain ⟨hh, hhh⟩ : ∃ h, h = wr.drew.heap.size := ⟨_, rfl⟩
          have hh2 : hh = wr.heap.size := hhh
          rw [← hhh] at hm1 hlt1 ⊢
          refine wpAnyH_all (rs := [3]) (by kernel_rfl) (by simp) ?_
          simp only [List.mem_singleton, forall_eq]
          have hmk : (Instr.makeSlice 29 (.int .i64 0) (.int .i64 (room : Int))).run Tryd.prog W1 = .ok (.slice (some ⟨W1.heap.size, 0, none⟩) 0 room) (W1.alloc (.cells (noughts room) 5)) := HMk.out W1
          refine wpOp_valueW 21 rfl rfl rfl (.slice (some ⟨W1.heap.size, 0, none⟩) 0 room) (W1.alloc (.cells (noughts room) 5)) (by go_simp) ⟨trivial, ?_⟩
          go_frame
          clear hmk
          obtain ⟨w3, hW3⟩ : ∃ w3, w3 = W1.alloc (.cells (noughts room) 5) := ⟨_, rfl⟩
          obtain ⟨g, hg⟩ : ∃ g, g = W1.heap.size := ⟨_, rfl⟩
          have hb3 : Below W1.heap.size W1 w3 := by rw [hW3]; exact (Below.refl _ W1).alloc (Nat.le_refl _) _
          have ho3 : OwnB w3 W1.heap.size (.slice (some ⟨W1.heap.size, 0, none⟩) 0 room) [] := by rw [hW3]; exact OwnB.of_heap (Nat.le_refl _) (heap_alloc_new W1 _) (noughts_size _) (by unfold maxLen; omega) rfl (by simp) (by omega)
          have HB3 := Lib.hid (hb1'.trans (hb3.mono hz1))
          have HO3 := Lib.hid (ho3.lower hz1)
          have HM3 := Lib.hid (hm1.below hb3 hlt1)
          have HGe := Lib.hid (show wr.heap.size ≤ hh from by omega)
          have HNe := Lib.hid (show g ≠ hh from by omega)
          have HTh := Lib.hid (there_newc HN.out (by omega) HB3.out)
          rw [← hg] at HO3 ⊢
          rw [← hW3]
          clear hW3 hb3 ho3 hb1 hb1' hm1 hg hhh
          refine takeH 5 23 (.agg #[.slice (some ⟨g, 0, none⟩) 0 room, .bool false, .int .u64 0, tP hh]) rfl rfl (by kernel_rfl) (by kernel_rfl) (by kernel_rfl) (fun _ _ _ h => h) rfl (fun w' _ => by go_simp) trivial ?_
          go_frame
          refine takeH 8 26 (.pointer (some ⟨w.heap.size, 5, none⟩)) rfl rfl (by kernel_rfl) (by kernel_rfl) (by kernel_rfl) (fun _ _ _ h => h) rfl (fun w' _ => by go_simp) trivial ?_
          go_frame
          refine wpAnyH_all (rs := [9]) (by kernel_rfl) (by simp) ?_
          simp only [List.mem_singleton, forall_eq]
          refine wpOp_storeN rfl rfl rfl 59 (.tmp 26) (.tmp 23) rfl w.heap.size 5 #[.slice (some ⟨g, 0, none⟩) 0 room, .bool false, .int .u64 0, tP hh] rfl rfl HTh.out (by kernel_rfl) (by simp [Value.oneCell']) ?_
          have HF := Lib.hid (HN.out.step (by omega) (.slice (some ⟨g, 0, none⟩) 0 room) g hh HB3.out HO3.out rfl HM3.out HGe.out HNe.out)
          refine ⟨trivial, wpAnyH_done (by kernel_rfl) ?_ _⟩
          refine NoPanic.normal ?_
          obtain ⟨W5, hW5⟩ : ∃ W5, W5 = w3.setCells w.heap.size 5 (#[Value.slice (some ⟨g, 0, none⟩) 0 room, Value.bool false, Value.int .u64 0, tP hh] : Array Value).toList := ⟨_, rfl⟩
          replace HF : Hid (NW w W5 room 2 (upd V 1 (.slice (some ⟨g, 0, none⟩) 0 room)) (upd H 1 hh)) := Lib.hid (by rw [hW5]; exact HF.out)
          rw [← hW5]
          clear hW5
          go_wp2_with fail
          exact ⟨⟨2, _, _, by omega, rfl, HF.out⟩, by simp [intOf]⟩
    · obtain rfl : k = 2 := by omega
      go_wp2_with fail
      go_ret2
      exact ⟨V, H, rfl, HN.out.done h1 h2 HT.out hG, HN.out.below⟩
end Go.Proofs.YtlobmffcnobgeaaDoor
