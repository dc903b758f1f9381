/- pipe: Read. -/
import Derived.Test.YtlobmffcnobgeaaDoorPpWr
set_option maxRecDepth 100000
namespace Go.Proofs.YtlobmffcnobgeaaDoor
open Go.RowKit
attribute [local go_sem] Oper.semAt_some
theorem read_nil (k m : Int) (w : World) : Calls Tryd.prog 19 #[.pointer none, .int .i64 k, .int .i64 m] w fun e w' => e = .returned (.tuple #[.slice none 0 0, .int .i64 6]) ∧ w' = w := by
  have HD := Lib.hid (dir_nil k w)
  go_enter Tryd.func19, Tryd.ntmps19
  go_wp2_with fail
  refine HD.out.mono ?_
  rintro e w' ⟨rfl, rfl⟩
  go_wp2_with fail
  go_ret2
  exact ⟨rfl, rfl⟩
theorem read_bad (b : Nat) (k m : Int) (hk : k ≠ 0 ∧ k ≠ 1) (w : World) : Calls Tryd.prog 19 #[tP b, .int .i64 k, .int .i64 m] w fun e w' => e = .returned (.tuple #[.slice none 0 0, .int .i64 1]) ∧ w' = w := by
  have HD := Lib.hid (dir_bad b k hk w)
  clear hk
  go_enter Tryd.func19, Tryd.ntmps19
  go_wp2_with fail
  refine HD.out.mono ?_
  rintro e w' ⟨rfl, rfl⟩
  go_wp2_with fail
  go_ret2
  exact ⟨rfl, rfl⟩
section
variable {w w' : World} {base b room : Nat} {V : Nat → Value} {H : Nat → Nat} {X : Nat → WayL}
/-- How many bytes are read, and what is then. -/
def rdN (x : WayL) (m : Int) : Nat := min m.toNat x.buf.length
def rdX (x : WayL) (m : Int) : WayL := { x with buf := x.buf.drop (rdN x m), read := x.read ++ x.buf.take (rdN x m) }
/-- Behind the Clone, the Delete and the store. -/
theorem read_mid (h : PP w base b room V H X) (i : Nat) (hi : i < 2) {w1 w2 : World} {v' vc : Value} {lc : List UInt8} (hb : Below w.heap.size w w1) (hc : OwnB w1 w.heap.size vc lc) (hg : w1.grownBy w2 (V i).ownBlock) :
    Blk w2 b (ppc room V H X) ∧ HashM (w2.setCell ⟨b, 1 + 4 * i, none⟩ v') (H i) (X i).read ∧ TabA (w2.setCell ⟨b, 1 + 4 * i, none⟩ v') ∧ OwnB (w2.setCell ⟨b, 1 + 4 * i, none⟩ v') w.heap.size vc lc := by
  have h1 := h.below hb
  have hb2 : Blk w2 b (ppc room V H X) := h1.blk.grown hg (h.apb i hi).1.symm
  have ht : Trs (b :: (V i).ownBlock.toList) w1 (w2.setCell ⟨b, 1 + 4 * i, none⟩ v') := ((Trs.ofGrown hg).mono (fun k hk => List.mem_cons_of_mem _ hk)).set (by simp) _
  refine ⟨hb2, (h1.hash i hi).trs ht (fun hm => ?_), fun j hj => ?_, hc.trs ht (fun k hk hm => ?_)⟩
  · rcases List.mem_cons.1 hm with e | e
    · exact (h.apb i hi).2 e
    · exact h.aph i i hi hi (by simpa using e)
  · rw [← h1.tab j hj]
    simp only [World.cell?]
    rw [ht.block _ (Nat.lt_of_lt_of_le h.glob h1.size) (fun hm => ?_)]
    have hgl := h.glob
    rcases List.mem_cons.1 hm with e | e
    · have := h.geb; omega
    · have := (h.own i hi).lt _ (by simpa using e); omega
  · have h2 := (hc.lt k hk).1
    rcases List.mem_cons.1 hm with e | e
    · have := h.blk.lt; omega
    · have := (h.own i hi).lt k (by simpa using e); omega
theorem read_fin (h : PP w base b room V H X) (i : Nat) (hi : i < 2) {w1 w2 w4 : World} {v' : Value} {x' : WayL} (hb : Below w.heap.size w w1) (hg : w1.grownBy w2 (V i).ownBlock) (hO : OwnB w2 base v' x'.buf) (hv : v'.ownBlock = (V i).ownBlock)
    (hg4 : (w2.setCell ⟨b, 1 + 4 * i, none⟩ v').grownBy w4 (some (H i))) (hh : HashM w4 (H i) x'.read) (hsh : x'.shut = (X i).shut) (hwr : x'.wrote = (X i).wrote) (hl : x'.buf.length ≤ room) :
    PP w4 base b room (upd V i v') H (upd X i x') ∧ Trs (ppS b V H) w w4 := by
  have h1 := h.below hb
  have hb2 : Blk w2 b (ppc room V H X) := h1.blk.grown hg (h.apb i hi).1.symm
  have ht2 : Trs (b :: H i :: (V i).ownBlock.toList) w1 (w2.setCell ⟨b, 1 + 4 * i, none⟩ v') := ((Trs.ofGrown hg).mono (fun k hk => List.mem_cons_of_mem _ (List.mem_cons_of_mem _ hk))).set (by simp) _
  have ht : Trs (b :: H i :: (V i).ownBlock.toList) w1 w4 := ht2.grown hg4 (fun k e => by cases e; simp)
  have hne : v'.ownBlock ≠ some b := by rw [hv]; exact (h.apb i hi).1
  have hnh : v'.ownBlock ≠ some (H i) := by rw [hv]; exact h.aph i i hi hi
  obtain ⟨g1, g2, _⟩ := h1.turn i hi v' x' _ ht (fun k hk => by
      rcases List.mem_cons.1 hk with e | hk
      · exact .inl e
      · rcases List.mem_cons.1 hk with e | e
        · exact .inr (.inl e)
        · exact .inr (.inr (by simpa using e))) (by
      have := (hb2.set (1 + 4 * i) v').grown hg4 (fun e => (h.apb i hi).2 (Option.some.inj e).symm)
      rcases (show i = 0 ∨ i = 1 by omega) with rfl | rfl
      · have e : (ppc room V H X).set 1 v' = ppc room (upd V 0 v') H (upd X 0 x') := by
          show [_, v', .bool (X 0).shut, .int .u64 (un (X 0).wrote), _, _, _, _, _] = [_, v', .bool x'.shut, .int .u64 (un x'.wrote), _, _, _, _, _]
          rw [hsh, hwr]; rfl
        rw [← e]; exact this
      · have e : (ppc room V H X).set 5 v' = ppc room (upd V 1 v') H (upd X 1 x') := by
          show [_, _, _, _, _, v', .bool (X 1).shut, .int .u64 (un (X 1).wrote), _] = [_, _, _, _, _, v', .bool x'.shut, .int .u64 (un x'.wrote), _]
          rw [hsh, hwr]; rfl
        rw [← e]; exact this)
    ((hO.kept (grown_set w2 ⟨b, 1 + 4 * i, none⟩ v') (.inr hne)).kept hg4 (.inr hnh)) hh (fun k hk => .inl (by rw [← hv]; exact hk)) hl
  exact ⟨g1, (Trs.of_below hb).trans g2⟩
set_option maxHeartbeats 1000000 in
theorem read_0 (h : PP w base b room V H X) (m : Int) :
    Calls Tryd.prog 19 #[tP b, .int .i64 0, .int .i64 m] w fun e w' => ∃ v v', e = .returned (.tuple #[v, .int .i64 0]) ∧ OwnB w' w.heap.size v ((X 0).buf.take (rdN (X 0) m)) ∧ v'.ownBlock = (V 0).ownBlock ∧ PP w' base b room (upd V 0 v') H (upd X 0 (rdX (X 0) m)) ∧ Trs (ppS b V H) w w' := by
  have HD := Lib.hid (dir_ok b 0 (by omega) w)
  have HP := Lib.hid h
  have k0 : w.cell? ⟨b, 1, none⟩ = some (V 0) := h.blk.at (o := 1) rfl
  have hln := h.len 0 (by omega)
  have hr2 := h.r2
  have hgl : 1 ≠ H 0 := (by have := h.glob; have := h.geh 0 (by omega); omega)
  have hlt : H 0 < w.heap.size := (h.hash 0 (by omega)).lt
  have hbs := h.size
  obtain ⟨n, hn⟩ : ∃ n, n = rdN (X 0) m := ⟨_, rfl⟩
  obtain ⟨x2, hx2⟩ : ∃ x, x = rdX (X 0) m := ⟨_, rfl⟩
  rw [← hn, ← hx2]
  have hx3 : x2 = { X 0 with buf := (X 0).buf.drop n, read := (X 0).read ++ (X 0).buf.take n } := by rw [hx2, hn]; rfl
  have hnle : n ≤ (X 0).buf.length := by rw [hn]; unfold rdN; omega
  have HN := Lib.hid (show (m ≤ 0 ∧ (n : Int) = 0) ∨ (0 < m ∧ m ≤ ((X 0).buf.length : Int) ∧ (n : Int) = m) ∨ (¬ m ≤ ((X 0).buf.length : Int) ∧ 0 < (X 0).buf.length ∧ (n : Int) = ((X 0).buf.length : Int)) ∨ (0 < m ∧ (X 0).buf.length = 0 ∧ (n : Int) = 0) from by rw [hn]; unfold rdN; omega)
  obtain ⟨VA, VC, hV, _, q1, q2, _⟩ := (h.own 0 (by omega)).sl
  rw [hV] at k0
  have HV1 := Lib.hid hV; clear hV
  have HX3 := Lib.hid hx3
  have HH := Lib.hid (h.hash 0 (by omega))
  clear hn hx2 hx3 h
  obtain ⟨L, hL⟩ : ∃ L, L = (X 0).buf := ⟨_, rfl⟩
  rw [← hL] at hln hnle HN HV1 HX3 k0 q1 ⊢
  have HO0 : Hid (OwnB w base (.slice VA L.length VC) L) := Lib.hid (by rw [← HV1.out, hL]; exact HP.out.own 0 (by omega))
  clear hL
  obtain ⟨K, hK⟩ : ∃ K, K = L.length := ⟨_, rfl⟩
  rw [← hK] at hln hnle HN HV1 k0 q1 HO0
  have HSL := Lib.hid (show Sl w w.heap.size (.slice VA n VC) (L.take n) from by
    obtain ⟨A2, c2, e2, _, _, _, hsl⟩ := HO0.out.sl.take n (by rw [← hK]; exact hnle)
    injection e2 with e3 _ e4
    subst e3; subst e4
    exact hsl)
  have Hq : Hid ((L.take n).length = n) := Lib.hid (by rw [List.length_take, ← hK]; omega)
  obtain ⟨N, hNN⟩ : ∃ N : Int, N = (n : Int) := ⟨_, rfl⟩
  have hrun : ∀ w, (Instr.slice 29 (.slice VA K VC) none (some (.int .i64 N)) none).run Tryd.prog w = .ok (.slice VA n VC) w := by rw [hNN]; exact slice_h VA K VC n (by omega)
  rw [← hNN] at HN
  have HNN := Lib.hid hNN; clear hNN
  have hc0 : (0 : Int) ≤ (K : Int) := by omega
  have HHn := Lib.hid (show some b ≠ (Value.slice VA K VC).ownBlock from by rw [← HV1.out]; exact (HP.out.apb 0 (by omega)).1.symm)
  have HDel := Lib.hid (show ∀ W, OwnB W base (.slice VA K VC) L → Calls Tryd.prog 38 #[.slice VA K VC, .int .i64 0, .int .i64 N] W fun e w' => ∃ v', e = .returned v' ∧ OwnB w' base v' (L.drop n) ∧ v'.ownBlock = (Value.slice VA K VC).ownBlock ∧ W.grownBy w' (Value.slice VA K VC).ownBlock from fun W hO => by
    rw [HNN.out]; exact del_first base _ L n W hO (by rw [← hK]; exact hnle) (by rw [← hK]; omega))
  have HVb := Lib.hid (show (V 0).ownBlock = (Value.slice VA K VC).ownBlock from by rw [HV1.out])
  have HK := Lib.hid hK; clear hK
  rcases HN.out with ⟨hc, rfl⟩ | ⟨hc, hc2, rfl⟩ | ⟨hc, hc2, rfl⟩ | ⟨hc, hc2, rfl⟩
  · go_enter Tryd.func19, Tryd.ntmps19
    go_wp2_with fail
    refine HD.out.mono ?_
    rintro e w' ⟨rfl, rfl⟩
    go_wp2_with fail
    refine (clone_all w'.heap.size _ (L.take n) w' HSL.out (Nat.le_refl _) (by rw [Hq.out]; omega)).mono ?_
    rintro e w1 ⟨vc, rfl, hOc, hB1⟩
    obtain ⟨CA, CC, rfl, _, _, _, _⟩ := hOc.sl
    have HOc := Lib.hid hOc
    have HB1 := Lib.hid hB1
    have hk1 := (HP.out.below hB1).blk
    have c1 : w1.cell? ⟨b, 1, none⟩ = some (.slice VA K VC) := (hB1.cell (p := ⟨b, 1, none⟩) HP.out.blk.lt).trans k0
    have f1 := hk1.free 1
    have HO1 := Lib.hid (HO0.out.below hB1)
    have HK1 := Lib.hid hk1
    clear hOc hB1 hk1 k0
    rw [Hq.out] at HOc ⊢
    go_wp2_with fail
    refine (HDel.out w1 HO1.out).mono ?_
    rintro e w2 ⟨v2, rfl, hO2, hob, hg2⟩
    obtain ⟨DA, DC, rfl, _, _, _, _⟩ := hO2.sl
    obtain ⟨dl, hdl⟩ : ∃ dl, dl = (L.drop n).length := ⟨_, rfl⟩
    rw [← hdl] at hO2 hob ⊢
    clear hdl
    have hg2' : w1.grownBy w2 (V 0).ownBlock := (by rw [HVb.out]; exact hg2)
    have HM := Lib.hid (read_mid (v' := .slice DA dl DC) HP.out 0 (by omega) HB1.out HOc.out hg2')
    have hk2 := HM.out.1
    have e0 := hk2.at (o := 1) rfl
    have e1 := hk2.free 1
    have e3 := hk2.at (o := 4) rfl
    have HO2 := Lib.hid hO2
    have Hob := Lib.hid hob
    have Hg2 := Lib.hid hg2'
    clear hk2 hO2 hob hg2 hg2'
    go_wp2_with fail
    obtain ⟨CA', CC', ec, hsrc⟩ := (HM.out.2.2.2).src (hb := H 0) hlt (by rw [Hq.out]; omega)
    rw [Hq.out] at ec
    injection ec with ec1 _ ec2
    subst ec1; subst ec2
    have HWM := Lib.hid (write_m (H 0) (X 0).read CA CC (L.take n) _ HM.out.2.1 hsrc HM.out.2.2.1 hgl)
    rw [Hq.out] at HWM
    clear hsrc
    refine HWM.out.mono ?_
    rintro e w4 ⟨rfl, hh4, hg4⟩
    have HF := Lib.hid (read_fin (x' := x2) HP.out 0 (by omega) HB1.out Hg2.out (by rw [HX3.out]; exact HO2.out) (by rw [HVb.out]; exact Hob.out) hg4 (by rw [HX3.out]; exact hh4) (by rw [HX3.out]) (by rw [HX3.out]) (by rw [HX3.out]; show (L.drop n).length ≤ room; rw [List.length_drop, ← HK.out]; omega))
    have HOf := Lib.hid ((HM.out.2.2.2).kept hg4 (by cases hvv : (Value.slice CA n CC).ownBlock; exact .inl rfl; right; intro e; have := (HM.out.2.2.2).lt _ hvv; have := Option.some.inj e; omega))
    clear hh4 hg4
    go_wp2_with fail
    go_ret2
    exact ⟨_, _, rfl, HOf.out, by rw [HVb.out]; exact Hob.out, HF.out⟩
  · go_enter Tryd.func19, Tryd.ntmps19
    go_wp2_with fail
    refine HD.out.mono ?_
    rintro e w' ⟨rfl, rfl⟩
    go_wp2_with fail
    refine (clone_all w'.heap.size _ (L.take n) w' HSL.out (Nat.le_refl _) (by rw [Hq.out]; omega)).mono ?_
    rintro e w1 ⟨vc, rfl, hOc, hB1⟩
    obtain ⟨CA, CC, rfl, _, _, _, _⟩ := hOc.sl
    have HOc := Lib.hid hOc
    have HB1 := Lib.hid hB1
    have hk1 := (HP.out.below hB1).blk
    have c1 : w1.cell? ⟨b, 1, none⟩ = some (.slice VA K VC) := (hB1.cell (p := ⟨b, 1, none⟩) HP.out.blk.lt).trans k0
    have f1 := hk1.free 1
    have HO1 := Lib.hid (HO0.out.below hB1)
    have HK1 := Lib.hid hk1
    clear hOc hB1 hk1 k0
    rw [Hq.out] at HOc ⊢
    go_wp2_with fail
    refine (HDel.out w1 HO1.out).mono ?_
    rintro e w2 ⟨v2, rfl, hO2, hob, hg2⟩
    obtain ⟨DA, DC, rfl, _, _, _, _⟩ := hO2.sl
    obtain ⟨dl, hdl⟩ : ∃ dl, dl = (L.drop n).length := ⟨_, rfl⟩
    rw [← hdl] at hO2 hob ⊢
    clear hdl
    have hg2' : w1.grownBy w2 (V 0).ownBlock := (by rw [HVb.out]; exact hg2)
    have HM := Lib.hid (read_mid (v' := .slice DA dl DC) HP.out 0 (by omega) HB1.out HOc.out hg2')
    have hk2 := HM.out.1
    have e0 := hk2.at (o := 1) rfl
    have e1 := hk2.free 1
    have e3 := hk2.at (o := 4) rfl
    have HO2 := Lib.hid hO2
    have Hob := Lib.hid hob
    have Hg2 := Lib.hid hg2'
    clear hk2 hO2 hob hg2 hg2'
    go_wp2_with fail
    obtain ⟨CA', CC', ec, hsrc⟩ := (HM.out.2.2.2).src (hb := H 0) hlt (by rw [Hq.out]; omega)
    rw [Hq.out] at ec
    injection ec with ec1 _ ec2
    subst ec1; subst ec2
    have HWM := Lib.hid (write_m (H 0) (X 0).read CA CC (L.take n) _ HM.out.2.1 hsrc HM.out.2.2.1 hgl)
    rw [Hq.out] at HWM
    clear hsrc
    refine HWM.out.mono ?_
    rintro e w4 ⟨rfl, hh4, hg4⟩
    have HF := Lib.hid (read_fin (x' := x2) HP.out 0 (by omega) HB1.out Hg2.out (by rw [HX3.out]; exact HO2.out) (by rw [HVb.out]; exact Hob.out) hg4 (by rw [HX3.out]; exact hh4) (by rw [HX3.out]) (by rw [HX3.out]) (by rw [HX3.out]; show (L.drop n).length ≤ room; rw [List.length_drop, ← HK.out]; omega))
    have HOf := Lib.hid ((HM.out.2.2.2).kept hg4 (by cases hvv : (Value.slice CA n CC).ownBlock; exact .inl rfl; right; intro e; have := (HM.out.2.2.2).lt _ hvv; have := Option.some.inj e; omega))
    clear hh4 hg4
    go_wp2_with fail
    go_ret2
    exact ⟨_, _, rfl, HOf.out, by rw [HVb.out]; exact Hob.out, HF.out⟩
  · obtain rfl : n = K := by have := HNN.out; omega
    go_enter Tryd.func19, Tryd.ntmps19
    go_wp2_with fail
    refine HD.out.mono ?_
    rintro e w' ⟨rfl, rfl⟩
    go_wp2_with fail
    refine (clone_all w'.heap.size _ (L.take n) w' HSL.out (Nat.le_refl _) (by rw [Hq.out]; omega)).mono ?_
    rintro e w1 ⟨vc, rfl, hOc, hB1⟩
    obtain ⟨CA, CC, rfl, _, _, _, _⟩ := hOc.sl
    have HOc := Lib.hid hOc
    have HB1 := Lib.hid hB1
    have hk1 := (HP.out.below hB1).blk
    have c1 : w1.cell? ⟨b, 1, none⟩ = some (.slice VA n VC) := (hB1.cell (p := ⟨b, 1, none⟩) HP.out.blk.lt).trans k0
    have f1 := hk1.free 1
    have HO1 := Lib.hid (HO0.out.below hB1)
    have HK1 := Lib.hid hk1
    clear hOc hB1 hk1 k0
    rw [Hq.out] at HOc ⊢
    go_wp2_with fail
    refine (HDel.out w1 HO1.out).mono ?_
    rintro e w2 ⟨v2, rfl, hO2, hob, hg2⟩
    obtain ⟨DA, DC, rfl, _, _, _, _⟩ := hO2.sl
    obtain ⟨dl, hdl⟩ : ∃ dl, dl = (L.drop n).length := ⟨_, rfl⟩
    rw [← hdl] at hO2 hob ⊢
    clear hdl
    have hg2' : w1.grownBy w2 (V 0).ownBlock := (by rw [HVb.out]; exact hg2)
    have HM := Lib.hid (read_mid (v' := .slice DA dl DC) HP.out 0 (by omega) HB1.out HOc.out hg2')
    have hk2 := HM.out.1
    have e0 := hk2.at (o := 1) rfl
    have e1 := hk2.free 1
    have e3 := hk2.at (o := 4) rfl
    have HO2 := Lib.hid hO2
    have Hob := Lib.hid hob
    have Hg2 := Lib.hid hg2'
    clear hk2 hO2 hob hg2 hg2'
    go_wp2_with fail
    obtain ⟨CA', CC', ec, hsrc⟩ := (HM.out.2.2.2).src (hb := H 0) hlt (by rw [Hq.out]; omega)
    rw [Hq.out] at ec
    injection ec with ec1 _ ec2
    subst ec1; subst ec2
    have HWM := Lib.hid (write_m (H 0) (X 0).read CA CC (L.take n) _ HM.out.2.1 hsrc HM.out.2.2.1 hgl)
    rw [Hq.out] at HWM
    clear hsrc
    refine HWM.out.mono ?_
    rintro e w4 ⟨rfl, hh4, hg4⟩
    have HF := Lib.hid (read_fin (x' := x2) HP.out 0 (by omega) HB1.out Hg2.out (by rw [HX3.out]; exact HO2.out) (by rw [HVb.out]; exact Hob.out) hg4 (by rw [HX3.out]; exact hh4) (by rw [HX3.out]) (by rw [HX3.out]) (by rw [HX3.out]; show (L.drop n).length ≤ room; rw [List.length_drop, ← HK.out]; omega))
    have HOf := Lib.hid ((HM.out.2.2.2).kept hg4 (by cases hvv : (Value.slice CA n CC).ownBlock; exact .inl rfl; right; intro e; have := (HM.out.2.2.2).lt _ hvv; have := Option.some.inj e; omega))
    clear hh4 hg4
    go_wp2_with fail
    go_ret2
    exact ⟨_, _, rfl, HOf.out, by rw [HVb.out]; exact Hob.out, HF.out⟩

  · obtain rfl : n = 0 := by have := HNN.out; omega
    subst hc2
    go_enter Tryd.func19, Tryd.ntmps19
    go_wp2_with fail
    refine HD.out.mono ?_
    rintro e w' ⟨rfl, rfl⟩
    go_wp2_with fail
    refine (clone_all w'.heap.size _ (L.take 0) w' HSL.out (Nat.le_refl _) (by rw [Hq.out]; omega)).mono ?_
    rintro e w1 ⟨vc, rfl, hOc, hB1⟩
    obtain ⟨CA, CC, rfl, _, _, _, _⟩ := hOc.sl
    have HOc := Lib.hid hOc
    have HB1 := Lib.hid hB1
    have hk1 := (HP.out.below hB1).blk
    have c1 : w1.cell? ⟨b, 1, none⟩ = some (.slice VA 0 VC) := (hB1.cell (p := ⟨b, 1, none⟩) HP.out.blk.lt).trans k0
    have f1 := hk1.free 1
    have HO1 := Lib.hid (HO0.out.below hB1)
    have HK1 := Lib.hid hk1
    clear hOc hB1 hk1 k0
    rw [Hq.out] at HOc ⊢
    go_wp2_with fail
    refine (HDel.out w1 HO1.out).mono ?_
    rintro e w2 ⟨v2, rfl, hO2, hob, hg2⟩
    obtain ⟨DA, DC, rfl, _, _, _, _⟩ := hO2.sl
    obtain ⟨dl, hdl⟩ : ∃ dl, dl = (L.drop 0).length := ⟨_, rfl⟩
    rw [← hdl] at hO2 hob ⊢
    clear hdl
    have hg2' : w1.grownBy w2 (V 0).ownBlock := (by rw [HVb.out]; exact hg2)
    have HM := Lib.hid (read_mid (v' := .slice DA dl DC) HP.out 0 (by omega) HB1.out HOc.out hg2')
    have hk2 := HM.out.1
    have e0 := hk2.at (o := 1) rfl
    have e1 := hk2.free 1
    have e3 := hk2.at (o := 4) rfl
    have HO2 := Lib.hid hO2
    have Hob := Lib.hid hob
    have Hg2 := Lib.hid hg2'
    clear hk2 hO2 hob hg2 hg2'
    go_wp2_with fail
    obtain ⟨CA', CC', ec, hsrc⟩ := (HM.out.2.2.2).src (hb := H 0) hlt (by rw [Hq.out]; omega)
    rw [Hq.out] at ec
    injection ec with ec1 _ ec2
    subst ec1; subst ec2
    have HWM := Lib.hid (write_m (H 0) (X 0).read CA CC (L.take 0) _ HM.out.2.1 hsrc HM.out.2.2.1 hgl)
    rw [Hq.out] at HWM
    clear hsrc
    refine HWM.out.mono ?_
    rintro e w4 ⟨rfl, hh4, hg4⟩
    have HF := Lib.hid (read_fin (x' := x2) HP.out 0 (by omega) HB1.out Hg2.out (by rw [HX3.out]; exact HO2.out) (by rw [HVb.out]; exact Hob.out) hg4 (by rw [HX3.out]; exact hh4) (by rw [HX3.out]) (by rw [HX3.out]) (by rw [HX3.out]; show (L.drop 0).length ≤ room; rw [List.length_drop, ← HK.out]; omega))
    have HOf := Lib.hid ((HM.out.2.2.2).kept hg4 (by cases hvv : (Value.slice CA 0 CC).ownBlock; exact .inl rfl; right; intro e; have := (HM.out.2.2.2).lt _ hvv; have := Option.some.inj e; omega))
    clear hh4 hg4
    go_wp2_with fail
    go_ret2
    exact ⟨_, _, rfl, HOf.out, by rw [HVb.out]; exact Hob.out, HF.out⟩
set_option maxHeartbeats 1000000 in
theorem read_1 (h : PP w base b room V H X) (m : Int) :
    Calls Tryd.prog 19 #[tP b, .int .i64 1, .int .i64 m] w fun e w' => ∃ v v', e = .returned (.tuple #[v, .int .i64 0]) ∧ OwnB w' w.heap.size v ((X 1).buf.take (rdN (X 1) m)) ∧ v'.ownBlock = (V 1).ownBlock ∧ PP w' base b room (upd V 1 v') H (upd X 1 (rdX (X 1) m)) ∧ Trs (ppS b V H) w w' := by
  have HD := Lib.hid (dir_ok b 1 (by omega) w)
  have HP := Lib.hid h
  have k0 : w.cell? ⟨b, 5, none⟩ = some (V 1) := h.blk.at (o := 5) rfl
  have hln := h.len 1 (by omega)
  have hr2 := h.r2
  have hgl : 1 ≠ H 1 := (by have := h.glob; have := h.geh 1 (by omega); omega)
  have hlt : H 1 < w.heap.size := (h.hash 1 (by omega)).lt
  have hbs := h.size
  obtain ⟨n, hn⟩ : ∃ n, n = rdN (X 1) m := ⟨_, rfl⟩
  obtain ⟨x2, hx2⟩ : ∃ x, x = rdX (X 1) m := ⟨_, rfl⟩
  rw [← hn, ← hx2]
  have hx3 : x2 = { X 1 with buf := (X 1).buf.drop n, read := (X 1).read ++ (X 1).buf.take n } := by rw [hx2, hn]; rfl
  have hnle : n ≤ (X 1).buf.length := by rw [hn]; unfold rdN; omega
  have HN := Lib.hid (show (m ≤ 0 ∧ (n : Int) = 0) ∨ (0 < m ∧ m ≤ ((X 1).buf.length : Int) ∧ (n : Int) = m) ∨ (¬ m ≤ ((X 1).buf.length : Int) ∧ 0 < (X 1).buf.length ∧ (n : Int) = ((X 1).buf.length : Int)) ∨ (0 < m ∧ (X 1).buf.length = 0 ∧ (n : Int) = 0) from by rw [hn]; unfold rdN; omega)
  obtain ⟨VA, VC, hV, _, q1, q2, _⟩ := (h.own 1 (by omega)).sl
  rw [hV] at k0
  have HV1 := Lib.hid hV; clear hV
  have HX3 := Lib.hid hx3
  have HH := Lib.hid (h.hash 1 (by omega))
  clear hn hx2 hx3 h
  obtain ⟨L, hL⟩ : ∃ L, L = (X 1).buf := ⟨_, rfl⟩
  rw [← hL] at hln hnle HN HV1 HX3 k0 q1 ⊢
  have HO0 : Hid (OwnB w base (.slice VA L.length VC) L) := Lib.hid (by rw [← HV1.out, hL]; exact HP.out.own 1 (by omega))
  clear hL
  obtain ⟨K, hK⟩ : ∃ K, K = L.length := ⟨_, rfl⟩
  rw [← hK] at hln hnle HN HV1 k0 q1 HO0
  have HSL := Lib.hid (show Sl w w.heap.size (.slice VA n VC) (L.take n) from by
    obtain ⟨A2, c2, e2, _, _, _, hsl⟩ := HO0.out.sl.take n (by rw [← hK]; exact hnle)
    injection e2 with e3 _ e4
    subst e3; subst e4
    exact hsl)
  have Hq : Hid ((L.take n).length = n) := Lib.hid (by rw [List.length_take, ← hK]; omega)
  obtain ⟨N, hNN⟩ : ∃ N : Int, N = (n : Int) := ⟨_, rfl⟩
  have hrun : ∀ w, (Instr.slice 29 (.slice VA K VC) none (some (.int .i64 N)) none).run Tryd.prog w = .ok (.slice VA n VC) w := by rw [hNN]; exact slice_h VA K VC n (by omega)
  rw [← hNN] at HN
  have HNN := Lib.hid hNN; clear hNN
  have hc0 : (0 : Int) ≤ (K : Int) := by omega
  have HHn := Lib.hid (show some b ≠ (Value.slice VA K VC).ownBlock from by rw [← HV1.out]; exact (HP.out.apb 1 (by omega)).1.symm)
  have HDel := Lib.hid (show ∀ W, OwnB W base (.slice VA K VC) L → Calls Tryd.prog 38 #[.slice VA K VC, .int .i64 0, .int .i64 N] W fun e w' => ∃ v', e = .returned v' ∧ OwnB w' base v' (L.drop n) ∧ v'.ownBlock = (Value.slice VA K VC).ownBlock ∧ W.grownBy w' (Value.slice VA K VC).ownBlock from fun W hO => by
    rw [HNN.out]; exact del_first base _ L n W hO (by rw [← hK]; exact hnle) (by rw [← hK]; omega))
  have HVb := Lib.hid (show (V 1).ownBlock = (Value.slice VA K VC).ownBlock from by rw [HV1.out])
  have HK := Lib.hid hK; clear hK
  rcases HN.out with ⟨hc, rfl⟩ | ⟨hc, hc2, rfl⟩ | ⟨hc, hc2, rfl⟩ | ⟨hc, hc2, rfl⟩
  · go_enter Tryd.func19, Tryd.ntmps19
    go_wp2_with fail
    refine HD.out.mono ?_
    rintro e w' ⟨rfl, rfl⟩
    go_wp2_with fail
    refine (clone_all w'.heap.size _ (L.take n) w' HSL.out (Nat.le_refl _) (by rw [Hq.out]; omega)).mono ?_
    rintro e w1 ⟨vc, rfl, hOc, hB1⟩
    obtain ⟨CA, CC, rfl, _, _, _, _⟩ := hOc.sl
    have HOc := Lib.hid hOc
    have HB1 := Lib.hid hB1
    have hk1 := (HP.out.below hB1).blk
    have c1 : w1.cell? ⟨b, 5, none⟩ = some (.slice VA K VC) := (hB1.cell (p := ⟨b, 5, none⟩) HP.out.blk.lt).trans k0
    have f1 := hk1.free 5
    have HO1 := Lib.hid (HO0.out.below hB1)
    have HK1 := Lib.hid hk1
    clear hOc hB1 hk1 k0
    rw [Hq.out] at HOc ⊢
    go_wp2_with fail
    refine (HDel.out w1 HO1.out).mono ?_
    rintro e w2 ⟨v2, rfl, hO2, hob, hg2⟩
    obtain ⟨DA, DC, rfl, _, _, _, _⟩ := hO2.sl
    obtain ⟨dl, hdl⟩ : ∃ dl, dl = (L.drop n).length := ⟨_, rfl⟩
    rw [← hdl] at hO2 hob ⊢
    clear hdl
    have hg2' : w1.grownBy w2 (V 1).ownBlock := (by rw [HVb.out]; exact hg2)
    have HM := Lib.hid (read_mid (v' := .slice DA dl DC) HP.out 1 (by omega) HB1.out HOc.out hg2')
    have hk2 := HM.out.1
    have e0 := hk2.at (o := 5) rfl
    have e1 := hk2.free 5
    have e3 := hk2.at (o := 8) rfl
    have HO2 := Lib.hid hO2
    have Hob := Lib.hid hob
    have Hg2 := Lib.hid hg2'
    clear hk2 hO2 hob hg2 hg2'
    go_wp2_with fail
    obtain ⟨CA', CC', ec, hsrc⟩ := (HM.out.2.2.2).src (hb := H 1) hlt (by rw [Hq.out]; omega)
    rw [Hq.out] at ec
    injection ec with ec1 _ ec2
    subst ec1; subst ec2
    have HWM := Lib.hid (write_m (H 1) (X 1).read CA CC (L.take n) _ HM.out.2.1 hsrc HM.out.2.2.1 hgl)
    rw [Hq.out] at HWM
    clear hsrc
    refine HWM.out.mono ?_
    rintro e w4 ⟨rfl, hh4, hg4⟩
    have HF := Lib.hid (read_fin (x' := x2) HP.out 1 (by omega) HB1.out Hg2.out (by rw [HX3.out]; exact HO2.out) (by rw [HVb.out]; exact Hob.out) hg4 (by rw [HX3.out]; exact hh4) (by rw [HX3.out]) (by rw [HX3.out]) (by rw [HX3.out]; show (L.drop n).length ≤ room; rw [List.length_drop, ← HK.out]; omega))
    have HOf := Lib.hid ((HM.out.2.2.2).kept hg4 (by cases hvv : (Value.slice CA n CC).ownBlock; exact .inl rfl; right; intro e; have := (HM.out.2.2.2).lt _ hvv; have := Option.some.inj e; omega))
    clear hh4 hg4
    go_wp2_with fail
    go_ret2
    exact ⟨_, _, rfl, HOf.out, by rw [HVb.out]; exact Hob.out, HF.out⟩
  · go_enter Tryd.func19, Tryd.ntmps19
    go_wp2_with fail
    refine HD.out.mono ?_
    rintro e w' ⟨rfl, rfl⟩
    go_wp2_with fail
    refine (clone_all w'.heap.size _ (L.take n) w' HSL.out (Nat.le_refl _) (by rw [Hq.out]; omega)).mono ?_
    rintro e w1 ⟨vc, rfl, hOc, hB1⟩
    obtain ⟨CA, CC, rfl, _, _, _, _⟩ := hOc.sl
    have HOc := Lib.hid hOc
    have HB1 := Lib.hid hB1
    have hk1 := (HP.out.below hB1).blk
    have c1 : w1.cell? ⟨b, 5, none⟩ = some (.slice VA K VC) := (hB1.cell (p := ⟨b, 5, none⟩) HP.out.blk.lt).trans k0
    have f1 := hk1.free 5
    have HO1 := Lib.hid (HO0.out.below hB1)
    have HK1 := Lib.hid hk1
    clear hOc hB1 hk1 k0
    rw [Hq.out] at HOc ⊢
    go_wp2_with fail
    refine (HDel.out w1 HO1.out).mono ?_
    rintro e w2 ⟨v2, rfl, hO2, hob, hg2⟩
    obtain ⟨DA, DC, rfl, _, _, _, _⟩ := hO2.sl
    obtain ⟨dl, hdl⟩ : ∃ dl, dl = (L.drop n).length := ⟨_, rfl⟩
    rw [← hdl] at hO2 hob ⊢
    clear hdl
    have hg2' : w1.grownBy w2 (V 1).ownBlock := (by rw [HVb.out]; exact hg2)
    have HM := Lib.hid (read_mid (v' := .slice DA dl DC) HP.out 1 (by omega) HB1.out HOc.out hg2')
    have hk2 := HM.out.1
    have e0 := hk2.at (o := 5) rfl
    have e1 := hk2.free 5
    have e3 := hk2.at (o := 8) rfl
    have HO2 := Lib.hid hO2
    have Hob := Lib.hid hob
    have Hg2 := Lib.hid hg2'
    clear hk2 hO2 hob hg2 hg2'
    go_wp2_with fail
    obtain ⟨CA', CC', ec, hsrc⟩ := (HM.out.2.2.2).src (hb := H 1) hlt (by rw [Hq.out]; omega)
    rw [Hq.out] at ec
    injection ec with ec1 _ ec2
    subst ec1; subst ec2
    have HWM := Lib.hid (write_m (H 1) (X 1).read CA CC (L.take n) _ HM.out.2.1 hsrc HM.out.2.2.1 hgl)
    rw [Hq.out] at HWM
    clear hsrc
    refine HWM.out.mono ?_
    rintro e w4 ⟨rfl, hh4, hg4⟩
    have HF := Lib.hid (read_fin (x' := x2) HP.out 1 (by omega) HB1.out Hg2.out (by rw [HX3.out]; exact HO2.out) (by rw [HVb.out]; exact Hob.out) hg4 (by rw [HX3.out]; exact hh4) (by rw [HX3.out]) (by rw [HX3.out]) (by rw [HX3.out]; show (L.drop n).length ≤ room; rw [List.length_drop, ← HK.out]; omega))
    have HOf := Lib.hid ((HM.out.2.2.2).kept hg4 (by cases hvv : (Value.slice CA n CC).ownBlock; exact .inl rfl; right; intro e; have := (HM.out.2.2.2).lt _ hvv; have := Option.some.inj e; omega))
    clear hh4 hg4
    go_wp2_with fail
    go_ret2
    exact ⟨_, _, rfl, HOf.out, by rw [HVb.out]; exact Hob.out, HF.out⟩
  · obtain rfl : n = K := by have := HNN.out; omega
    go_enter Tryd.func19, Tryd.ntmps19
    go_wp2_with fail
    refine HD.out.mono ?_
    rintro e w' ⟨rfl, rfl⟩
    go_wp2_with fail
    refine (clone_all w'.heap.size _ (L.take n) w' HSL.out (Nat.le_refl _) (by rw [Hq.out]; omega)).mono ?_
    rintro e w1 ⟨vc, rfl, hOc, hB1⟩
    obtain ⟨CA, CC, rfl, _, _, _, _⟩ := hOc.sl
    have HOc := Lib.hid hOc
    have HB1 := Lib.hid hB1
    have hk1 := (HP.out.below hB1).blk
    have c1 : w1.cell? ⟨b, 5, none⟩ = some (.slice VA n VC) := (hB1.cell (p := ⟨b, 5, none⟩) HP.out.blk.lt).trans k0
    have f1 := hk1.free 5
    have HO1 := Lib.hid (HO0.out.below hB1)
    have HK1 := Lib.hid hk1
    clear hOc hB1 hk1 k0
    rw [Hq.out] at HOc ⊢
    go_wp2_with fail
    refine (HDel.out w1 HO1.out).mono ?_
    rintro e w2 ⟨v2, rfl, hO2, hob, hg2⟩
    obtain ⟨DA, DC, rfl, _, _, _, _⟩ := hO2.sl
    obtain ⟨dl, hdl⟩ : ∃ dl, dl = (L.drop n).length := ⟨_, rfl⟩
    rw [← hdl] at hO2 hob ⊢
    clear hdl
    have hg2' : w1.grownBy w2 (V 1).ownBlock := (by rw [HVb.out]; exact hg2)
    have HM := Lib.hid (read_mid (v' := .slice DA dl DC) HP.out 1 (by omega) HB1.out HOc.out hg2')
    have hk2 := HM.out.1
    have e0 := hk2.at (o := 5) rfl
    have e1 := hk2.free 5
    have e3 := hk2.at (o := 8) rfl
    have HO2 := Lib.hid hO2
    have Hob := Lib.hid hob
    have Hg2 := Lib.hid hg2'
    clear hk2 hO2 hob hg2 hg2'
    go_wp2_with fail
    obtain ⟨CA', CC', ec, hsrc⟩ := (HM.out.2.2.2).src (hb := H 1) hlt (by rw [Hq.out]; omega)
    rw [Hq.out] at ec
    injection ec with ec1 _ ec2
    subst ec1; subst ec2
    have HWM := Lib.hid (write_m (H 1) (X 1).read CA CC (L.take n) _ HM.out.2.1 hsrc HM.out.2.2.1 hgl)
    rw [Hq.out] at HWM
    clear hsrc
    refine HWM.out.mono ?_
    rintro e w4 ⟨rfl, hh4, hg4⟩
    have HF := Lib.hid (read_fin (x' := x2) HP.out 1 (by omega) HB1.out Hg2.out (by rw [HX3.out]; exact HO2.out) (by rw [HVb.out]; exact Hob.out) hg4 (by rw [HX3.out]; exact hh4) (by rw [HX3.out]) (by rw [HX3.out]) (by rw [HX3.out]; show (L.drop n).length ≤ room; rw [List.length_drop, ← HK.out]; omega))
    have HOf := Lib.hid ((HM.out.2.2.2).kept hg4 (by cases hvv : (Value.slice CA n CC).ownBlock; exact .inl rfl; right; intro e; have := (HM.out.2.2.2).lt _ hvv; have := Option.some.inj e; omega))
    clear hh4 hg4
    go_wp2_with fail
    go_ret2
    exact ⟨_, _, rfl, HOf.out, by rw [HVb.out]; exact Hob.out, HF.out⟩

  · obtain rfl : n = 0 := by have := HNN.out; omega
    subst hc2
    go_enter Tryd.func19, Tryd.ntmps19
    go_wp2_with fail
    refine HD.out.mono ?_
    rintro e w' ⟨rfl, rfl⟩
    go_wp2_with fail
    refine (clone_all w'.heap.size _ (L.take 0) w' HSL.out (Nat.le_refl _) (by rw [Hq.out]; omega)).mono ?_
    rintro e w1 ⟨vc, rfl, hOc, hB1⟩
    obtain ⟨CA, CC, rfl, _, _, _, _⟩ := hOc.sl
    have HOc := Lib.hid hOc
    have HB1 := Lib.hid hB1
    have hk1 := (HP.out.below hB1).blk
    have c1 : w1.cell? ⟨b, 5, none⟩ = some (.slice VA 0 VC) := (hB1.cell (p := ⟨b, 5, none⟩) HP.out.blk.lt).trans k0
    have f1 := hk1.free 5
    have HO1 := Lib.hid (HO0.out.below hB1)
    have HK1 := Lib.hid hk1
    clear hOc hB1 hk1 k0
    rw [Hq.out] at HOc ⊢
    go_wp2_with fail
    refine (HDel.out w1 HO1.out).mono ?_
    rintro e w2 ⟨v2, rfl, hO2, hob, hg2⟩
    obtain ⟨DA, DC, rfl, _, _, _, _⟩ := hO2.sl
    obtain ⟨dl, hdl⟩ : ∃ dl, dl = (L.drop 0).length := ⟨_, rfl⟩
    rw [← hdl] at hO2 hob ⊢
    clear hdl
    have hg2' : w1.grownBy w2 (V 1).ownBlock := (by rw [HVb.out]; exact hg2)
    have HM := Lib.hid (read_mid (v' := .slice DA dl DC) HP.out 1 (by omega) HB1.out HOc.out hg2')
    have hk2 := HM.out.1
    have e0 := hk2.at (o := 5) rfl
    have e1 := hk2.free 5
    have e3 := hk2.at (o := 8) rfl
    have HO2 := Lib.hid hO2
    have Hob := Lib.hid hob
    have Hg2 := Lib.hid hg2'
    clear hk2 hO2 hob hg2 hg2'
    go_wp2_with fail
    obtain ⟨CA', CC', ec, hsrc⟩ := (HM.out.2.2.2).src (hb := H 1) hlt (by rw [Hq.out]; omega)
    rw [Hq.out] at ec
    injection ec with ec1 _ ec2
    subst ec1; subst ec2
    have HWM := Lib.hid (write_m (H 1) (X 1).read CA CC (L.take 0) _ HM.out.2.1 hsrc HM.out.2.2.1 hgl)
    rw [Hq.out] at HWM
    clear hsrc
    refine HWM.out.mono ?_
    rintro e w4 ⟨rfl, hh4, hg4⟩
    have HF := Lib.hid (read_fin (x' := x2) HP.out 1 (by omega) HB1.out Hg2.out (by rw [HX3.out]; exact HO2.out) (by rw [HVb.out]; exact Hob.out) hg4 (by rw [HX3.out]; exact hh4) (by rw [HX3.out]) (by rw [HX3.out]) (by rw [HX3.out]; show (L.drop 0).length ≤ room; rw [List.length_drop, ← HK.out]; omega))
    have HOf := Lib.hid ((HM.out.2.2.2).kept hg4 (by cases hvv : (Value.slice CA 0 CC).ownBlock; exact .inl rfl; right; intro e; have := (HM.out.2.2.2).lt _ hvv; have := Option.some.inj e; omega))
    clear hh4 hg4
    go_wp2_with fail
    go_ret2
    exact ⟨_, _, rfl, HOf.out, by rw [HVb.out]; exact Hob.out, HF.out⟩
end
end Go.Proofs.YtlobmffcnobgeaaDoor
