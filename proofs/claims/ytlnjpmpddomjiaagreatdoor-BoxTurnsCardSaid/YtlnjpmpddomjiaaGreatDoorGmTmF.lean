/- box's reference: Tag. -/
import Derived.Test.YtlnjpmpddomjiaaGreatDoorGmTmD
set_option maxRecDepth 100000
namespace Go.Proofs.YtlnjpmpddomjiaaGreatDoor
open Go.RowKit
attribute [local go_sem] Oper.semAt_some
theorem noughts_ownT (w : World) : OwnB (w.alloc (.cells (noughts 32) 5)) w.heap.size (.slice (some ⟨w.heap.size, 0, none⟩) 32 32) (List.replicate 32 0) :=
  OwnB.of_heap (n := 32) (Nat.le_refl _) (heap_alloc_new w _) (noughts_size 32) (by decide) (by simp) (by rw [noughts_list]; simp) (Nat.le_refl _)
/-- The terms and their row behind a call of Tag: as they were, or longer by the new one, in a row of its own. -/
def NewT (w : World) (V : Value) (T : List TmL) (q : TmL) (V' : Value) (T' : List TmL) : Prop := (T' = T ∧ V' = V) ∨ (T' = T ++ [q] ∧ ∀ k, V'.ownBlock = some k → w.heap.size ≤ k)
set_option maxHeartbeats 8000000 in
theorem tag_ref {w : World} {base x : Nat} {V : Value} {sym full : Bool} {T : List TmL} {ts : List TmV} (h : XB w base x V sym full T ts) (q : TmL) (t : TmV) (hq : TmO w base q t) (hn : TmN x q) :
    Calls Tryz.prog 47 #[.pointer (some ⟨x, 0, none⟩), tmA q] w fun e w' => ∃ v' V' T', e = .returned v' ∧ OwnB w' w.heap.size v' (tagT ts t) ∧ XB w' base x V' sym (fullT full ts t) T' (esT ts t) ∧ Trs [x] w w' ∧ NewT w V T q V' T' := by
  obtain ⟨kd, KA, km, kc, TA, tm, tc, rd, LA, lm, lc, MA, mm, mc⟩ := q
  obtain ⟨bq, hbq⟩ : ∃ bq, bq = w.heap.size := ⟨_, rfl⟩
  obtain ⟨W, hW⟩ : ∃ W, W = w.alloc (.cells #[.int .i64 kd, .slice KA km kc, .slice TA tm tc, .int .i64 rd, .slice LA lm lc, .slice MA mm mc] tTm) := ⟨_, rfl⟩
  have hb : Below w.heap.size w W := by rw [hW]; exact (Below.refl _ _).alloc (Nat.le_refl _) _
  have HB := Lib.hid hb
  have HX := Lib.hid (h.below hb)
  have HQ := Lib.hid (hq.below hb)
  have HBQ := Lib.hid (show Blk W bq [.int .i64 kd, .slice KA km kc, .slice TA tm tc, .int .i64 rd, .slice LA lm lc, .slice MA mm mc] from by rw [hW, hbq]; exact Blk.new w _ tTm)
  have HN := Lib.hid hn
  have HZ := Lib.hid (show W.heap.size = bq + 1 ∧ x < bq ∧ w.heap.size = bq from ⟨by rw [hW, hbq]; simp, by rw [hbq]; exact h.blk.lt, hbq.symm⟩)
  obtain ⟨A, c, rfl, hc1, hc2⟩ := h.own.form
  have k1 : (w.alloc (.cells #[.int .i64 kd, .slice KA km kc, .slice TA tm tc, .int .i64 rd, .slice LA lm lc, .slice MA mm mc] tTm)).cell? ⟨x, 1, none⟩ = some (.slice A T.length c) := by rw [← hW]; exact (h.below hb).blk.at (o := 1) rfl
  clear h hq hn hb
  unfold tmA
  go_enter Tryz.func47, Tryz.ntmps47
  go_wp2_with fail
  rw [← hW, ← hbq]
  clear hW k1 hbq
  go_loopw [5, 6, 12] (fun _ _ i wr => ∃ k : Nat, k ≤ T.length ∧ i = .int .i64 (k : Int) ∧ (∀ j (hj : j < ts.length), j < k → ts[j] ≠ t) ∧ Below W.heap.size W wr) (fun _ _ i _ => T.length - (intOf i).toNat)
  case atStart => exact ⟨0, by omega, rfl, fun j hj h => by omega, Below.refl _ _⟩
  case round =>
    obtain ⟨k, hk, rfl, hno, hbl⟩ := hrel
    have HNO := Lib.hid hno
    have HBl := Lib.hid hbl
    have HLE := Lib.hid (show T.length ≤ 4096 from by rw [HX.out.len]; exact HX.out.le)
    clear hno
    by_cases hlt : k < T.length
    · obtain ⟨g, o, hA, hgl, c0, c1, c2, c3, c4, c5⟩ := (HX.out.own.tmIn.below hbl (Nat.le_refl _)).six k hlt
      subst hA
      have hts : k < ts.length := by rw [← HX.out.len]; exact hlt
      have HTO := Lib.hid (HX.out.tm k hlt hts)
      obtain ⟨y, hy⟩ : ∃ y, y = T[k] := ⟨_, rfl⟩
      rw [← hy] at c0 c1 c2 c3 c4 c5 HTO
      have hz := HZ.out
      have hzr := hbl.size
      have hbk := HBQ.out.below hbl (by omega)
      obtain ⟨W2, hW2⟩ : ∃ W2, W2 = wr.alloc (.cells #[.int .i64 y.kind, .slice y.KA y.km y.kc, .slice y.TA y.tm y.tc, .int .i64 y.rounds, .slice y.LA y.lm y.lc, .slice y.MA y.mm y.mc] tTm) := ⟨_, rfl⟩
      have hb2 : Below wr.heap.size wr W2 := by rw [hW2]; exact (Below.refl _ _).alloc (Nat.le_refl _) _
      have hbl2 := hbl.trans (hb2.mono hzr)
      have HB2 := Lib.hid hbl2
      have hbk2 := hbk.below hb2 (by omega)
      have ESM := Lib.hid (sameTm_any W2.heap.size y ⟨kd, KA, km, kc, TA, tm, tc, rd, LA, lm, lc, MA, mm, mc⟩ ts[k] t W2 (HTO.out.below hbl2).s (HQ.out.below hbl2).s (Nat.le_refl _) (by obtain ⟨ns, e, h, -⟩ := HQ.out.lst; rw [e, List.length_map]; omega))
      rw [hW2] at hbk2
      have b0 := hbk2.at (o := 0) rfl
      have b1 := hbk2.at (o := 1) rfl
      have b2 := hbk2.at (o := 2) rfl
      have b3 := hbk2.at (o := 3) rfl
      have b4 := hbk2.at (o := 4) rfl
      have b5 := hbk2.at (o := 5) rfl
      clear hy hbl hbk hbk2 hz hzr hb2 hbl2
      obtain ⟨kd2, KA2, km2, kc2, TA2, tm2, tc2, rd2, LA2, lm2, lc2, MA2, mm2, mc2⟩ := y
      unfold tmA at ESM
      simp only at ESM b0 b1 b2 b3 b4 b5 c0 c1 c2 c3 c4 c5 hW2
      go_wp2_with fail
      rw [← hW2]
      clear hW2 b0 b1 b2 b3 b4 b5 c0 c1 c2 c3 c4 c5
      refine ESM.out.mono ?_
      rintro e W3 ⟨rfl, hb3⟩
      have HB3 := Lib.hid (HB2.out.trans (hb3.mono HB2.out.size))
      clear hb3 ESM HB2
      by_cases he : ts[k] = t
      · rw [decide_eq_true he]
        have HIX := Lib.hid (idx_first k hts he (fun j hj h => HNO.out j hj h))
        have HMM := Lib.hid (show t ∈ ts from he ▸ List.getElem_mem hts)
        have HKL := Lib.hid (show k < 4096 from by have := HLE.out; omega)
        have hw : IntKind.i64.wrap ((k : Int) + 1) = ((k + 1 : Nat) : Int) := by rw [IntWalk.i64_in _ (by have := HLE.out; omega)]; omega
        clear he
        go_wp2_with fail
        refine (refHandle_any (k + 1) (by have := HKL.out; omega) W3).mono ?_
        rintro e W4 ⟨v', rfl, hO, hb4⟩
        have HO := Lib.hid hO
        have HB4 := Lib.hid (HB3.out.trans (hb4.mono HB3.out.size))
        have HZ4 := Lib.hid HB3.out.size
        clear hO hb4
        go_wp2_with fail
        go_ret
        refine ⟨_, _, _, rfl, ?_, HX.out.below HB4.out |> fun h => by unfold fullT esT; rw [if_pos HMM.out, if_pos HMM.out]; exact h, Trs.of_below (HB.out.trans (HB4.out.mono (by have := HZ.out; omega))), .inl ⟨rfl, rfl⟩⟩
        unfold tagT
        rw [if_pos HMM.out, HIX.out]
        exact HO.out.lower (by have := HZ.out; have := HZ4.out; omega)
      · rw [decide_eq_false he]
        have HNE := Lib.hid he
        clear he
        go_wp2_with fail
        go_roundw
        case rel => exact ⟨k + 1, by omega, by go_num, fun j hj h => by by_cases e : j = k; subst e; exact HNE.out; exact HNO.out j hj (by omega), HB3.out⟩
        case measure => simp [intOf]; omega
    · obtain rfl : k = T.length := by omega
      have k1 : wr.cell? ⟨x, 1, none⟩ = some (.slice A T.length c) := (HX.out.below hbl).blk.at (o := 1) rfl
      have f2 := (HX.out.below hbl).blk.free 2
      have k2 : wr.cell? ⟨x, 2, none⟩ = some (.bool full) := (HX.out.below hbl).blk.at (o := 2) rfl
      have HXB0 := Lib.hid (HX.out.below HBl.out)
      have hbk := HBQ.out.below HBl.out (by have := HZ.out; omega)
      have HNT := Lib.hid (show t ∉ ts from fun hm => by
        obtain ⟨j, hj, he⟩ := List.getElem_of_mem hm
        exact HNO.out j hj (by rw [HX.out.len]; exact hj) he)
      clear hbl
      by_cases hfull : 4096 ≤ T.length
      · have d1 : decide ((4096 : Int) ≤ (T.length : Int)) = true := decide_eq_true (by omega)
        have d2 : (4096 : Int) ≤ (T.length : Int) := by omega
        have HLT := Lib.hid (show 4096 ≤ ts.length from by rw [← HX.out.len]; exact hfull)
        have hmk : ∀ W : World, (Instr.makeSlice 34 (.int .i64 32) (.int .i64 32)).run Tryz.prog W = .ok (.slice (some ⟨W.heap.size, 0, none⟩) 32 32) (W.alloc (.cells (noughts 32) 5)) := make_bytes 32 32 (by omega) (by omega)
        clear hfull hbk
        go_wp2_with fail
        go_ret
        have ht : Trs [x] wr (wr.setCell ⟨x, 2, none⟩ (.bool true)) := (Trs.refl [x] wr).set (p := ⟨x, 2, none⟩) (by simp) _
        have hba : Below (wr.setCell ⟨x, 2, none⟩ (.bool true)).heap.size (wr.setCell ⟨x, 2, none⟩ (.bool true)) ((wr.setCell ⟨x, 2, none⟩ (.bool true)).alloc (.cells (noughts 32) 5)) := (Below.refl _ _).alloc (Nat.le_refl _) _
        have hz := HZ.out
        have hwz := HBl.out.size
        refine ⟨.slice (some ⟨wr.heap.size, 0, none⟩) 32 32, .slice A T.length c, T, rfl, ?_, ?_, ((Trs.of_below (HB.out.trans (HBl.out.mono (by omega))) : Trs [x] w wr).trans ht).below hba, .inl ⟨rfl, rfl⟩⟩
        · unfold tagT
          rw [if_neg HNT.out, if_pos HLT.out]
          have hn := noughts_ownT (wr.setCell ⟨x, 2, none⟩ (.bool true))
          simp only [World.size_setCell] at hn
          exact hn.lower (by omega)
        · unfold fullT esT
          rw [if_neg HNT.out, if_pos HLT.out, if_neg HNT.out, if_pos HLT.out]
          have h0 := HXB0.out
          exact XB.below ⟨h0.blk.set 2 _, h0.own.trs ht (fun k hk => by have := h0.nb; rw [hk] at this; simp; exact fun e => this (by rw [e])), h0.len, fun i h1 h2 => by
            have hnk := h0.nk T[i] (List.getElem_mem h1)
            exact (h0.tm i h1 h2).trs1 ht hnk, h0.bx, h0.nb, h0.nk, h0.le, h0.nil⟩ hba
      · have d1 : decide ((4096 : Int) ≤ (T.length : Int)) = false := decide_eq_false (by omega)
        have d2 : ¬ (4096 : Int) ≤ (T.length : Int) := by omega
        have HLT := Lib.hid (show T.length < 4096 from by omega)
        clear hfull
        go_wp2_with fail
        refine wp_region_noPanic ?_
        refine wp_region_held (S := fun W' => W'.cell? ⟨bq, 0, none⟩ = some (.int .i64 kd) ∧ W'.cell? ⟨bq, 1, none⟩ = some (.slice KA km kc) ∧ W'.cell? ⟨bq, 2, none⟩ = some (.slice TA tm tc) ∧ W'.cell? ⟨bq, 3, none⟩ = some (.int .i64 rd) ∧ W'.cell? ⟨bq, 4, none⟩ = some (.slice LA lm lc) ∧ W'.cell? ⟨bq, 5, none⟩ = some (.slice MA mm mc)) (by kernel_rfl) ?_
        change wpAnyH _ _ _ _ _ _ _ _ (World.drew _)
        obtain ⟨X0, hX0⟩ : ∃ X, X = World.drew wr := ⟨_, rfl⟩
        have HBX := Lib.hid (show Below wr.heap.size wr X0 from by rw [hX0]; exact (Below.refl _ _).drew)
        rw [← hX0]
        clear hX0 k1 k2 f2 d1 d2
        have HXB := Lib.hid (HXB0.out.below HBX.out)
        have HBK := Lib.hid (hbk.below HBX.out hbk.lt)
        have HSX := Lib.hid (fun (W' : World) (hb : Below X0.heap.size X0 W') => (show W'.cell? ⟨bq, 0, none⟩ = some (.int .i64 kd) ∧ W'.cell? ⟨bq, 1, none⟩ = some (.slice KA km kc) ∧ W'.cell? ⟨bq, 2, none⟩ = some (.slice TA tm tc) ∧ W'.cell? ⟨bq, 3, none⟩ = some (.int .i64 rd) ∧ W'.cell? ⟨bq, 4, none⟩ = some (.slice LA lm lc) ∧ W'.cell? ⟨bq, 5, none⟩ = some (.slice MA mm mc) from ⟨(HBK.out.below hb HBK.out.lt).at (o := 0) rfl, (HBK.out.below hb HBK.out.lt).at (o := 1) rfl, (HBK.out.below hb HBK.out.lt).at (o := 2) rfl, (HBK.out.below hb HBK.out.lt).at (o := 3) rfl, (HBK.out.below hb HBK.out.lt).at (o := 4) rfl, (HBK.out.below hb HBK.out.lt).at (o := 5) rfl⟩))
        have HBX0 := Lib.hid (Below.refl X0.heap.size X0)
        have HS := Lib.hid (HSX.out X0 HBX0.out)
        clear hbk
        have HSA := Lib.hid (fun (Y : World) (v : Value) (hb : Below X0.heap.size X0 Y) => (show (Y.setCell ⟨x, 1, none⟩ v).cell? ⟨bq, 0, none⟩ = some (.int .i64 kd) ∧ (Y.setCell ⟨x, 1, none⟩ v).cell? ⟨bq, 1, none⟩ = some (.slice KA km kc) ∧ (Y.setCell ⟨x, 1, none⟩ v).cell? ⟨bq, 2, none⟩ = some (.slice TA tm tc) ∧ (Y.setCell ⟨x, 1, none⟩ v).cell? ⟨bq, 3, none⟩ = some (.int .i64 rd) ∧ (Y.setCell ⟨x, 1, none⟩ v).cell? ⟨bq, 4, none⟩ = some (.slice LA lm lc) ∧ (Y.setCell ⟨x, 1, none⟩ v).cell? ⟨bq, 5, none⟩ = some (.slice MA mm mc) from by
          have hk := ((Trs.refl [x] Y).set (p := ⟨x, 1, none⟩) (by simp) v).blk (HBK.out.below hb HBK.out.lt) (by have := HZ.out; simp; omega)
          exact ⟨hk.at (o := 0) rfl, hk.at (o := 1) rfl, hk.at (o := 2) rfl, hk.at (o := 3) rfl, hk.at (o := 4) rfl, hk.at (o := 5) rfl⟩))
        have HWX := Lib.hid (show Below W.heap.size W X0 ∧ W.heap.size ≤ X0.heap.size from ⟨HBl.out.trans (HBX.out.mono HBl.out.size), Nat.le_trans HBl.out.size HBX.out.size⟩)
        have HPUT := Lib.hid (fun (Y : World) (g cap : Nat) (hb : Below X0.heap.size X0 Y) (hO : OwnM tTm Y X0.heap.size (.slice (some ⟨g, 0, none⟩) (T.length + 1) cap) (T ++ [⟨kd, KA, km, kc, TA, tm, tc, rd, LA, lm, lc, MA, mm, mc⟩])) => (show XB (Y.setCell ⟨x, 1, none⟩ (.slice (some ⟨g, 0, none⟩) (T.length + 1) cap)) base x (.slice (some ⟨g, 0, none⟩) (T.length + 1) cap) sym full (T ++ [⟨kd, KA, km, kc, TA, tm, tc, rd, LA, lm, lc, MA, mm, mc⟩]) (ts ++ [t]) ∧ Trs [x] wr (Y.setCell ⟨x, 1, none⟩ (.slice (some ⟨g, 0, none⟩) (T.length + 1) cap)) ∧ w.heap.size ≤ g from by
          have ht : Trs [x] Y (Y.setCell ⟨x, 1, none⟩ (.slice (some ⟨g, 0, none⟩) (T.length + 1) cap)) := (Trs.refl [x] Y).set (p := ⟨x, 1, none⟩) (by simp) _
          have hz := HZ.out
          have hwx := HWX.out.2
          have hbx := HX.out.bx
          have hg : X0.heap.size ≤ g := (hO.lt g rfl).1
          have hq2 := (HQ.out.below (HWX.out.1.trans (hb.mono hwx))).trs1 ht HN.out
          have hxb := HXB.out.below hb
          refine ⟨⟨hxb.blk.set 1 _, (hO.trs ht (fun k hk => by cases hk; simp; omega)).le (by omega), by rw [List.length_append, List.length_append, HX.out.len]; rfl, ?_, hbx, (fun e => by have h1 : g = x := Option.some.inj e; omega), ?_, by rw [List.length_append, ← HX.out.len]; have := HLT.out; simp; omega, fun e => by simp at e⟩, (Trs.of_below (HBX.out.trans (hb.mono HBX.out.size))).trans ht, by have := HBl.out.size; have := HBX.out.size; omega⟩
          · intro i h1 h2
            by_cases hi : i < T.length
            · have hi2 : i < ts.length := by rw [← HX.out.len]; exact hi
              rw [List.getElem_append_left hi, List.getElem_append_left hi2]
              have hnk := hxb.nk T[i] (List.getElem_mem hi)
              exact (hxb.tm i hi hi2).trs1 ht hnk
            · have hi0 : i = T.length := by rw [List.length_append, List.length_singleton] at h1; omega
              rw [List.getElem_append_right (by omega), List.getElem_append_right (by rw [← HX.out.len]; omega)]
              simp only [List.getElem_singleton]
              exact hq2
          · intro q0 hq0
            rcases List.mem_append.1 hq0 with h | h
            · exact HX.out.nk q0 h
            · rw [List.mem_singleton.1 h]; exact HN.out))
        have HEND := Lib.hid (fun (YA YB : World) (V' v5 : Value) (T' : List TmL) (h1 : XB YA base x V' sym full T' (ts ++ [t])) (h2 : Trs [x] wr YA) (h3 : OwnB YB YA.heap.size v5 (fro ++ len4 (T.length + 1))) (h4 : Below YA.heap.size YA YB) (h5 : NewT w (.slice A T.length c) T ⟨kd, KA, km, kc, TA, tm, tc, rd, LA, lm, lc, MA, mm, mc⟩ V' T') => (show ∃ v' V' T', Ending.returned v5 = .returned v' ∧ OwnB YB w.heap.size v' (tagT ts t) ∧ XB YB base x V' sym (fullT full ts t) T' (esT ts t) ∧ Trs [x] w YB ∧ NewT w (.slice A T.length c) T ⟨kd, KA, km, kc, TA, tm, tc, rd, LA, lm, lc, MA, mm, mc⟩ V' T' from by
          have hlt := HLT.out
          have hz := HZ.out
          have hwz := HBl.out.size
          have h2z := h2.size
          rw [HX.out.len] at hlt h3
          refine ⟨v5, V', T', rfl, ?_, ?_, ((Trs.of_below (HB.out.trans (HBl.out.mono (by omega))) : Trs [x] w wr).trans h2).below h4, h5⟩
          · unfold tagT; rw [if_neg HNT.out, if_neg (by omega)]; exact h3.lower (by omega)
          · unfold fullT esT; rw [if_neg HNT.out, if_neg (by omega), if_neg HNT.out, if_neg (by omega)]; exact h1.below h4))
        refine takeH 0 34 (.pointer (some ⟨x, 0, none⟩)) rfl rfl (by kernel_rfl) (by kernel_rfl) (by kernel_rfl) (fun _ _ _ h => h) rfl (fun w' h => by obtain ⟨h0, h1, h2, h3, h4, h5⟩ := h; go_simp) HS.out ?_
        go_frame
        refine takeH 2 36 (.pointer (some ⟨x, 0, none⟩)) rfl rfl (by kernel_rfl) (by kernel_rfl) (by kernel_rfl) (fun _ _ _ h => h) rfl (fun w' h => by obtain ⟨h0, h1, h2, h3, h4, h5⟩ := h; go_simp) HS.out ?_
        go_frame
        refine takeH 3 37 (.pointer (some ⟨x, 0, none⟩)) rfl rfl (by kernel_rfl) (by kernel_rfl) (by kernel_rfl) (fun _ _ _ h => h) rfl (fun w' h => by obtain ⟨h0, h1, h2, h3, h4, h5⟩ := h; go_simp) HS.out ?_
        go_frame
        refine takeH 4 38 (.pointer (some ⟨x, 1, none⟩)) rfl rfl (by kernel_rfl) (by kernel_rfl) (by kernel_rfl) (fun _ _ _ h => h) rfl (fun w' h => by obtain ⟨h0, h1, h2, h3, h4, h5⟩ := h; go_simp) HS.out ?_
        go_frame
        refine takeH 7 41 (.agg #[.int .i64 kd, .slice KA km kc, .slice TA tm tc, .int .i64 rd, .slice LA lm lc, .slice MA mm mc]) rfl rfl (by kernel_rfl) (by kernel_rfl) (by kernel_rfl) (fun _ _ _ h => h) rfl (fun w' h => by obtain ⟨h0, h1, h2, h3, h4, h5⟩ := h; go_simp) HS.out ?_
        go_frame
        refine wpAnyH_all (rs := [1, 5, 8]) (by kernel_rfl) (by simp) ?_
        simp only [List.mem_cons, List.not_mem_nil, or_false, forall_eq_or_imp, forall_eq]
        refine ⟨?_, ?_, ?_⟩
        · obtain ⟨Y1, hY1⟩ : ∃ X, X = X0.alloc (.cells #[] tTm) := ⟨_, rfl⟩
          have hbY1 : Below X0.heap.size X0 Y1 := by rw [hY1]; exact (Below.refl _ _).alloc (Nat.le_refl _) _
          have HBY1 := Lib.hid (HBX0.out.trans (hbY1.mono HBX0.out.size))
          have HLY1 := Lib.hid (show OwnM tTm Y1 X0.heap.size (.slice (some ⟨X0.heap.size, 0, none⟩) 0 0) [] from by rw [hY1]; exact (OwnM.empty tTm X0).le HBX0.out.size)
          have HG0 := Lib.hid (show Y1.heap.size = X0.heap.size + 1 from by rw [hY1]; simp)
          refine wpOp_valueT 35 rfl rfl rfl (.slice (some ⟨X0.heap.size, 0, none⟩) 0 0) Y1 (by rw [hY1]; go_simp) ⟨HSX.out Y1 HBY1.out, ?_⟩
          go_frame
          clear hY1 hbY1
          refine wpAnyH_all (rs := [5, 8]) (by kernel_rfl) (by simp) ?_
          simp only [List.mem_cons, List.not_mem_nil, or_false, forall_eq_or_imp, forall_eq]
          refine ⟨?_, ?_⟩
          · refine wpOp_valueT 39 rfl rfl rfl (.slice A T.length c) Y1 (by have k1 : Y1.cell? ⟨x, 1, none⟩ = some (.slice A T.length c) := (HXB.out.below HBY1.out).blk.at (o := 1) rfl; go_simp) ⟨HSX.out Y1 HBY1.out, ?_⟩
            go_frame
            refine wpAnyH_all (rs := [6, 8]) (by kernel_rfl) (by simp) ?_
            simp only [List.mem_cons, List.not_mem_nil, or_false, forall_eq_or_imp, forall_eq]
            refine ⟨?_, ?_⟩
            · refine wpOp_appTms tmT 40 rfl rfl rfl (.tmp 35) (.tmp 39) rfl X0.heap.size (.slice (some ⟨X0.heap.size, 0, none⟩) 0 0) [] T rfl HLY1.out Y1.heap.size (.slice A T.length c) rfl (HXB.out.below HBY1.out).own.tmIn HXB.out.nil (by have := HLE.out; simp; omega) HBY1.out.size ?_
              intro v' Y3 hO hg ho
              rw [List.nil_append] at hO
              have HBY3 := Lib.hid (HBY1.out.trans (HLY1.out.belowBase hg HBY1.out.size))
              have HLY3 := Lib.hid hO
              obtain ⟨A4, c4, rfl, -⟩ := hO.form
              refine ⟨HSX.out Y3 HBY3.out, ?_⟩
              go_frame
              clear hO hg ho
              refine wpAnyH_all (rs := [8]) (by kernel_rfl) (by simp) ?_
              simp only [List.mem_singleton, forall_eq]
              obtain ⟨Y4, hY4⟩ : ∃ X, X = Y3.alloc (.cells #[.int .i64 kd, .slice KA km kc, .slice TA tm tc, .int .i64 rd, .slice LA lm lc, .slice MA mm mc] tTm) := ⟨_, rfl⟩
              have hbY4 : Below Y3.heap.size Y3 Y4 := by rw [hY4]; exact (Below.refl _ _).alloc (Nat.le_refl _) _
              have HBY4 := Lib.hid (HBY3.out.trans (hbY4.mono HBY3.out.size))
              have HNY4 := Lib.hid (show Y4.heap[Y3.heap.size]? = some (.cells (TmL.cells ⟨kd, KA, km, kc, TA, tm, tc, rd, LA, lm, lc, MA, mm, mc⟩).toArray tTm (0, 0)) from by rw [hY4]; exact heap_alloc_new Y3 _)
              have HG1 := Lib.hid (show Y4.heap.size = Y3.heap.size + 1 from by rw [hY4]; simp)
              have HLY4 := Lib.hid (HLY3.out.below hbY4)
              refine wpOp_valueT 42 rfl rfl rfl (.slice (some ⟨Y3.heap.size, 0, none⟩) 1 1) Y4 (by rw [hY4]; go_simp) ⟨HSX.out Y4 HBY4.out, ?_⟩
              go_frame
              clear hY4 hbY4
              refine wpAnyH_all (rs := [9]) (by kernel_rfl) (by simp) ?_
              simp only [List.mem_singleton, forall_eq]
              refine wpOp_appTm tmT 43 rfl rfl rfl (.tmp 40) (.tmp 42) rfl X0.heap.size (.slice A4 T.length c4) T rfl HLY4.out Y3.heap.size ⟨kd, KA, km, kc, TA, tm, tc, rd, LA, lm, lc, MA, mm, mc⟩ rfl HNY4.out (by have := HLE.out; omega) HBY4.out.size ?_
              intro g cap Y9 hO hg ho
              have HB9 := Lib.hid (HBY4.out.trans (HLY4.out.belowBase hg HBY4.out.size))
              have HO9 := Lib.hid hO
              refine ⟨HSX.out Y9 HB9.out, ?_⟩
              go_frame
              clear hO hg ho
              have hk9 := (HXB.out.below HB9.out).blk
              have c9 : Y9.cell? ⟨x, 1, none⟩ = some (.slice A T.length c) := hk9.at (o := 1) rfl
              have f9 : Y9.frozen? ⟨x, 1, none⟩ = false := hk9.free _
              have HS9 := Lib.hid (HSX.out Y9 HB9.out)
              refine takeH 10 44 (.pointer (some ⟨x, 0, none⟩)) rfl rfl (by kernel_rfl) (by kernel_rfl) (by kernel_rfl) (fun _ _ _ h => h) rfl (fun w' h => by obtain ⟨h0, h1, h2, h3, h4, h5⟩ := h; go_simp) HS9.out ?_
              go_frame
              refine takeH 11 45 (.pointer (some ⟨x, 1, none⟩)) rfl rfl (by kernel_rfl) (by kernel_rfl) (by kernel_rfl) (fun _ _ _ h => h) rfl (fun w' h => by obtain ⟨h0, h1, h2, h3, h4, h5⟩ := h; go_simp) HS9.out ?_
              go_frame
              refine wpAnyH_all (rs := [12]) (by kernel_rfl) (by simp) ?_
              simp only [List.mem_singleton, forall_eq]
              obtain ⟨YA, hYA⟩ : ∃ X, X = Y9.setCell ⟨x, 1, none⟩ (.slice (some ⟨g, 0, none⟩) (T.length + 1) cap) := ⟨_, rfl⟩
              have HRES := Lib.hid (show XB YA base x (.slice (some ⟨g, 0, none⟩) (T.length + 1) cap) sym full (T ++ [⟨kd, KA, km, kc, TA, tm, tc, rd, LA, lm, lc, MA, mm, mc⟩]) (ts ++ [t]) ∧ Trs [x] wr YA ∧ w.heap.size ≤ g from by rw [hYA]; exact (HPUT.out Y9 g cap HB9.out HO9.out))
              refine wpOp_storeT rfl rfl rfl (w' := YA) (by rw [hYA]; go_simp) ⟨by rw [hYA]; exact HSA.out Y9 _ HB9.out, ?_⟩
              refine wpAnyH_done (by kernel_rfl) ?_ _
              refine NoPanic.normal ?_
              clear hYA c9 f9 hk9
              have k1 : YA.cell? ⟨x, 1, none⟩ = some (.slice (some ⟨g, 0, none⟩) (T.length + 1) cap) := HRES.out.1.blk.at (o := 1) rfl
              go_wp2_with fail
              have hcs : (T.length : Int) + 1 = ((T.length + 1 : Nat) : Int) := by omega
              try rw [hcs]
              refine (refHandle_any (T.length + 1) (by have := HLT.out; omega) YA).mono ?_
              rintro e YB ⟨v5, rfl, hO5, hb5⟩
              have HO5 := Lib.hid hO5
              have HB5 := Lib.hid hb5
              clear hO5 hb5 hcs
              go_wp2_with fail
              go_ret
              exact HEND.out YA YB _ _ _ HRES.out.1 HRES.out.2.1 HO5.out HB5.out (.inr ⟨rfl, fun k hk => by cases hk; exact HRES.out.2.2⟩)
            · obtain ⟨Y3, hY3⟩ : ∃ X, X = Y1.alloc (.cells #[.int .i64 kd, .slice KA km kc, .slice TA tm tc, .int .i64 rd, .slice LA lm lc, .slice MA mm mc] tTm) := ⟨_, rfl⟩
              have hbY3 : Below Y1.heap.size Y1 Y3 := by rw [hY3]; exact (Below.refl _ _).alloc (Nat.le_refl _) _
              have HBY3 := Lib.hid (HBY1.out.trans (hbY3.mono HBY1.out.size))
              have HNY3 := Lib.hid (show Y3.heap[Y1.heap.size]? = some (.cells (TmL.cells ⟨kd, KA, km, kc, TA, tm, tc, rd, LA, lm, lc, MA, mm, mc⟩).toArray tTm (0, 0)) from by rw [hY3]; exact heap_alloc_new Y1 _)
              have HG1 := Lib.hid (show Y3.heap.size = Y1.heap.size + 1 from by rw [hY3]; simp)
              have HLY3 := Lib.hid (HLY1.out.below hbY3)
              refine wpOp_valueT 42 rfl rfl rfl (.slice (some ⟨Y1.heap.size, 0, none⟩) 1 1) Y3 (by rw [hY3]; go_simp) ⟨HSX.out Y3 HBY3.out, ?_⟩
              go_frame
              clear hY3 hbY3
              refine wpAnyH_all (rs := [6]) (by kernel_rfl) (by simp) ?_
              simp only [List.mem_singleton, forall_eq]
              refine wpOp_appTms tmT 40 rfl rfl rfl (.tmp 35) (.tmp 39) rfl X0.heap.size (.slice (some ⟨X0.heap.size, 0, none⟩) 0 0) [] T rfl HLY3.out Y3.heap.size (.slice A T.length c) rfl (HXB.out.below HBY3.out).own.tmIn HXB.out.nil (by have := HLE.out; simp; omega) HBY3.out.size ?_
              intro v' Y4 hO hg ho
              rw [List.nil_append] at hO
              have HBY4 := Lib.hid (HBY3.out.trans (HLY3.out.belowBase hg HBY3.out.size))
              have HLY4 := Lib.hid hO
              have HNY4 := Lib.hid ((hg.block Y1.heap.size (Array.getElem?_eq_some_iff.1 HNY3.out).1 (fun e => by have h1 : Y1.heap.size = X0.heap.size := (by injection e); have := HG0.out; have := HG1.out; omega)).trans HNY3.out)
              obtain ⟨A4, c4, rfl, -⟩ := hO.form
              refine ⟨HSX.out Y4 HBY4.out, ?_⟩
              go_frame
              clear hO hg ho
              refine wpAnyH_all (rs := [9]) (by kernel_rfl) (by simp) ?_
              simp only [List.mem_singleton, forall_eq]
              refine wpOp_appTm tmT 43 rfl rfl rfl (.tmp 40) (.tmp 42) rfl X0.heap.size (.slice A4 T.length c4) T rfl HLY4.out Y1.heap.size ⟨kd, KA, km, kc, TA, tm, tc, rd, LA, lm, lc, MA, mm, mc⟩ rfl HNY4.out (by have := HLE.out; omega) HBY4.out.size ?_
              intro g cap Y9 hO hg ho
              have HB9 := Lib.hid (HBY4.out.trans (HLY4.out.belowBase hg HBY4.out.size))
              have HO9 := Lib.hid hO
              refine ⟨HSX.out Y9 HB9.out, ?_⟩
              go_frame
              clear hO hg ho
              have hk9 := (HXB.out.below HB9.out).blk
              have c9 : Y9.cell? ⟨x, 1, none⟩ = some (.slice A T.length c) := hk9.at (o := 1) rfl
              have f9 : Y9.frozen? ⟨x, 1, none⟩ = false := hk9.free _
              have HS9 := Lib.hid (HSX.out Y9 HB9.out)
              refine takeH 10 44 (.pointer (some ⟨x, 0, none⟩)) rfl rfl (by kernel_rfl) (by kernel_rfl) (by kernel_rfl) (fun _ _ _ h => h) rfl (fun w' h => by obtain ⟨h0, h1, h2, h3, h4, h5⟩ := h; go_simp) HS9.out ?_
              go_frame
              refine takeH 11 45 (.pointer (some ⟨x, 1, none⟩)) rfl rfl (by kernel_rfl) (by kernel_rfl) (by kernel_rfl) (fun _ _ _ h => h) rfl (fun w' h => by obtain ⟨h0, h1, h2, h3, h4, h5⟩ := h; go_simp) HS9.out ?_
              go_frame
              refine wpAnyH_all (rs := [12]) (by kernel_rfl) (by simp) ?_
              simp only [List.mem_singleton, forall_eq]
              obtain ⟨YA, hYA⟩ : ∃ X, X = Y9.setCell ⟨x, 1, none⟩ (.slice (some ⟨g, 0, none⟩) (T.length + 1) cap) := ⟨_, rfl⟩
              have HRES := Lib.hid (show XB YA base x (.slice (some ⟨g, 0, none⟩) (T.length + 1) cap) sym full (T ++ [⟨kd, KA, km, kc, TA, tm, tc, rd, LA, lm, lc, MA, mm, mc⟩]) (ts ++ [t]) ∧ Trs [x] wr YA ∧ w.heap.size ≤ g from by rw [hYA]; exact (HPUT.out Y9 g cap HB9.out HO9.out))
              refine wpOp_storeT rfl rfl rfl (w' := YA) (by rw [hYA]; go_simp) ⟨by rw [hYA]; exact HSA.out Y9 _ HB9.out, ?_⟩
              refine wpAnyH_done (by kernel_rfl) ?_ _
              refine NoPanic.normal ?_
              clear hYA c9 f9 hk9
              have k1 : YA.cell? ⟨x, 1, none⟩ = some (.slice (some ⟨g, 0, none⟩) (T.length + 1) cap) := HRES.out.1.blk.at (o := 1) rfl
              go_wp2_with fail
              have hcs : (T.length : Int) + 1 = ((T.length + 1 : Nat) : Int) := by omega
              try rw [hcs]
              refine (refHandle_any (T.length + 1) (by have := HLT.out; omega) YA).mono ?_
              rintro e YB ⟨v5, rfl, hO5, hb5⟩
              have HO5 := Lib.hid hO5
              have HB5 := Lib.hid hb5
              clear hO5 hb5 hcs
              go_wp2_with fail
              go_ret
              exact HEND.out YA YB _ _ _ HRES.out.1 HRES.out.2.1 HO5.out HB5.out (.inr ⟨rfl, fun k hk => by cases hk; exact HRES.out.2.2⟩)
          · obtain ⟨Y2, hY2⟩ : ∃ X, X = Y1.alloc (.cells #[.int .i64 kd, .slice KA km kc, .slice TA tm tc, .int .i64 rd, .slice LA lm lc, .slice MA mm mc] tTm) := ⟨_, rfl⟩
            have hbY2 : Below Y1.heap.size Y1 Y2 := by rw [hY2]; exact (Below.refl _ _).alloc (Nat.le_refl _) _
            have HBY2 := Lib.hid (HBY1.out.trans (hbY2.mono HBY1.out.size))
            have HNY2 := Lib.hid (show Y2.heap[Y1.heap.size]? = some (.cells (TmL.cells ⟨kd, KA, km, kc, TA, tm, tc, rd, LA, lm, lc, MA, mm, mc⟩).toArray tTm (0, 0)) from by rw [hY2]; exact heap_alloc_new Y1 _)
            have HG1 := Lib.hid (show Y2.heap.size = Y1.heap.size + 1 from by rw [hY2]; simp)
            have HLY2 := Lib.hid (HLY1.out.below hbY2)
            refine wpOp_valueT 42 rfl rfl rfl (.slice (some ⟨Y1.heap.size, 0, none⟩) 1 1) Y2 (by rw [hY2]; go_simp) ⟨HSX.out Y2 HBY2.out, ?_⟩
            go_frame
            clear hY2 hbY2
            refine wpAnyH_all (rs := [5]) (by kernel_rfl) (by simp) ?_
            simp only [List.mem_singleton, forall_eq]
            refine wpOp_valueT 39 rfl rfl rfl (.slice A T.length c) Y2 (by have k1 : Y2.cell? ⟨x, 1, none⟩ = some (.slice A T.length c) := (HXB.out.below HBY2.out).blk.at (o := 1) rfl; go_simp) ⟨HSX.out Y2 HBY2.out, ?_⟩
            go_frame
            refine wpAnyH_all (rs := [6]) (by kernel_rfl) (by simp) ?_
            simp only [List.mem_singleton, forall_eq]
            refine wpOp_appTms tmT 40 rfl rfl rfl (.tmp 35) (.tmp 39) rfl X0.heap.size (.slice (some ⟨X0.heap.size, 0, none⟩) 0 0) [] T rfl HLY2.out Y2.heap.size (.slice A T.length c) rfl (HXB.out.below HBY2.out).own.tmIn HXB.out.nil (by have := HLE.out; simp; omega) HBY2.out.size ?_
            intro v' Y4 hO hg ho
            rw [List.nil_append] at hO
            have HBY4 := Lib.hid (HBY2.out.trans (HLY2.out.belowBase hg HBY2.out.size))
            have HLY4 := Lib.hid hO
            have HNY4 := Lib.hid ((hg.block Y1.heap.size (Array.getElem?_eq_some_iff.1 HNY2.out).1 (fun e => by have h1 : Y1.heap.size = X0.heap.size := (by injection e); have := HG0.out; have := HG1.out; omega)).trans HNY2.out)
            obtain ⟨A4, c4, rfl, -⟩ := hO.form
            refine ⟨HSX.out Y4 HBY4.out, ?_⟩
            go_frame
            clear hO hg ho
            refine wpAnyH_all (rs := [9]) (by kernel_rfl) (by simp) ?_
            simp only [List.mem_singleton, forall_eq]
            refine wpOp_appTm tmT 43 rfl rfl rfl (.tmp 40) (.tmp 42) rfl X0.heap.size (.slice A4 T.length c4) T rfl HLY4.out Y1.heap.size ⟨kd, KA, km, kc, TA, tm, tc, rd, LA, lm, lc, MA, mm, mc⟩ rfl HNY4.out (by have := HLE.out; omega) HBY4.out.size ?_
            intro g cap Y9 hO hg ho
            have HB9 := Lib.hid (HBY4.out.trans (HLY4.out.belowBase hg HBY4.out.size))
            have HO9 := Lib.hid hO
            refine ⟨HSX.out Y9 HB9.out, ?_⟩
            go_frame
            clear hO hg ho
            have hk9 := (HXB.out.below HB9.out).blk
            have c9 : Y9.cell? ⟨x, 1, none⟩ = some (.slice A T.length c) := hk9.at (o := 1) rfl
            have f9 : Y9.frozen? ⟨x, 1, none⟩ = false := hk9.free _
            have HS9 := Lib.hid (HSX.out Y9 HB9.out)
            refine takeH 10 44 (.pointer (some ⟨x, 0, none⟩)) rfl rfl (by kernel_rfl) (by kernel_rfl) (by kernel_rfl) (fun _ _ _ h => h) rfl (fun w' h => by obtain ⟨h0, h1, h2, h3, h4, h5⟩ := h; go_simp) HS9.out ?_
            go_frame
            refine takeH 11 45 (.pointer (some ⟨x, 1, none⟩)) rfl rfl (by kernel_rfl) (by kernel_rfl) (by kernel_rfl) (fun _ _ _ h => h) rfl (fun w' h => by obtain ⟨h0, h1, h2, h3, h4, h5⟩ := h; go_simp) HS9.out ?_
            go_frame
            refine wpAnyH_all (rs := [12]) (by kernel_rfl) (by simp) ?_
            simp only [List.mem_singleton, forall_eq]
            obtain ⟨YA, hYA⟩ : ∃ X, X = Y9.setCell ⟨x, 1, none⟩ (.slice (some ⟨g, 0, none⟩) (T.length + 1) cap) := ⟨_, rfl⟩
            have HRES := Lib.hid (show XB YA base x (.slice (some ⟨g, 0, none⟩) (T.length + 1) cap) sym full (T ++ [⟨kd, KA, km, kc, TA, tm, tc, rd, LA, lm, lc, MA, mm, mc⟩]) (ts ++ [t]) ∧ Trs [x] wr YA ∧ w.heap.size ≤ g from by rw [hYA]; exact (HPUT.out Y9 g cap HB9.out HO9.out))
            refine wpOp_storeT rfl rfl rfl (w' := YA) (by rw [hYA]; go_simp) ⟨by rw [hYA]; exact HSA.out Y9 _ HB9.out, ?_⟩
            refine wpAnyH_done (by kernel_rfl) ?_ _
            refine NoPanic.normal ?_
            clear hYA c9 f9 hk9
            have k1 : YA.cell? ⟨x, 1, none⟩ = some (.slice (some ⟨g, 0, none⟩) (T.length + 1) cap) := HRES.out.1.blk.at (o := 1) rfl
            go_wp2_with fail
            have hcs : (T.length : Int) + 1 = ((T.length + 1 : Nat) : Int) := by omega
            try rw [hcs]
            refine (refHandle_any (T.length + 1) (by have := HLT.out; omega) YA).mono ?_
            rintro e YB ⟨v5, rfl, hO5, hb5⟩
            have HO5 := Lib.hid hO5
            have HB5 := Lib.hid hb5
            clear hO5 hb5 hcs
            go_wp2_with fail
            go_ret
            exact HEND.out YA YB _ _ _ HRES.out.1 HRES.out.2.1 HO5.out HB5.out (.inr ⟨rfl, fun k hk => by cases hk; exact HRES.out.2.2⟩)
        · refine wpOp_valueT 39 rfl rfl rfl (.slice A T.length c) X0 (by have k1 : X0.cell? ⟨x, 1, none⟩ = some (.slice A T.length c) := (HXB.out.below HBX0.out).blk.at (o := 1) rfl; go_simp) ⟨HSX.out X0 HBX0.out, ?_⟩
          go_frame
          refine wpAnyH_all (rs := [1, 8]) (by kernel_rfl) (by simp) ?_
          simp only [List.mem_cons, List.not_mem_nil, or_false, forall_eq_or_imp, forall_eq]
          refine ⟨?_, ?_⟩
          · obtain ⟨Y2, hY2⟩ : ∃ X, X = X0.alloc (.cells #[] tTm) := ⟨_, rfl⟩
            have hbY2 : Below X0.heap.size X0 Y2 := by rw [hY2]; exact (Below.refl _ _).alloc (Nat.le_refl _) _
            have HBY2 := Lib.hid (HBX0.out.trans (hbY2.mono HBX0.out.size))
            have HLY2 := Lib.hid (show OwnM tTm Y2 X0.heap.size (.slice (some ⟨X0.heap.size, 0, none⟩) 0 0) [] from by rw [hY2]; exact (OwnM.empty tTm X0).le HBX0.out.size)
            have HG0 := Lib.hid (show Y2.heap.size = X0.heap.size + 1 from by rw [hY2]; simp)
            refine wpOp_valueT 35 rfl rfl rfl (.slice (some ⟨X0.heap.size, 0, none⟩) 0 0) Y2 (by rw [hY2]; go_simp) ⟨HSX.out Y2 HBY2.out, ?_⟩
            go_frame
            clear hY2 hbY2
            refine wpAnyH_all (rs := [6, 8]) (by kernel_rfl) (by simp) ?_
            simp only [List.mem_cons, List.not_mem_nil, or_false, forall_eq_or_imp, forall_eq]
            refine ⟨?_, ?_⟩
            · refine wpOp_appTms tmT 40 rfl rfl rfl (.tmp 35) (.tmp 39) rfl X0.heap.size (.slice (some ⟨X0.heap.size, 0, none⟩) 0 0) [] T rfl HLY2.out Y2.heap.size (.slice A T.length c) rfl (HXB.out.below HBY2.out).own.tmIn HXB.out.nil (by have := HLE.out; simp; omega) HBY2.out.size ?_
              intro v' Y3 hO hg ho
              rw [List.nil_append] at hO
              have HBY3 := Lib.hid (HBY2.out.trans (HLY2.out.belowBase hg HBY2.out.size))
              have HLY3 := Lib.hid hO
              obtain ⟨A4, c4, rfl, -⟩ := hO.form
              refine ⟨HSX.out Y3 HBY3.out, ?_⟩
              go_frame
              clear hO hg ho
              refine wpAnyH_all (rs := [8]) (by kernel_rfl) (by simp) ?_
              simp only [List.mem_singleton, forall_eq]
              obtain ⟨Y4, hY4⟩ : ∃ X, X = Y3.alloc (.cells #[.int .i64 kd, .slice KA km kc, .slice TA tm tc, .int .i64 rd, .slice LA lm lc, .slice MA mm mc] tTm) := ⟨_, rfl⟩
              have hbY4 : Below Y3.heap.size Y3 Y4 := by rw [hY4]; exact (Below.refl _ _).alloc (Nat.le_refl _) _
              have HBY4 := Lib.hid (HBY3.out.trans (hbY4.mono HBY3.out.size))
              have HNY4 := Lib.hid (show Y4.heap[Y3.heap.size]? = some (.cells (TmL.cells ⟨kd, KA, km, kc, TA, tm, tc, rd, LA, lm, lc, MA, mm, mc⟩).toArray tTm (0, 0)) from by rw [hY4]; exact heap_alloc_new Y3 _)
              have HG1 := Lib.hid (show Y4.heap.size = Y3.heap.size + 1 from by rw [hY4]; simp)
              have HLY4 := Lib.hid (HLY3.out.below hbY4)
              refine wpOp_valueT 42 rfl rfl rfl (.slice (some ⟨Y3.heap.size, 0, none⟩) 1 1) Y4 (by rw [hY4]; go_simp) ⟨HSX.out Y4 HBY4.out, ?_⟩
              go_frame
              clear hY4 hbY4
              refine wpAnyH_all (rs := [9]) (by kernel_rfl) (by simp) ?_
              simp only [List.mem_singleton, forall_eq]
              refine wpOp_appTm tmT 43 rfl rfl rfl (.tmp 40) (.tmp 42) rfl X0.heap.size (.slice A4 T.length c4) T rfl HLY4.out Y3.heap.size ⟨kd, KA, km, kc, TA, tm, tc, rd, LA, lm, lc, MA, mm, mc⟩ rfl HNY4.out (by have := HLE.out; omega) HBY4.out.size ?_
              intro g cap Y9 hO hg ho
              have HB9 := Lib.hid (HBY4.out.trans (HLY4.out.belowBase hg HBY4.out.size))
              have HO9 := Lib.hid hO
              refine ⟨HSX.out Y9 HB9.out, ?_⟩
              go_frame
              clear hO hg ho
              have hk9 := (HXB.out.below HB9.out).blk
              have c9 : Y9.cell? ⟨x, 1, none⟩ = some (.slice A T.length c) := hk9.at (o := 1) rfl
              have f9 : Y9.frozen? ⟨x, 1, none⟩ = false := hk9.free _
              have HS9 := Lib.hid (HSX.out Y9 HB9.out)
              refine takeH 10 44 (.pointer (some ⟨x, 0, none⟩)) rfl rfl (by kernel_rfl) (by kernel_rfl) (by kernel_rfl) (fun _ _ _ h => h) rfl (fun w' h => by obtain ⟨h0, h1, h2, h3, h4, h5⟩ := h; go_simp) HS9.out ?_
              go_frame
              refine takeH 11 45 (.pointer (some ⟨x, 1, none⟩)) rfl rfl (by kernel_rfl) (by kernel_rfl) (by kernel_rfl) (fun _ _ _ h => h) rfl (fun w' h => by obtain ⟨h0, h1, h2, h3, h4, h5⟩ := h; go_simp) HS9.out ?_
              go_frame
              refine wpAnyH_all (rs := [12]) (by kernel_rfl) (by simp) ?_
              simp only [List.mem_singleton, forall_eq]
              obtain ⟨YA, hYA⟩ : ∃ X, X = Y9.setCell ⟨x, 1, none⟩ (.slice (some ⟨g, 0, none⟩) (T.length + 1) cap) := ⟨_, rfl⟩
              have HRES := Lib.hid (show XB YA base x (.slice (some ⟨g, 0, none⟩) (T.length + 1) cap) sym full (T ++ [⟨kd, KA, km, kc, TA, tm, tc, rd, LA, lm, lc, MA, mm, mc⟩]) (ts ++ [t]) ∧ Trs [x] wr YA ∧ w.heap.size ≤ g from by rw [hYA]; exact (HPUT.out Y9 g cap HB9.out HO9.out))
              refine wpOp_storeT rfl rfl rfl (w' := YA) (by rw [hYA]; go_simp) ⟨by rw [hYA]; exact HSA.out Y9 _ HB9.out, ?_⟩
              refine wpAnyH_done (by kernel_rfl) ?_ _
              refine NoPanic.normal ?_
              clear hYA c9 f9 hk9
              have k1 : YA.cell? ⟨x, 1, none⟩ = some (.slice (some ⟨g, 0, none⟩) (T.length + 1) cap) := HRES.out.1.blk.at (o := 1) rfl
              go_wp2_with fail
              have hcs : (T.length : Int) + 1 = ((T.length + 1 : Nat) : Int) := by omega
              try rw [hcs]
              refine (refHandle_any (T.length + 1) (by have := HLT.out; omega) YA).mono ?_
              rintro e YB ⟨v5, rfl, hO5, hb5⟩
              have HO5 := Lib.hid hO5
              have HB5 := Lib.hid hb5
              clear hO5 hb5 hcs
              go_wp2_with fail
              go_ret
              exact HEND.out YA YB _ _ _ HRES.out.1 HRES.out.2.1 HO5.out HB5.out (.inr ⟨rfl, fun k hk => by cases hk; exact HRES.out.2.2⟩)
            · obtain ⟨Y3, hY3⟩ : ∃ X, X = Y2.alloc (.cells #[.int .i64 kd, .slice KA km kc, .slice TA tm tc, .int .i64 rd, .slice LA lm lc, .slice MA mm mc] tTm) := ⟨_, rfl⟩
              have hbY3 : Below Y2.heap.size Y2 Y3 := by rw [hY3]; exact (Below.refl _ _).alloc (Nat.le_refl _) _
              have HBY3 := Lib.hid (HBY2.out.trans (hbY3.mono HBY2.out.size))
              have HNY3 := Lib.hid (show Y3.heap[Y2.heap.size]? = some (.cells (TmL.cells ⟨kd, KA, km, kc, TA, tm, tc, rd, LA, lm, lc, MA, mm, mc⟩).toArray tTm (0, 0)) from by rw [hY3]; exact heap_alloc_new Y2 _)
              have HG1 := Lib.hid (show Y3.heap.size = Y2.heap.size + 1 from by rw [hY3]; simp)
              have HLY3 := Lib.hid (HLY2.out.below hbY3)
              refine wpOp_valueT 42 rfl rfl rfl (.slice (some ⟨Y2.heap.size, 0, none⟩) 1 1) Y3 (by rw [hY3]; go_simp) ⟨HSX.out Y3 HBY3.out, ?_⟩
              go_frame
              clear hY3 hbY3
              refine wpAnyH_all (rs := [6]) (by kernel_rfl) (by simp) ?_
              simp only [List.mem_singleton, forall_eq]
              refine wpOp_appTms tmT 40 rfl rfl rfl (.tmp 35) (.tmp 39) rfl X0.heap.size (.slice (some ⟨X0.heap.size, 0, none⟩) 0 0) [] T rfl HLY3.out Y3.heap.size (.slice A T.length c) rfl (HXB.out.below HBY3.out).own.tmIn HXB.out.nil (by have := HLE.out; simp; omega) HBY3.out.size ?_
              intro v' Y4 hO hg ho
              rw [List.nil_append] at hO
              have HBY4 := Lib.hid (HBY3.out.trans (HLY3.out.belowBase hg HBY3.out.size))
              have HLY4 := Lib.hid hO
              have HNY4 := Lib.hid ((hg.block Y2.heap.size (Array.getElem?_eq_some_iff.1 HNY3.out).1 (fun e => by have h1 : Y2.heap.size = X0.heap.size := (by injection e); have := HG0.out; have := HG1.out; omega)).trans HNY3.out)
              obtain ⟨A4, c4, rfl, -⟩ := hO.form
              refine ⟨HSX.out Y4 HBY4.out, ?_⟩
              go_frame
              clear hO hg ho
              refine wpAnyH_all (rs := [9]) (by kernel_rfl) (by simp) ?_
              simp only [List.mem_singleton, forall_eq]
              refine wpOp_appTm tmT 43 rfl rfl rfl (.tmp 40) (.tmp 42) rfl X0.heap.size (.slice A4 T.length c4) T rfl HLY4.out Y2.heap.size ⟨kd, KA, km, kc, TA, tm, tc, rd, LA, lm, lc, MA, mm, mc⟩ rfl HNY4.out (by have := HLE.out; omega) HBY4.out.size ?_
              intro g cap Y9 hO hg ho
              have HB9 := Lib.hid (HBY4.out.trans (HLY4.out.belowBase hg HBY4.out.size))
              have HO9 := Lib.hid hO
              refine ⟨HSX.out Y9 HB9.out, ?_⟩
              go_frame
              clear hO hg ho
              have hk9 := (HXB.out.below HB9.out).blk
              have c9 : Y9.cell? ⟨x, 1, none⟩ = some (.slice A T.length c) := hk9.at (o := 1) rfl
              have f9 : Y9.frozen? ⟨x, 1, none⟩ = false := hk9.free _
              have HS9 := Lib.hid (HSX.out Y9 HB9.out)
              refine takeH 10 44 (.pointer (some ⟨x, 0, none⟩)) rfl rfl (by kernel_rfl) (by kernel_rfl) (by kernel_rfl) (fun _ _ _ h => h) rfl (fun w' h => by obtain ⟨h0, h1, h2, h3, h4, h5⟩ := h; go_simp) HS9.out ?_
              go_frame
              refine takeH 11 45 (.pointer (some ⟨x, 1, none⟩)) rfl rfl (by kernel_rfl) (by kernel_rfl) (by kernel_rfl) (fun _ _ _ h => h) rfl (fun w' h => by obtain ⟨h0, h1, h2, h3, h4, h5⟩ := h; go_simp) HS9.out ?_
              go_frame
              refine wpAnyH_all (rs := [12]) (by kernel_rfl) (by simp) ?_
              simp only [List.mem_singleton, forall_eq]
              obtain ⟨YA, hYA⟩ : ∃ X, X = Y9.setCell ⟨x, 1, none⟩ (.slice (some ⟨g, 0, none⟩) (T.length + 1) cap) := ⟨_, rfl⟩
              have HRES := Lib.hid (show XB YA base x (.slice (some ⟨g, 0, none⟩) (T.length + 1) cap) sym full (T ++ [⟨kd, KA, km, kc, TA, tm, tc, rd, LA, lm, lc, MA, mm, mc⟩]) (ts ++ [t]) ∧ Trs [x] wr YA ∧ w.heap.size ≤ g from by rw [hYA]; exact (HPUT.out Y9 g cap HB9.out HO9.out))
              refine wpOp_storeT rfl rfl rfl (w' := YA) (by rw [hYA]; go_simp) ⟨by rw [hYA]; exact HSA.out Y9 _ HB9.out, ?_⟩
              refine wpAnyH_done (by kernel_rfl) ?_ _
              refine NoPanic.normal ?_
              clear hYA c9 f9 hk9
              have k1 : YA.cell? ⟨x, 1, none⟩ = some (.slice (some ⟨g, 0, none⟩) (T.length + 1) cap) := HRES.out.1.blk.at (o := 1) rfl
              go_wp2_with fail
              have hcs : (T.length : Int) + 1 = ((T.length + 1 : Nat) : Int) := by omega
              try rw [hcs]
              refine (refHandle_any (T.length + 1) (by have := HLT.out; omega) YA).mono ?_
              rintro e YB ⟨v5, rfl, hO5, hb5⟩
              have HO5 := Lib.hid hO5
              have HB5 := Lib.hid hb5
              clear hO5 hb5 hcs
              go_wp2_with fail
              go_ret
              exact HEND.out YA YB _ _ _ HRES.out.1 HRES.out.2.1 HO5.out HB5.out (.inr ⟨rfl, fun k hk => by cases hk; exact HRES.out.2.2⟩)
          · obtain ⟨Y2, hY2⟩ : ∃ X, X = X0.alloc (.cells #[.int .i64 kd, .slice KA km kc, .slice TA tm tc, .int .i64 rd, .slice LA lm lc, .slice MA mm mc] tTm) := ⟨_, rfl⟩
            have hbY2 : Below X0.heap.size X0 Y2 := by rw [hY2]; exact (Below.refl _ _).alloc (Nat.le_refl _) _
            have HBY2 := Lib.hid (HBX0.out.trans (hbY2.mono HBX0.out.size))
            have HNY2 := Lib.hid (show Y2.heap[X0.heap.size]? = some (.cells (TmL.cells ⟨kd, KA, km, kc, TA, tm, tc, rd, LA, lm, lc, MA, mm, mc⟩).toArray tTm (0, 0)) from by rw [hY2]; exact heap_alloc_new X0 _)
            have HG1 := Lib.hid (show Y2.heap.size = X0.heap.size + 1 from by rw [hY2]; simp)
            refine wpOp_valueT 42 rfl rfl rfl (.slice (some ⟨X0.heap.size, 0, none⟩) 1 1) Y2 (by rw [hY2]; go_simp) ⟨HSX.out Y2 HBY2.out, ?_⟩
            go_frame
            clear hY2 hbY2
            refine wpAnyH_all (rs := [1]) (by kernel_rfl) (by simp) ?_
            simp only [List.mem_singleton, forall_eq]
            obtain ⟨Y3, hY3⟩ : ∃ X, X = Y2.alloc (.cells #[] tTm) := ⟨_, rfl⟩
            have hbY3 : Below Y2.heap.size Y2 Y3 := by rw [hY3]; exact (Below.refl _ _).alloc (Nat.le_refl _) _
            have HBY3 := Lib.hid (HBY2.out.trans (hbY3.mono HBY2.out.size))
            have HLY3 := Lib.hid (show OwnM tTm Y3 X0.heap.size (.slice (some ⟨Y2.heap.size, 0, none⟩) 0 0) [] from by rw [hY3]; exact (OwnM.empty tTm Y2).le HBY2.out.size)
            have HG0 := Lib.hid (show Y3.heap.size = Y2.heap.size + 1 from by rw [hY3]; simp)
            have HNY3 := Lib.hid ((hbY3.block X0.heap.size (Array.getElem?_eq_some_iff.1 HNY2.out).1).trans HNY2.out)
            refine wpOp_valueT 35 rfl rfl rfl (.slice (some ⟨Y2.heap.size, 0, none⟩) 0 0) Y3 (by rw [hY3]; go_simp) ⟨HSX.out Y3 HBY3.out, ?_⟩
            go_frame
            clear hY3 hbY3
            refine wpAnyH_all (rs := [6]) (by kernel_rfl) (by simp) ?_
            simp only [List.mem_singleton, forall_eq]
            refine wpOp_appTms tmT 40 rfl rfl rfl (.tmp 35) (.tmp 39) rfl X0.heap.size (.slice (some ⟨Y2.heap.size, 0, none⟩) 0 0) [] T rfl HLY3.out Y3.heap.size (.slice A T.length c) rfl (HXB.out.below HBY3.out).own.tmIn HXB.out.nil (by have := HLE.out; simp; omega) HBY3.out.size ?_
            intro v' Y4 hO hg ho
            rw [List.nil_append] at hO
            have HBY4 := Lib.hid (HBY3.out.trans (HLY3.out.belowBase hg HBY3.out.size))
            have HLY4 := Lib.hid hO
            have HNY4 := Lib.hid ((hg.block X0.heap.size (Array.getElem?_eq_some_iff.1 HNY3.out).1 (fun e => by have h1 : X0.heap.size = Y2.heap.size := (by injection e); have := HG0.out; have := HG1.out; omega)).trans HNY3.out)
            obtain ⟨A4, c4, rfl, -⟩ := hO.form
            refine ⟨HSX.out Y4 HBY4.out, ?_⟩
            go_frame
            clear hO hg ho
            refine wpAnyH_all (rs := [9]) (by kernel_rfl) (by simp) ?_
            simp only [List.mem_singleton, forall_eq]
            refine wpOp_appTm tmT 43 rfl rfl rfl (.tmp 40) (.tmp 42) rfl X0.heap.size (.slice A4 T.length c4) T rfl HLY4.out X0.heap.size ⟨kd, KA, km, kc, TA, tm, tc, rd, LA, lm, lc, MA, mm, mc⟩ rfl HNY4.out (by have := HLE.out; omega) HBY4.out.size ?_
            intro g cap Y9 hO hg ho
            have HB9 := Lib.hid (HBY4.out.trans (HLY4.out.belowBase hg HBY4.out.size))
            have HO9 := Lib.hid hO
            refine ⟨HSX.out Y9 HB9.out, ?_⟩
            go_frame
            clear hO hg ho
            have hk9 := (HXB.out.below HB9.out).blk
            have c9 : Y9.cell? ⟨x, 1, none⟩ = some (.slice A T.length c) := hk9.at (o := 1) rfl
            have f9 : Y9.frozen? ⟨x, 1, none⟩ = false := hk9.free _
            have HS9 := Lib.hid (HSX.out Y9 HB9.out)
            refine takeH 10 44 (.pointer (some ⟨x, 0, none⟩)) rfl rfl (by kernel_rfl) (by kernel_rfl) (by kernel_rfl) (fun _ _ _ h => h) rfl (fun w' h => by obtain ⟨h0, h1, h2, h3, h4, h5⟩ := h; go_simp) HS9.out ?_
            go_frame
            refine takeH 11 45 (.pointer (some ⟨x, 1, none⟩)) rfl rfl (by kernel_rfl) (by kernel_rfl) (by kernel_rfl) (fun _ _ _ h => h) rfl (fun w' h => by obtain ⟨h0, h1, h2, h3, h4, h5⟩ := h; go_simp) HS9.out ?_
            go_frame
            refine wpAnyH_all (rs := [12]) (by kernel_rfl) (by simp) ?_
            simp only [List.mem_singleton, forall_eq]
            obtain ⟨YA, hYA⟩ : ∃ X, X = Y9.setCell ⟨x, 1, none⟩ (.slice (some ⟨g, 0, none⟩) (T.length + 1) cap) := ⟨_, rfl⟩
            have HRES := Lib.hid (show XB YA base x (.slice (some ⟨g, 0, none⟩) (T.length + 1) cap) sym full (T ++ [⟨kd, KA, km, kc, TA, tm, tc, rd, LA, lm, lc, MA, mm, mc⟩]) (ts ++ [t]) ∧ Trs [x] wr YA ∧ w.heap.size ≤ g from by rw [hYA]; exact (HPUT.out Y9 g cap HB9.out HO9.out))
            refine wpOp_storeT rfl rfl rfl (w' := YA) (by rw [hYA]; go_simp) ⟨by rw [hYA]; exact HSA.out Y9 _ HB9.out, ?_⟩
            refine wpAnyH_done (by kernel_rfl) ?_ _
            refine NoPanic.normal ?_
            clear hYA c9 f9 hk9
            have k1 : YA.cell? ⟨x, 1, none⟩ = some (.slice (some ⟨g, 0, none⟩) (T.length + 1) cap) := HRES.out.1.blk.at (o := 1) rfl
            go_wp2_with fail
            have hcs : (T.length : Int) + 1 = ((T.length + 1 : Nat) : Int) := by omega
            try rw [hcs]
            refine (refHandle_any (T.length + 1) (by have := HLT.out; omega) YA).mono ?_
            rintro e YB ⟨v5, rfl, hO5, hb5⟩
            have HO5 := Lib.hid hO5
            have HB5 := Lib.hid hb5
            clear hO5 hb5 hcs
            go_wp2_with fail
            go_ret
            exact HEND.out YA YB _ _ _ HRES.out.1 HRES.out.2.1 HO5.out HB5.out (.inr ⟨rfl, fun k hk => by cases hk; exact HRES.out.2.2⟩)
        · obtain ⟨Y1, hY1⟩ : ∃ X, X = X0.alloc (.cells #[.int .i64 kd, .slice KA km kc, .slice TA tm tc, .int .i64 rd, .slice LA lm lc, .slice MA mm mc] tTm) := ⟨_, rfl⟩
          have hbY1 : Below X0.heap.size X0 Y1 := by rw [hY1]; exact (Below.refl _ _).alloc (Nat.le_refl _) _
          have HBY1 := Lib.hid (HBX0.out.trans (hbY1.mono HBX0.out.size))
          have HNY1 := Lib.hid (show Y1.heap[X0.heap.size]? = some (.cells (TmL.cells ⟨kd, KA, km, kc, TA, tm, tc, rd, LA, lm, lc, MA, mm, mc⟩).toArray tTm (0, 0)) from by rw [hY1]; exact heap_alloc_new X0 _)
          have HG1 := Lib.hid (show Y1.heap.size = X0.heap.size + 1 from by rw [hY1]; simp)
          refine wpOp_valueT 42 rfl rfl rfl (.slice (some ⟨X0.heap.size, 0, none⟩) 1 1) Y1 (by rw [hY1]; go_simp) ⟨HSX.out Y1 HBY1.out, ?_⟩
          go_frame
          clear hY1 hbY1
          refine wpAnyH_all (rs := [1, 5]) (by kernel_rfl) (by simp) ?_
          simp only [List.mem_cons, List.not_mem_nil, or_false, forall_eq_or_imp, forall_eq]
          refine ⟨?_, ?_⟩
          · obtain ⟨Y2, hY2⟩ : ∃ X, X = Y1.alloc (.cells #[] tTm) := ⟨_, rfl⟩
            have hbY2 : Below Y1.heap.size Y1 Y2 := by rw [hY2]; exact (Below.refl _ _).alloc (Nat.le_refl _) _
            have HBY2 := Lib.hid (HBY1.out.trans (hbY2.mono HBY1.out.size))
            have HLY2 := Lib.hid (show OwnM tTm Y2 X0.heap.size (.slice (some ⟨Y1.heap.size, 0, none⟩) 0 0) [] from by rw [hY2]; exact (OwnM.empty tTm Y1).le HBY1.out.size)
            have HG0 := Lib.hid (show Y2.heap.size = Y1.heap.size + 1 from by rw [hY2]; simp)
            have HNY2 := Lib.hid ((hbY2.block X0.heap.size (Array.getElem?_eq_some_iff.1 HNY1.out).1).trans HNY1.out)
            refine wpOp_valueT 35 rfl rfl rfl (.slice (some ⟨Y1.heap.size, 0, none⟩) 0 0) Y2 (by rw [hY2]; go_simp) ⟨HSX.out Y2 HBY2.out, ?_⟩
            go_frame
            clear hY2 hbY2
            refine wpAnyH_all (rs := [5]) (by kernel_rfl) (by simp) ?_
            simp only [List.mem_singleton, forall_eq]
            refine wpOp_valueT 39 rfl rfl rfl (.slice A T.length c) Y2 (by have k1 : Y2.cell? ⟨x, 1, none⟩ = some (.slice A T.length c) := (HXB.out.below HBY2.out).blk.at (o := 1) rfl; go_simp) ⟨HSX.out Y2 HBY2.out, ?_⟩
            go_frame
            refine wpAnyH_all (rs := [6]) (by kernel_rfl) (by simp) ?_
            simp only [List.mem_singleton, forall_eq]
            refine wpOp_appTms tmT 40 rfl rfl rfl (.tmp 35) (.tmp 39) rfl X0.heap.size (.slice (some ⟨Y1.heap.size, 0, none⟩) 0 0) [] T rfl HLY2.out Y2.heap.size (.slice A T.length c) rfl (HXB.out.below HBY2.out).own.tmIn HXB.out.nil (by have := HLE.out; simp; omega) HBY2.out.size ?_
            intro v' Y4 hO hg ho
            rw [List.nil_append] at hO
            have HBY4 := Lib.hid (HBY2.out.trans (HLY2.out.belowBase hg HBY2.out.size))
            have HLY4 := Lib.hid hO
            have HNY4 := Lib.hid ((hg.block X0.heap.size (Array.getElem?_eq_some_iff.1 HNY2.out).1 (fun e => by have h1 : X0.heap.size = Y1.heap.size := (by injection e); have := HG0.out; have := HG1.out; omega)).trans HNY2.out)
            obtain ⟨A4, c4, rfl, -⟩ := hO.form
            refine ⟨HSX.out Y4 HBY4.out, ?_⟩
            go_frame
            clear hO hg ho
            refine wpAnyH_all (rs := [9]) (by kernel_rfl) (by simp) ?_
            simp only [List.mem_singleton, forall_eq]
            refine wpOp_appTm tmT 43 rfl rfl rfl (.tmp 40) (.tmp 42) rfl X0.heap.size (.slice A4 T.length c4) T rfl HLY4.out X0.heap.size ⟨kd, KA, km, kc, TA, tm, tc, rd, LA, lm, lc, MA, mm, mc⟩ rfl HNY4.out (by have := HLE.out; omega) HBY4.out.size ?_
            intro g cap Y9 hO hg ho
            have HB9 := Lib.hid (HBY4.out.trans (HLY4.out.belowBase hg HBY4.out.size))
            have HO9 := Lib.hid hO
            refine ⟨HSX.out Y9 HB9.out, ?_⟩
            go_frame
            clear hO hg ho
            have hk9 := (HXB.out.below HB9.out).blk
            have c9 : Y9.cell? ⟨x, 1, none⟩ = some (.slice A T.length c) := hk9.at (o := 1) rfl
            have f9 : Y9.frozen? ⟨x, 1, none⟩ = false := hk9.free _
            have HS9 := Lib.hid (HSX.out Y9 HB9.out)
            refine takeH 10 44 (.pointer (some ⟨x, 0, none⟩)) rfl rfl (by kernel_rfl) (by kernel_rfl) (by kernel_rfl) (fun _ _ _ h => h) rfl (fun w' h => by obtain ⟨h0, h1, h2, h3, h4, h5⟩ := h; go_simp) HS9.out ?_
            go_frame
            refine takeH 11 45 (.pointer (some ⟨x, 1, none⟩)) rfl rfl (by kernel_rfl) (by kernel_rfl) (by kernel_rfl) (fun _ _ _ h => h) rfl (fun w' h => by obtain ⟨h0, h1, h2, h3, h4, h5⟩ := h; go_simp) HS9.out ?_
            go_frame
            refine wpAnyH_all (rs := [12]) (by kernel_rfl) (by simp) ?_
            simp only [List.mem_singleton, forall_eq]
            obtain ⟨YA, hYA⟩ : ∃ X, X = Y9.setCell ⟨x, 1, none⟩ (.slice (some ⟨g, 0, none⟩) (T.length + 1) cap) := ⟨_, rfl⟩
            have HRES := Lib.hid (show XB YA base x (.slice (some ⟨g, 0, none⟩) (T.length + 1) cap) sym full (T ++ [⟨kd, KA, km, kc, TA, tm, tc, rd, LA, lm, lc, MA, mm, mc⟩]) (ts ++ [t]) ∧ Trs [x] wr YA ∧ w.heap.size ≤ g from by rw [hYA]; exact (HPUT.out Y9 g cap HB9.out HO9.out))
            refine wpOp_storeT rfl rfl rfl (w' := YA) (by rw [hYA]; go_simp) ⟨by rw [hYA]; exact HSA.out Y9 _ HB9.out, ?_⟩
            refine wpAnyH_done (by kernel_rfl) ?_ _
            refine NoPanic.normal ?_
            clear hYA c9 f9 hk9
            have k1 : YA.cell? ⟨x, 1, none⟩ = some (.slice (some ⟨g, 0, none⟩) (T.length + 1) cap) := HRES.out.1.blk.at (o := 1) rfl
            go_wp2_with fail
            have hcs : (T.length : Int) + 1 = ((T.length + 1 : Nat) : Int) := by omega
            try rw [hcs]
            refine (refHandle_any (T.length + 1) (by have := HLT.out; omega) YA).mono ?_
            rintro e YB ⟨v5, rfl, hO5, hb5⟩
            have HO5 := Lib.hid hO5
            have HB5 := Lib.hid hb5
            clear hO5 hb5 hcs
            go_wp2_with fail
            go_ret
            exact HEND.out YA YB _ _ _ HRES.out.1 HRES.out.2.1 HO5.out HB5.out (.inr ⟨rfl, fun k hk => by cases hk; exact HRES.out.2.2⟩)
          · refine wpOp_valueT 39 rfl rfl rfl (.slice A T.length c) Y1 (by have k1 : Y1.cell? ⟨x, 1, none⟩ = some (.slice A T.length c) := (HXB.out.below HBY1.out).blk.at (o := 1) rfl; go_simp) ⟨HSX.out Y1 HBY1.out, ?_⟩
            go_frame
            refine wpAnyH_all (rs := [1]) (by kernel_rfl) (by simp) ?_
            simp only [List.mem_singleton, forall_eq]
            obtain ⟨Y3, hY3⟩ : ∃ X, X = Y1.alloc (.cells #[] tTm) := ⟨_, rfl⟩
            have hbY3 : Below Y1.heap.size Y1 Y3 := by rw [hY3]; exact (Below.refl _ _).alloc (Nat.le_refl _) _
            have HBY3 := Lib.hid (HBY1.out.trans (hbY3.mono HBY1.out.size))
            have HLY3 := Lib.hid (show OwnM tTm Y3 X0.heap.size (.slice (some ⟨Y1.heap.size, 0, none⟩) 0 0) [] from by rw [hY3]; exact (OwnM.empty tTm Y1).le HBY1.out.size)
            have HG0 := Lib.hid (show Y3.heap.size = Y1.heap.size + 1 from by rw [hY3]; simp)
            have HNY3 := Lib.hid ((hbY3.block X0.heap.size (Array.getElem?_eq_some_iff.1 HNY1.out).1).trans HNY1.out)
            refine wpOp_valueT 35 rfl rfl rfl (.slice (some ⟨Y1.heap.size, 0, none⟩) 0 0) Y3 (by rw [hY3]; go_simp) ⟨HSX.out Y3 HBY3.out, ?_⟩
            go_frame
            clear hY3 hbY3
            refine wpAnyH_all (rs := [6]) (by kernel_rfl) (by simp) ?_
            simp only [List.mem_singleton, forall_eq]
            refine wpOp_appTms tmT 40 rfl rfl rfl (.tmp 35) (.tmp 39) rfl X0.heap.size (.slice (some ⟨Y1.heap.size, 0, none⟩) 0 0) [] T rfl HLY3.out Y3.heap.size (.slice A T.length c) rfl (HXB.out.below HBY3.out).own.tmIn HXB.out.nil (by have := HLE.out; simp; omega) HBY3.out.size ?_
            intro v' Y4 hO hg ho
            rw [List.nil_append] at hO
            have HBY4 := Lib.hid (HBY3.out.trans (HLY3.out.belowBase hg HBY3.out.size))
            have HLY4 := Lib.hid hO
            have HNY4 := Lib.hid ((hg.block X0.heap.size (Array.getElem?_eq_some_iff.1 HNY3.out).1 (fun e => by have h1 : X0.heap.size = Y1.heap.size := (by injection e); have := HG0.out; have := HG1.out; omega)).trans HNY3.out)
            obtain ⟨A4, c4, rfl, -⟩ := hO.form
            refine ⟨HSX.out Y4 HBY4.out, ?_⟩
            go_frame
            clear hO hg ho
            refine wpAnyH_all (rs := [9]) (by kernel_rfl) (by simp) ?_
            simp only [List.mem_singleton, forall_eq]
            refine wpOp_appTm tmT 43 rfl rfl rfl (.tmp 40) (.tmp 42) rfl X0.heap.size (.slice A4 T.length c4) T rfl HLY4.out X0.heap.size ⟨kd, KA, km, kc, TA, tm, tc, rd, LA, lm, lc, MA, mm, mc⟩ rfl HNY4.out (by have := HLE.out; omega) HBY4.out.size ?_
            intro g cap Y9 hO hg ho
            have HB9 := Lib.hid (HBY4.out.trans (HLY4.out.belowBase hg HBY4.out.size))
            have HO9 := Lib.hid hO
            refine ⟨HSX.out Y9 HB9.out, ?_⟩
            go_frame
            clear hO hg ho
            have hk9 := (HXB.out.below HB9.out).blk
            have c9 : Y9.cell? ⟨x, 1, none⟩ = some (.slice A T.length c) := hk9.at (o := 1) rfl
            have f9 : Y9.frozen? ⟨x, 1, none⟩ = false := hk9.free _
            have HS9 := Lib.hid (HSX.out Y9 HB9.out)
            refine takeH 10 44 (.pointer (some ⟨x, 0, none⟩)) rfl rfl (by kernel_rfl) (by kernel_rfl) (by kernel_rfl) (fun _ _ _ h => h) rfl (fun w' h => by obtain ⟨h0, h1, h2, h3, h4, h5⟩ := h; go_simp) HS9.out ?_
            go_frame
            refine takeH 11 45 (.pointer (some ⟨x, 1, none⟩)) rfl rfl (by kernel_rfl) (by kernel_rfl) (by kernel_rfl) (fun _ _ _ h => h) rfl (fun w' h => by obtain ⟨h0, h1, h2, h3, h4, h5⟩ := h; go_simp) HS9.out ?_
            go_frame
            refine wpAnyH_all (rs := [12]) (by kernel_rfl) (by simp) ?_
            simp only [List.mem_singleton, forall_eq]
            obtain ⟨YA, hYA⟩ : ∃ X, X = Y9.setCell ⟨x, 1, none⟩ (.slice (some ⟨g, 0, none⟩) (T.length + 1) cap) := ⟨_, rfl⟩
            have HRES := Lib.hid (show XB YA base x (.slice (some ⟨g, 0, none⟩) (T.length + 1) cap) sym full (T ++ [⟨kd, KA, km, kc, TA, tm, tc, rd, LA, lm, lc, MA, mm, mc⟩]) (ts ++ [t]) ∧ Trs [x] wr YA ∧ w.heap.size ≤ g from by rw [hYA]; exact (HPUT.out Y9 g cap HB9.out HO9.out))
            refine wpOp_storeT rfl rfl rfl (w' := YA) (by rw [hYA]; go_simp) ⟨by rw [hYA]; exact HSA.out Y9 _ HB9.out, ?_⟩
            refine wpAnyH_done (by kernel_rfl) ?_ _
            refine NoPanic.normal ?_
            clear hYA c9 f9 hk9
            have k1 : YA.cell? ⟨x, 1, none⟩ = some (.slice (some ⟨g, 0, none⟩) (T.length + 1) cap) := HRES.out.1.blk.at (o := 1) rfl
            go_wp2_with fail
            have hcs : (T.length : Int) + 1 = ((T.length + 1 : Nat) : Int) := by omega
            try rw [hcs]
            refine (refHandle_any (T.length + 1) (by have := HLT.out; omega) YA).mono ?_
            rintro e YB ⟨v5, rfl, hO5, hb5⟩
            have HO5 := Lib.hid hO5
            have HB5 := Lib.hid hb5
            clear hO5 hb5 hcs
            go_wp2_with fail
            go_ret
            exact HEND.out YA YB _ _ _ HRES.out.1 HRES.out.2.1 HO5.out HB5.out (.inr ⟨rfl, fun k hk => by cases hk; exact HRES.out.2.2⟩)
end Go.Proofs.YtlnjpmpddomjiaaGreatDoor
