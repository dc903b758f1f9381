/- span.Bound. -/
import Derived.Test.YtnfkkopegbeacaaDoorSpWaits
import Derived.Test.YtnfkkopegbeacaaDoorReg
import Derived.Test.YtnfkkopegbeacaaDoorRegR
namespace Go.Proofs.YtnfkkopegbeacaaDoor
open Go.RowKit Go.Shelf
attribute [local go_sem] Oper.semAt_some
/-- What lies in memory between two rounds: the most, the result, what is left, the failures so far; the iterator's two. -/
structure Bd (w : World) (b m t : Int) (j : Nat) (W : World) : Prop where
  bm : Boxed W w.heap.size 25 (u64v m)
  br : Boxed W (w.heap.size + 1) 25 (u64v 0)
  bl : Boxed W (w.heap.size + 2) 25 (u64v (t - 1 - sI b m j))
  bf : Boxed W (w.heap.size + 3) 25 (u64v (1 + (j : Int)))
  wb : Boxed W (w.heap.size + 4) 25 (u64v b)
  wm : Boxed W (w.heap.size + 5) 25 (u64v m)
  low : Below w.heap.size w W
  le : sI b m j ≤ t - 1
  lt : ∀ i, i < j → wI b m (i + 1) < m
theorem Bd.kc {w A B : World} {b m t : Int} {j : Nat} (h : Bd w b m t j A) (hk : KC w.heap.size A B) (hb : Below w.heap.size A B) : Bd w b m t j B :=
  ⟨hk _ _ _ _ (Nat.le_refl _) h.bm, hk _ _ _ _ (by omega) h.br, hk _ _ _ _ (by omega) h.bl, hk _ _ _ _ (by omega) h.bf, hk _ _ _ _ (by omega) h.wb, hk _ _ _ _ (by omega) h.wm, h.low.trans hb, h.le, h.lt⟩
theorem Bd.few {w A : World} {b m t : Int} {j : Nat} (h : Bd w b m t j A) (hb : 1 ≤ b) (hm : 1 ≤ m) (hm2 : m ≤ 1099511627776) : j ≤ 40 := by
  rcases Nat.lt_or_ge 40 j with hl | hl
  · have h1 := h.lt 39 (by omega)
    have h2 := wI_big (k := 39 + 1) hb (by omega) hm2 (by omega)
    omega
  · exact hl
/-- Where the loop is left: the result lies at the slot, or the failures at theirs. -/
structure BdX (w : World) (b m t : Int) (c : Code) (W : World) : Prop where
  out : ∃ n : Nat, BoundIs b m t n ∧ ((c = .ret ∧ Boxed W (w.heap.size + 1) 25 (u64v n)) ∨ (c = .exit 0 ∧ Boxed W (w.heap.size + 1) 25 (u64v 0) ∧ Boxed W (w.heap.size + 3) 25 (u64v n)))
  low : Below w.heap.size w W
theorem BdX.kc {w A B : World} {b m t : Int} {c : Code} (h : BdX w b m t c A) (hk : KC w.heap.size A B) (hb : Below w.heap.size A B) : BdX w b m t c B := by
  obtain ⟨n, h1, ⟨h2, h3⟩ | ⟨h2, h3, h4⟩⟩ := h.out
  · exact ⟨⟨n, h1, .inl ⟨h2, hk _ _ _ _ (by omega) h3⟩⟩, h.low.trans hb⟩
  · exact ⟨⟨n, h1, .inr ⟨h2, hk _ _ _ _ (by omega) h3, hk _ _ _ _ (by omega) h4⟩⟩, h.low.trans hb⟩
/-- The rounds left. -/
def bms (w : World) (W : World) : Nat := match W.cell? ⟨w.heap.size + 3, 0, none⟩ with
  | some (.int _ n) => (42 - n).toNat
  | _ => 0
theorem Bd.ms {w A : World} {b m t : Int} {j : Nat} (h : Bd w b m t j A) (hj : j ≤ 40) : bms w A + j = 41 := by
  unfold bms; rw [h.bf.cell]; simp only; omega
theorem results_cell {fn : Func} {t : Tmp} {ty : TypeId} (h : fn.results = #[.cell t ty]) (tmps : Array Value) (P : Program) (w : World) (a : Addr) (v : Value) (ha : tmps.getD t undef = .pointer (some a))
    (hi : ∀ w, (isAgg ty).run P w = .ok false w) (hc : w.cell? a = some v) : (results fn tmps).run P w = .ok v w := by
  have ha2 : tmps[t]?.getD undef = .pointer (some a) := by simpa using ha
  simp [results, h, ha2, go_sem, hi, hc]
theorem wpOp_store1 {P : Program} {ops : Array Oper} {Q : Exit → Act → World → Prop} {K : Act → World → Prop} {a : Act} {w w' : World} {i : Nat} {o : Oper} (hi : ops[i]? = some o) (hd : o.dst = none) (hw : Region.wanted o (yielded ops a.tmps) = true)
    (hr : (execOp a.eval o).run P w = .ok .skip w') (h : K a w') : wpOp P ops Q i K a w :=
  wpOp_of_wp hi hw (by unfold Oper.wp; rw [hr]; show K (a.put o.dst undef) w'; rw [hd]; exact h)
theorem quo_wrap {x y : Int} (h0 : 0 ≤ x) (h1 : x ≤ 1099511627776) (h2 : 1 ≤ y) : IntKind.u64.wrap (x.tdiv y) = x / y := by
  have h3 : 0 ≤ x / y := Int.ediv_nonneg h0 (by omega)
  have h4 : x / y ≤ x := Int.ediv_le_self _ h0
  rw [Int.tdiv_eq_ediv_of_nonneg h0, IntKind.wrap_u64, Int.emod_eq_of_lt h3 (by omega)]
theorem add_wrap {x : Int} (h0 : 0 ≤ x) (h1 : x < 18446744073709551616) : IntKind.u64.wrap x = x := by
  rw [IntKind.wrap_u64, Int.emod_eq_of_lt h0 h1]
theorem quo_u64 {x y : Int} (h0 : 0 ≤ x) (h1 : x ≤ 1099511627776) (h2 : 1 ≤ y) : 0 ≤ x / y ∧ x / y ≤ 1099511627776 := by
  refine ⟨Int.ediv_nonneg h0 (by omega), Int.le_trans (Int.ediv_le_self _ h0) h1⟩
set_option maxRecDepth 100000 in
set_option maxHeartbeats 4000000 in
theorem bound_core (ticks base most : Int) (w : World) (t0 : 0 < ticks) (t1 : ticks < 18446744073709551616) (b0 : 0 ≤ base) (b1 : base < 18446744073709551616) (m0 : 0 ≤ most) (m1 : most < 18446744073709551616) :
    Calls Tryd.prog 14 #[u64v ticks, u64v base, u64v most] w fun e w' => ∃ n : Nat, e = .returned (u64v n) ∧ BoundIs (max base 1) (tI (max most 1)) (tI ticks) n ∧ Below w.heap.size w w' := by
  obtain ⟨b, hb⟩ : ∃ b, b = max base 1 := ⟨_, rfl⟩
  obtain ⟨mx, hmx⟩ : ∃ mx, mx = max most 1 := ⟨_, rfl⟩
  obtain ⟨m, hm⟩ : ∃ m, m = tI mx := ⟨_, rfl⟩
  obtain ⟨t, ht⟩ : ∃ t, t = tI ticks := ⟨_, rfl⟩
  have hm1 : 1 ≤ m := by rw [hm, tI_def]; omega
  have hm2 : m ≤ 1099511627776 := by rw [hm, tI_def]; omega
  have ht1 : 1 ≤ t := by rw [ht, tI_def]; omega
  have ht2 : t ≤ 1099511627776 := by rw [ht, tI_def]; omega
  have hb1 : 1 ≤ b := by omega
  have hb2 : b < 18446744073709551616 := by omega
  have hmm : tI m = m := tI_id hm2
  rw [← hb, ← hmx, ← hm, ← ht]
  have hTK : ∀ W, Calls Tryd.prog 28 #[u64v mx] W fun e w' => e = .returned (u64v m) ∧ w' = W := fun W => by rw [hm]; exact tick_any mx W (by omega) (by omega)
  have hTT : ∀ W, Calls Tryd.prog 28 #[u64v ticks] W fun e w' => e = .returned (u64v t) ∧ w' = W := fun W => by rw [ht]; exact tick_any ticks W (by omega) (by omega)
  have HTK := Lib.hid hTK; clear hTK
  have HTT := Lib.hid hTT; clear hTT
  have HM := Lib.hid hm; clear hm
  have HT := Lib.hid ht; clear ht
  have HMM := Lib.hid hmm; clear hmm
  have hms : (most < 1 ∧ mx = 1) ∨ (1 ≤ most ∧ mx = most) := by omega
  have hbs : (base < 1 ∧ b = 1) ∨ (1 ≤ base ∧ b = base) := by omega
  clear hmx hb
  rcases hms with ⟨hms, rfl⟩ | ⟨hms, rfl⟩ <;> rcases hbs with ⟨hbs, rfl⟩ | ⟨hbs, rfl⟩
  · refine (callsIn_wide (n := 8)).1 ?_
    refine callsIn_of_wp_marks Tryd.func14 rfl trivial ?_ rfl
    simp only [Tryd.ntmps14, List.size_toArray, List.length_cons, List.length_nil, Nat.reduceAdd, Nat.reduceSub, Array.replicate_succ, Array.replicate_zero, List.push_toArray, List.append_toArray, List.nil_append, List.cons_append]
    gi_wp2
    refine ⟨trivial, (callsIn_wide.2 (HTK.out _)).mono ?_⟩
    rintro e w1 ⟨rfl, rfl⟩
    gi_wp2
    refine ⟨trivial, (callsIn_wide.2 (HTT.out _)).mono ?_⟩
    rintro e w2 ⟨rfl, rfl⟩
    gi_wp2
    refine ⟨trivial, (callsIn_wide.2 (waits_any 1 m _ (by omega) (by omega))).mono ?_⟩
    rintro e w3 ⟨rfl, wb, wm, hB, hsz⟩
    rw [HMM.out] at wm
    gi_wp2
    have bm := (((Boxed.new w 25 (u64v m)).alloc (.cells #[u64v 0] 25)).alloc (.cells #[u64v (t - 1)] 25)).alloc (.cells #[u64v 1] 25)
    have br := ((Boxed.new (w.alloc (.cells #[u64v m] 25)) 25 (u64v 0)).alloc (.cells #[u64v (t - 1)] 25)).alloc (.cells #[u64v 1] 25)
    have bl := (Boxed.new ((w.alloc (.cells #[u64v m] 25)).alloc (.cells #[u64v 0] 25)) 25 (u64v (t - 1))).alloc (.cells #[u64v 1] 25)
    have bf := Boxed.new (((w.alloc (.cells #[u64v m] 25)).alloc (.cells #[u64v 0] 25)).alloc (.cells #[u64v (t - 1)] 25)) 25 (u64v 1)
    have hlow : Below w.heap.size w ((((w.alloc (.cells #[u64v m] 25)).alloc (.cells #[u64v 0] 25)).alloc (.cells #[u64v (t - 1)] 25)).alloc (.cells #[u64v 1] 25)) :=
      ((((Below.refl _ w).alloc (Nat.le_refl _) _).alloc (by simp) _).alloc (by simp; omega) _).alloc (by simp; omega) _
    generalize hW0 : World.alloc _ _ = W0 at wb wm hB hsz bm br bl bf hlow
    have hsz0 : W0.heap.size = w.heap.size + 4 := by rw [← hW0]; simp
    clear hW0
    simp only [World.size_alloc] at br bl bf
    have h0 : Bd w 1 m t 0 w3 := by
      refine ⟨bm.kept (grown_of_below hB none) (by simp), br.kept (grown_of_below hB none) (by simp), ?_, ?_, ?_, ?_, hlow.trans (hB.mono (by omega)), by rw [sI_zero]; omega, by omega⟩
      · rw [sI_zero, Int.sub_zero]; exact bl.kept (grown_of_below hB none) (by simp)
      · exact bf.kept (grown_of_below hB none) (by simp)
      · rw [hsz0] at wb; exact wb
      · rw [hsz0] at wm; exact wm
    have hsz3 : w3.heap.size = w.heap.size + 6 := by omega
    clear wb wm hB hsz bm br bl bf hlow hsz0
    have H0 := Lib.hid h0; clear h0
    refine wpIn_rangeFunc_st rfl (by omega) (gf := gW) (lb := #[.pointer (some ⟨w.heap.size + 1 + 1 + 1 + 1, 0, none⟩), .pointer (some ⟨w.heap.size + 1 + 1 + 1 + 1 + 1, 0, none⟩)]) rfl trivial (enters_of Tryd.func40 (by kernel_rfl) rfl) (encs := fun x : Int => #[u64v x])
      (fun pre W => Bd w 1 m t pre.length W)
      (fun pre x W => Bd w 1 m t pre.length W ∧ x = wI 1 m (pre.length + 1))
      (fun _ _ => False)
      (fun c _ W => BdX w 1 m t c W)
      ?seq (fun _ => rfl)
      (fun pre A B row hs hg hr => hs.kc (kc_own hg hr) (below_own (by omega) hs.low.size hg hr))
      (fun pre x _ A B row hs hg hr => ⟨hs.1.kc (kc_own hg hr) (below_own (by omega) hs.1.low.size hg hr), hs.2⟩)
      (fun pre A B row hs hg hr => hs)
      (fun c pre A B row hs hg hr => hs.kc (kc_own hg hr) (below_own (by omega) hs.low.size hg hr))
      H0.out
      (fun x a' _ => a' = { tmps := #[u64v ticks, u64v base, u64v most, undef, undef, Value.pointer (some { block := w.heap.size, off := 0 }), Value.pointer (some { block := w.heap.size + 1, off := 0 }),
            Value.pointer (some { block := w.heap.size + 1 + 1, off := 0 }), Value.pointer (some { block := w.heap.size + 1 + 1 + 1, off := 0 }), u64v x, u64v ticks, Value.bool false,
            u64v most, Value.int IntKind.u64 1, u64v m, u64v ticks, u64v t, Value.int IntKind.u64 (t - 1), u64v base, Value.int IntKind.u64 1, Value.int IntKind.u64 m,
            Value.func (Fn.func gW) #[] #[Value.pointer (some { block := w.heap.size + 1 + 1 + 1 + 1, off := 0 }), Value.pointer (some { block := w.heap.size + 1 + 1 + 1 + 1 + 1, off := 0 })],
            u64v x, undef, undef, undef, undef, undef, undef, undef, undef, undef, undef, undef, undef, undef, undef, undef, undef, undef], defers := [] })
      (fun x a' _ A B row hs hg hr => hs)
      ?assign ?body ?done ?stop
    case seq =>
      intro l R Jx W hRk hY hI hR hsW
      exact waits_in _ (by omega) l (w.heap.size + 1 + 1 + 1 + 1) (w.heap.size + 1 + 1 + 1 + 1 + 1) 1 m (by omega) hb2 (by omega) hm2 41 (fun pre W => Bd w 1 m t pre.length W) (bms w) R Jx
        (fun pre W h => ⟨h.wb.cell, h.wm.cell⟩) (fun pre W h => h.ms (h.few hb1 hm1 hm2)) hY W hI hR
    case assign =>
      rintro l pre x W K h hK
      have H := Lib.hid h; clear h
      gi_wp2
      exact hK _ _ (KeepsFrom.refl _ _) H.out rfl
    case body =>
      rintro l pre x a' W ⟨h, hx⟩ rfl
      have c5 := h.bm.cell
      have c6 := h.br.cell
      have f6 := h.br.frozen
      have c7 := h.bl.cell
      have f7 := h.bl.frozen
      have c8 := h.bf.cell
      have f8 := h.bf.frozen
      have hj := h.few hb1 hm1 hm2
      have hle := h.le
      have hs0 := sI_nonneg (b := 1) (m := m) (by omega) (by omega) pre.length
      have hx1 := wI_pos (b := 1) (m := m) hb1 hm1 (pre.length + 1)
      have hxm := wI_le (b := 1) (m := m) (pre.length + 1)
      rw [← hx] at hx1 hxm
      have hss := sI_succ 1 m pre.length
      rw [← hx] at hss
      obtain ⟨s, hs⟩ : ∃ s, s = sI 1 m pre.length := ⟨_, rfl⟩
      rw [← hs] at c7 hle hs0 hss
      obtain ⟨J, hJ⟩ : ∃ J : Int, J = (pre.length : Int) := ⟨_, rfl⟩
      rw [← hJ] at c8
      have HL : Boxed W (w.heap.size + 2) 25 (u64v (t - 1 - s)) := by rw [hs]; exact h.bl
      have HF : Boxed W (w.heap.size + 3) 25 (u64v (1 + J)) := by rw [hJ]; exact h.bf
      have HS := Lib.hid hs; clear hs
      have HX := Lib.hid hx; clear hx
      have HSS := Lib.hid hss; clear hss
      have H := Lib.hid h; clear h
      by_cases hxe : x = m
      · obtain rfl := hxe.symm
        have hq := quo_u64 (x := t - 1 - s) (y := m) (by omega) (by omega) hm1
        have hqw := quo_wrap (x := t - 1 - s) (y := m) (by omega) (by omega) hm1
        have hbi := boundIs_at (b := 1) (m := m) (t := t) (k := pre.length) hb1 hm1 HX.out.symm (by rw [← HS.out]; exact hle)
        rw [← HS.out] at hbi
        obtain ⟨q, hqq⟩ : ∃ q, q = (t - 1 - s) / m := ⟨_, rfl⟩
        rw [← hqq] at hq hqw hbi
        clear hqq
        have HQW := Lib.hid hqw; clear hqw
        have HBI := Lib.hid hbi; clear hbi
        gi_wp2
        refine wpIn_region_held_round (S := fun w' => w'.cell? ⟨w.heap.size, 0, none⟩ = some (u64v m) ∧ w'.cell? ⟨w.heap.size + 2, 0, none⟩ = some (u64v (t - 1 - s)) ∧ w'.cell? ⟨w.heap.size + 3, 0, none⟩ = some (u64v (1 + J))) (by kernel_rfl) (by kernel_rfl) (by rintro ⟨_, _, h⟩; exact h) ?_
        change wpAnyH _ _ _ _ _ _ _ _ W.drew
        have hS0 : W.drew.cell? ⟨w.heap.size, 0, none⟩ = some (u64v m) ∧ W.drew.cell? ⟨w.heap.size + 2, 0, none⟩ = some (u64v (t - 1 - s)) ∧ W.drew.cell? ⟨w.heap.size + 3, 0, none⟩ = some (u64v (1 + J)) := ⟨c5, c7, c8⟩
        refine takeH 0 26 (u64v (1 + J)) rfl rfl (by kernel_rfl) (by kernel_rfl) (by kernel_rfl) (fun _ _ _ h => h) rfl (fun w' hS => by obtain ⟨d1, d2, d3⟩ := hS; go_simp) hS0 ?_
        go_frame
        refine takeH 1 27 (u64v (t - 1 - s)) rfl rfl (by kernel_rfl) (by kernel_rfl) (by kernel_rfl) (fun _ _ _ h => h) rfl (fun w' hS => by obtain ⟨d1, d2, d3⟩ := hS; go_simp) hS0 ?_
        go_frame
        refine takeH 2 28 (u64v m) rfl rfl (by kernel_rfl) (by kernel_rfl) (by kernel_rfl) (fun _ _ _ h => h) rfl (fun w' hS => by obtain ⟨d1, d2, d3⟩ := hS; go_simp) hS0 ?_
        go_frame
        refine wpAnyH_all (rs := [3]) (by kernel_rfl) (by simp) ?_
        simp only [List.mem_singleton, forall_eq]
        refine wpOp_valueD 29 rfl rfl rfl (u64v q) (by go_simp; rw [if_neg (by omega), HQW.out]) ⟨hS0, ?_⟩
        go_frame
        refine takeH 4 30 (u64v (1 + J + q)) rfl rfl (by kernel_rfl) (by kernel_rfl) (by kernel_rfl) (fun _ _ _ h => h) rfl (fun w' hS => by go_simp; rw [add_wrap (by omega) (by omega)]) hS0 ?_
        go_frame
        have f6' : W.drew.frozen? { block := w.heap.size + 1, off := 0 } = false := f6
        have c6' : W.drew.cell? { block := w.heap.size + 1, off := 0 } = some (u64v 0) := c6
        refine wpAnyH_all (rs := [5]) (by kernel_rfl) (by simp) ?_
        simp only [List.mem_singleton, forall_eq]
        refine wpOp_store1 rfl rfl rfl (w' := W.drew.setCell ⟨w.heap.size + 1, 0, none⟩ (u64v (1 + J + q))) (by go_simp) ⟨?_, wpAnyH_done (by kernel_rfl) ?_ _⟩
        · exact ⟨(H.out.bm.other (by omega) _).cell, (HL.other (by omega) _).cell, (HF.other (by omega) _).cell⟩
        · refine NoPanic.normal ?_
          gi_wp2
          refine ⟨KeepsFrom.trans (KeepsOthers.drew W |>.from _) (KeepsFrom.of_grownBy (grown_set _ _ _) (by rintro j e; cases e; show w.heap.size + 1 < _; omega)), ⟨⟨_, HBI.out, .inl ⟨rfl, ?_⟩⟩, ?_⟩⟩
          · have h1 := H.out.br.set (u64v (1 + J + q))
            rw [show ((1 + pre.length + q.toNat : Nat) : Int) = 1 + J + q by omega]
            exact h1
          · exact ((below_drewN H.out.low 1)).setCell (p := ⟨w.heap.size + 1, 0, none⟩) (by show w.heap.size ≤ w.heap.size + 1; omega) _
      · by_cases hxl : t - 1 - s < x
        · gi_wp2
          refine ⟨KeepsFrom.refl _ _, ⟨⟨1 + pre.length, boundIs_stop (by rw [← HS.out, ← HX.out]; exact hxl) H.out.le, .inr ⟨rfl, H.out.br, by have := H.out.bf; simpa using this⟩⟩, H.out.low⟩⟩
        · gi_wp2
          refine ⟨KeepsFrom.trans (KeepsFrom.of_grownBy (grown_set _ _ _) (by rintro j e; cases e; show w.heap.size + 1 + 1 < _; omega)) (KeepsFrom.of_grownBy (grown_set _ _ _) (by rintro j e; cases e; show w.heap.size + 1 + 1 + 1 < _; omega)), ?_⟩
          show Bd w 1 m t (pre ++ [x]).length _
          rw [List.length_append, List.length_singleton]
          refine ⟨(H.out.bm.other (by omega) _).other (by omega) _, (H.out.br.other (by omega) _).other (by omega) _, ?_, ?_, (H.out.wb.other (by omega) _).other (by omega) _, (H.out.wm.other (by omega) _).other (by omega) _, ?_, by rw [HSS.out]; omega, ?_⟩
          · have := (H.out.bl.set (u64v (t - 1 - s - x))).other (show w.heap.size + 2 ≠ w.heap.size + 3 by omega) (u64v (1 + (pre.length : Int) + 1))
            rw [HSS.out, show t - 1 - (s + x) = t - 1 - s - x by omega]
            exact this
          · have := (H.out.bf.other (show w.heap.size + 3 ≠ w.heap.size + 2 by omega) (u64v (t - 1 - s - x))).set (u64v (1 + (pre.length : Int) + 1))
            rw [show (1 + ((pre.length + 1 : Nat) : Int)) = 1 + (pre.length : Int) + 1 by omega]
            exact this
          · exact (H.out.low.setCell (p := ⟨w.heap.size + 2, 0, none⟩) (by show w.heap.size ≤ w.heap.size + 2; omega) _).setCell (p := ⟨w.heap.size + 3, 0, none⟩) (by show w.heap.size ≤ w.heap.size + 3; omega) _
          · intro i hi
            rcases Nat.lt_or_ge i pre.length with h1 | h1
            · exact H.out.lt i h1
            · obtain rfl : i = pre.length := by omega
              rw [← HX.out]; omega
    case done =>
      rintro D xs W hD h hK
      exact h.elim
    case stop =>
      rintro D c pre W hD h hK
      obtain ⟨n, hn, ⟨rfl, h1⟩ | ⟨rfl, h1, h2⟩⟩ := h.out
      · gi_wp2
        refine ⟨by simp, .inl ⟨_, _, rfl, run_takeDeferred hK, ?_⟩⟩
        have h3 : Boxed (W.putObj D (.deferred none)) (w.heap.size + 1) 25 (u64v n) := h1.kept (grownBy_putObj' W D _) (fun e => by cases e; omega)
        exact ⟨_, results_cell rfl _ _ _ _ _ rfl (fun w => rfl) h3.cell, n, rfl, hn, h.low.trans (below_own (B := w3.heap.size) (by omega) h.low.size (grownBy_putObj' W D _) (fun r e => by cases e; exact ⟨hD, _, hK, rfl⟩))⟩
      · have c8 := h2.cell
        have c6 := h1.cell
        have f6 := h1.frozen
        gi_wp2
        have hKs : (W.setCell ⟨w.heap.size + 1, 0, none⟩ (u64v n)).heap[D]? = some (.deferred (some [])) := (Below.heap_setCell W _ _ D (by show D ≠ w.heap.size + 1; omega)).trans hK
        refine ⟨by simp, .inl ⟨_, _, rfl, run_takeDeferred hKs, ?_⟩⟩
        have h4 := h1.set (u64v n)
        have h3 := h4.kept (grownBy_putObj' _ D (.deferred none)) (fun e => by cases e; omega)
        have hlw := h.low.setCell (p := ⟨w.heap.size + 1, 0, none⟩) (by show w.heap.size ≤ w.heap.size + 1; omega) (u64v n)
        exact ⟨_, results_cell rfl _ _ _ _ _ rfl (fun w => rfl) h3.cell, n, rfl, hn, hlw.trans (below_own (B := w3.heap.size) (by omega) hlw.size (grownBy_putObj' _ D _) (fun r e => by cases e; exact ⟨hD, _, hKs, rfl⟩))⟩
  · refine (callsIn_wide (n := 8)).1 ?_
    refine callsIn_of_wp_marks Tryd.func14 rfl trivial ?_ rfl
    simp only [Tryd.ntmps14, List.size_toArray, List.length_cons, List.length_nil, Nat.reduceAdd, Nat.reduceSub, Array.replicate_succ, Array.replicate_zero, List.push_toArray, List.append_toArray, List.nil_append, List.cons_append]
    gi_wp2
    refine ⟨trivial, (callsIn_wide.2 (HTK.out _)).mono ?_⟩
    rintro e w1 ⟨rfl, rfl⟩
    gi_wp2
    refine ⟨trivial, (callsIn_wide.2 (HTT.out _)).mono ?_⟩
    rintro e w2 ⟨rfl, rfl⟩
    gi_wp2
    refine ⟨trivial, (callsIn_wide.2 (waits_any b m _ (by omega) (by omega))).mono ?_⟩
    rintro e w3 ⟨rfl, wb, wm, hB, hsz⟩
    rw [HMM.out] at wm
    gi_wp2
    have bm := (((Boxed.new w 25 (u64v m)).alloc (.cells #[u64v 0] 25)).alloc (.cells #[u64v (t - 1)] 25)).alloc (.cells #[u64v 1] 25)
    have br := ((Boxed.new (w.alloc (.cells #[u64v m] 25)) 25 (u64v 0)).alloc (.cells #[u64v (t - 1)] 25)).alloc (.cells #[u64v 1] 25)
    have bl := (Boxed.new ((w.alloc (.cells #[u64v m] 25)).alloc (.cells #[u64v 0] 25)) 25 (u64v (t - 1))).alloc (.cells #[u64v 1] 25)
    have bf := Boxed.new (((w.alloc (.cells #[u64v m] 25)).alloc (.cells #[u64v 0] 25)).alloc (.cells #[u64v (t - 1)] 25)) 25 (u64v 1)
    have hlow : Below w.heap.size w ((((w.alloc (.cells #[u64v m] 25)).alloc (.cells #[u64v 0] 25)).alloc (.cells #[u64v (t - 1)] 25)).alloc (.cells #[u64v 1] 25)) :=
      ((((Below.refl _ w).alloc (Nat.le_refl _) _).alloc (by simp) _).alloc (by simp; omega) _).alloc (by simp; omega) _
    generalize hW0 : World.alloc _ _ = W0 at wb wm hB hsz bm br bl bf hlow
    have hsz0 : W0.heap.size = w.heap.size + 4 := by rw [← hW0]; simp
    clear hW0
    simp only [World.size_alloc] at br bl bf
    have h0 : Bd w b m t 0 w3 := by
      refine ⟨bm.kept (grown_of_below hB none) (by simp), br.kept (grown_of_below hB none) (by simp), ?_, ?_, ?_, ?_, hlow.trans (hB.mono (by omega)), by rw [sI_zero]; omega, by omega⟩
      · rw [sI_zero, Int.sub_zero]; exact bl.kept (grown_of_below hB none) (by simp)
      · exact bf.kept (grown_of_below hB none) (by simp)
      · rw [hsz0] at wb; exact wb
      · rw [hsz0] at wm; exact wm
    have hsz3 : w3.heap.size = w.heap.size + 6 := by omega
    clear wb wm hB hsz bm br bl bf hlow hsz0
    have H0 := Lib.hid h0; clear h0
    refine wpIn_rangeFunc_st rfl (by omega) (gf := gW) (lb := #[.pointer (some ⟨w.heap.size + 1 + 1 + 1 + 1, 0, none⟩), .pointer (some ⟨w.heap.size + 1 + 1 + 1 + 1 + 1, 0, none⟩)]) rfl trivial (enters_of Tryd.func40 (by kernel_rfl) rfl) (encs := fun x : Int => #[u64v x])
      (fun pre W => Bd w b m t pre.length W)
      (fun pre x W => Bd w b m t pre.length W ∧ x = wI b m (pre.length + 1))
      (fun _ _ => False)
      (fun c _ W => BdX w b m t c W)
      ?seq (fun _ => rfl)
      (fun pre A B row hs hg hr => hs.kc (kc_own hg hr) (below_own (by omega) hs.low.size hg hr))
      (fun pre x _ A B row hs hg hr => ⟨hs.1.kc (kc_own hg hr) (below_own (by omega) hs.1.low.size hg hr), hs.2⟩)
      (fun pre A B row hs hg hr => hs)
      (fun c pre A B row hs hg hr => hs.kc (kc_own hg hr) (below_own (by omega) hs.low.size hg hr))
      H0.out
      (fun x a' _ => a' = { tmps := #[u64v ticks, u64v b, u64v most, undef, undef, Value.pointer (some { block := w.heap.size, off := 0 }), Value.pointer (some { block := w.heap.size + 1, off := 0 }),
            Value.pointer (some { block := w.heap.size + 1 + 1, off := 0 }), Value.pointer (some { block := w.heap.size + 1 + 1 + 1, off := 0 }), u64v x, u64v ticks, Value.bool false,
            u64v most, Value.int IntKind.u64 1, u64v m, u64v ticks, u64v t, Value.int IntKind.u64 (t - 1), u64v b, Value.int IntKind.u64 b, Value.int IntKind.u64 m,
            Value.func (Fn.func gW) #[] #[Value.pointer (some { block := w.heap.size + 1 + 1 + 1 + 1, off := 0 }), Value.pointer (some { block := w.heap.size + 1 + 1 + 1 + 1 + 1, off := 0 })],
            u64v x, undef, undef, undef, undef, undef, undef, undef, undef, undef, undef, undef, undef, undef, undef, undef, undef, undef], defers := [] })
      (fun x a' _ A B row hs hg hr => hs)
      ?assign ?body ?done ?stop
    case seq =>
      intro l R Jx W hRk hY hI hR hsW
      exact waits_in _ (by omega) l (w.heap.size + 1 + 1 + 1 + 1) (w.heap.size + 1 + 1 + 1 + 1 + 1) b m (by omega) hb2 (by omega) hm2 41 (fun pre W => Bd w b m t pre.length W) (bms w) R Jx
        (fun pre W h => ⟨h.wb.cell, h.wm.cell⟩) (fun pre W h => h.ms (h.few hb1 hm1 hm2)) hY W hI hR
    case assign =>
      rintro l pre x W K h hK
      have H := Lib.hid h; clear h
      gi_wp2
      exact hK _ _ (KeepsFrom.refl _ _) H.out rfl
    case body =>
      rintro l pre x a' W ⟨h, hx⟩ rfl
      have c5 := h.bm.cell
      have c6 := h.br.cell
      have f6 := h.br.frozen
      have c7 := h.bl.cell
      have f7 := h.bl.frozen
      have c8 := h.bf.cell
      have f8 := h.bf.frozen
      have hj := h.few hb1 hm1 hm2
      have hle := h.le
      have hs0 := sI_nonneg (b := b) (m := m) (by omega) (by omega) pre.length
      have hx1 := wI_pos (b := b) (m := m) hb1 hm1 (pre.length + 1)
      have hxm := wI_le (b := b) (m := m) (pre.length + 1)
      rw [← hx] at hx1 hxm
      have hss := sI_succ b m pre.length
      rw [← hx] at hss
      obtain ⟨s, hs⟩ : ∃ s, s = sI b m pre.length := ⟨_, rfl⟩
      rw [← hs] at c7 hle hs0 hss
      obtain ⟨J, hJ⟩ : ∃ J : Int, J = (pre.length : Int) := ⟨_, rfl⟩
      rw [← hJ] at c8
      have HL : Boxed W (w.heap.size + 2) 25 (u64v (t - 1 - s)) := by rw [hs]; exact h.bl
      have HF : Boxed W (w.heap.size + 3) 25 (u64v (1 + J)) := by rw [hJ]; exact h.bf
      have HS := Lib.hid hs; clear hs
      have HX := Lib.hid hx; clear hx
      have HSS := Lib.hid hss; clear hss
      have H := Lib.hid h; clear h
      by_cases hxe : x = m
      · obtain rfl := hxe.symm
        have hq := quo_u64 (x := t - 1 - s) (y := m) (by omega) (by omega) hm1
        have hqw := quo_wrap (x := t - 1 - s) (y := m) (by omega) (by omega) hm1
        have hbi := boundIs_at (b := b) (m := m) (t := t) (k := pre.length) hb1 hm1 HX.out.symm (by rw [← HS.out]; exact hle)
        rw [← HS.out] at hbi
        obtain ⟨q, hqq⟩ : ∃ q, q = (t - 1 - s) / m := ⟨_, rfl⟩
        rw [← hqq] at hq hqw hbi
        clear hqq
        have HQW := Lib.hid hqw; clear hqw
        have HBI := Lib.hid hbi; clear hbi
        gi_wp2
        refine wpIn_region_held_round (S := fun w' => w'.cell? ⟨w.heap.size, 0, none⟩ = some (u64v m) ∧ w'.cell? ⟨w.heap.size + 2, 0, none⟩ = some (u64v (t - 1 - s)) ∧ w'.cell? ⟨w.heap.size + 3, 0, none⟩ = some (u64v (1 + J))) (by kernel_rfl) (by kernel_rfl) (by rintro ⟨_, _, h⟩; exact h) ?_
        change wpAnyH _ _ _ _ _ _ _ _ W.drew
        have hS0 : W.drew.cell? ⟨w.heap.size, 0, none⟩ = some (u64v m) ∧ W.drew.cell? ⟨w.heap.size + 2, 0, none⟩ = some (u64v (t - 1 - s)) ∧ W.drew.cell? ⟨w.heap.size + 3, 0, none⟩ = some (u64v (1 + J)) := ⟨c5, c7, c8⟩
        refine takeH 0 26 (u64v (1 + J)) rfl rfl (by kernel_rfl) (by kernel_rfl) (by kernel_rfl) (fun _ _ _ h => h) rfl (fun w' hS => by obtain ⟨d1, d2, d3⟩ := hS; go_simp) hS0 ?_
        go_frame
        refine takeH 1 27 (u64v (t - 1 - s)) rfl rfl (by kernel_rfl) (by kernel_rfl) (by kernel_rfl) (fun _ _ _ h => h) rfl (fun w' hS => by obtain ⟨d1, d2, d3⟩ := hS; go_simp) hS0 ?_
        go_frame
        refine takeH 2 28 (u64v m) rfl rfl (by kernel_rfl) (by kernel_rfl) (by kernel_rfl) (fun _ _ _ h => h) rfl (fun w' hS => by obtain ⟨d1, d2, d3⟩ := hS; go_simp) hS0 ?_
        go_frame
        refine wpAnyH_all (rs := [3]) (by kernel_rfl) (by simp) ?_
        simp only [List.mem_singleton, forall_eq]
        refine wpOp_valueD 29 rfl rfl rfl (u64v q) (by go_simp; rw [if_neg (by omega), HQW.out]) ⟨hS0, ?_⟩
        go_frame
        refine takeH 4 30 (u64v (1 + J + q)) rfl rfl (by kernel_rfl) (by kernel_rfl) (by kernel_rfl) (fun _ _ _ h => h) rfl (fun w' hS => by go_simp; rw [add_wrap (by omega) (by omega)]) hS0 ?_
        go_frame
        have f6' : W.drew.frozen? { block := w.heap.size + 1, off := 0 } = false := f6
        have c6' : W.drew.cell? { block := w.heap.size + 1, off := 0 } = some (u64v 0) := c6
        refine wpAnyH_all (rs := [5]) (by kernel_rfl) (by simp) ?_
        simp only [List.mem_singleton, forall_eq]
        refine wpOp_store1 rfl rfl rfl (w' := W.drew.setCell ⟨w.heap.size + 1, 0, none⟩ (u64v (1 + J + q))) (by go_simp) ⟨?_, wpAnyH_done (by kernel_rfl) ?_ _⟩
        · exact ⟨(H.out.bm.other (by omega) _).cell, (HL.other (by omega) _).cell, (HF.other (by omega) _).cell⟩
        · refine NoPanic.normal ?_
          gi_wp2
          refine ⟨KeepsFrom.trans (KeepsOthers.drew W |>.from _) (KeepsFrom.of_grownBy (grown_set _ _ _) (by rintro j e; cases e; show w.heap.size + 1 < _; omega)), ⟨⟨_, HBI.out, .inl ⟨rfl, ?_⟩⟩, ?_⟩⟩
          · have h1 := H.out.br.set (u64v (1 + J + q))
            rw [show ((1 + pre.length + q.toNat : Nat) : Int) = 1 + J + q by omega]
            exact h1
          · exact ((below_drewN H.out.low 1)).setCell (p := ⟨w.heap.size + 1, 0, none⟩) (by show w.heap.size ≤ w.heap.size + 1; omega) _
      · by_cases hxl : t - 1 - s < x
        · gi_wp2
          refine ⟨KeepsFrom.refl _ _, ⟨⟨1 + pre.length, boundIs_stop (by rw [← HS.out, ← HX.out]; exact hxl) H.out.le, .inr ⟨rfl, H.out.br, by have := H.out.bf; simpa using this⟩⟩, H.out.low⟩⟩
        · gi_wp2
          refine ⟨KeepsFrom.trans (KeepsFrom.of_grownBy (grown_set _ _ _) (by rintro j e; cases e; show w.heap.size + 1 + 1 < _; omega)) (KeepsFrom.of_grownBy (grown_set _ _ _) (by rintro j e; cases e; show w.heap.size + 1 + 1 + 1 < _; omega)), ?_⟩
          show Bd w b m t (pre ++ [x]).length _
          rw [List.length_append, List.length_singleton]
          refine ⟨(H.out.bm.other (by omega) _).other (by omega) _, (H.out.br.other (by omega) _).other (by omega) _, ?_, ?_, (H.out.wb.other (by omega) _).other (by omega) _, (H.out.wm.other (by omega) _).other (by omega) _, ?_, by rw [HSS.out]; omega, ?_⟩
          · have := (H.out.bl.set (u64v (t - 1 - s - x))).other (show w.heap.size + 2 ≠ w.heap.size + 3 by omega) (u64v (1 + (pre.length : Int) + 1))
            rw [HSS.out, show t - 1 - (s + x) = t - 1 - s - x by omega]
            exact this
          · have := (H.out.bf.other (show w.heap.size + 3 ≠ w.heap.size + 2 by omega) (u64v (t - 1 - s - x))).set (u64v (1 + (pre.length : Int) + 1))
            rw [show (1 + ((pre.length + 1 : Nat) : Int)) = 1 + (pre.length : Int) + 1 by omega]
            exact this
          · exact (H.out.low.setCell (p := ⟨w.heap.size + 2, 0, none⟩) (by show w.heap.size ≤ w.heap.size + 2; omega) _).setCell (p := ⟨w.heap.size + 3, 0, none⟩) (by show w.heap.size ≤ w.heap.size + 3; omega) _
          · intro i hi
            rcases Nat.lt_or_ge i pre.length with h1 | h1
            · exact H.out.lt i h1
            · obtain rfl : i = pre.length := by omega
              rw [← HX.out]; omega
    case done =>
      rintro D xs W hD h hK
      exact h.elim
    case stop =>
      rintro D c pre W hD h hK
      obtain ⟨n, hn, ⟨rfl, h1⟩ | ⟨rfl, h1, h2⟩⟩ := h.out
      · gi_wp2
        refine ⟨by simp, .inl ⟨_, _, rfl, run_takeDeferred hK, ?_⟩⟩
        have h3 : Boxed (W.putObj D (.deferred none)) (w.heap.size + 1) 25 (u64v n) := h1.kept (grownBy_putObj' W D _) (fun e => by cases e; omega)
        exact ⟨_, results_cell rfl _ _ _ _ _ rfl (fun w => rfl) h3.cell, n, rfl, hn, h.low.trans (below_own (B := w3.heap.size) (by omega) h.low.size (grownBy_putObj' W D _) (fun r e => by cases e; exact ⟨hD, _, hK, rfl⟩))⟩
      · have c8 := h2.cell
        have c6 := h1.cell
        have f6 := h1.frozen
        gi_wp2
        have hKs : (W.setCell ⟨w.heap.size + 1, 0, none⟩ (u64v n)).heap[D]? = some (.deferred (some [])) := (Below.heap_setCell W _ _ D (by show D ≠ w.heap.size + 1; omega)).trans hK
        refine ⟨by simp, .inl ⟨_, _, rfl, run_takeDeferred hKs, ?_⟩⟩
        have h4 := h1.set (u64v n)
        have h3 := h4.kept (grownBy_putObj' _ D (.deferred none)) (fun e => by cases e; omega)
        have hlw := h.low.setCell (p := ⟨w.heap.size + 1, 0, none⟩) (by show w.heap.size ≤ w.heap.size + 1; omega) (u64v n)
        exact ⟨_, results_cell rfl _ _ _ _ _ rfl (fun w => rfl) h3.cell, n, rfl, hn, hlw.trans (below_own (B := w3.heap.size) (by omega) hlw.size (grownBy_putObj' _ D _) (fun r e => by cases e; exact ⟨hD, _, hKs, rfl⟩))⟩
  · refine (callsIn_wide (n := 8)).1 ?_
    refine callsIn_of_wp_marks Tryd.func14 rfl trivial ?_ rfl
    simp only [Tryd.ntmps14, List.size_toArray, List.length_cons, List.length_nil, Nat.reduceAdd, Nat.reduceSub, Array.replicate_succ, Array.replicate_zero, List.push_toArray, List.append_toArray, List.nil_append, List.cons_append]
    gi_wp2
    refine ⟨trivial, (callsIn_wide.2 (HTK.out _)).mono ?_⟩
    rintro e w1 ⟨rfl, rfl⟩
    gi_wp2
    refine ⟨trivial, (callsIn_wide.2 (HTT.out _)).mono ?_⟩
    rintro e w2 ⟨rfl, rfl⟩
    gi_wp2
    refine ⟨trivial, (callsIn_wide.2 (waits_any 1 m _ (by omega) (by omega))).mono ?_⟩
    rintro e w3 ⟨rfl, wb, wm, hB, hsz⟩
    rw [HMM.out] at wm
    gi_wp2
    have bm := (((Boxed.new w 25 (u64v m)).alloc (.cells #[u64v 0] 25)).alloc (.cells #[u64v (t - 1)] 25)).alloc (.cells #[u64v 1] 25)
    have br := ((Boxed.new (w.alloc (.cells #[u64v m] 25)) 25 (u64v 0)).alloc (.cells #[u64v (t - 1)] 25)).alloc (.cells #[u64v 1] 25)
    have bl := (Boxed.new ((w.alloc (.cells #[u64v m] 25)).alloc (.cells #[u64v 0] 25)) 25 (u64v (t - 1))).alloc (.cells #[u64v 1] 25)
    have bf := Boxed.new (((w.alloc (.cells #[u64v m] 25)).alloc (.cells #[u64v 0] 25)).alloc (.cells #[u64v (t - 1)] 25)) 25 (u64v 1)
    have hlow : Below w.heap.size w ((((w.alloc (.cells #[u64v m] 25)).alloc (.cells #[u64v 0] 25)).alloc (.cells #[u64v (t - 1)] 25)).alloc (.cells #[u64v 1] 25)) :=
      ((((Below.refl _ w).alloc (Nat.le_refl _) _).alloc (by simp) _).alloc (by simp; omega) _).alloc (by simp; omega) _
    generalize hW0 : World.alloc _ _ = W0 at wb wm hB hsz bm br bl bf hlow
    have hsz0 : W0.heap.size = w.heap.size + 4 := by rw [← hW0]; simp
    clear hW0
    simp only [World.size_alloc] at br bl bf
    have h0 : Bd w 1 m t 0 w3 := by
      refine ⟨bm.kept (grown_of_below hB none) (by simp), br.kept (grown_of_below hB none) (by simp), ?_, ?_, ?_, ?_, hlow.trans (hB.mono (by omega)), by rw [sI_zero]; omega, by omega⟩
      · rw [sI_zero, Int.sub_zero]; exact bl.kept (grown_of_below hB none) (by simp)
      · exact bf.kept (grown_of_below hB none) (by simp)
      · rw [hsz0] at wb; exact wb
      · rw [hsz0] at wm; exact wm
    have hsz3 : w3.heap.size = w.heap.size + 6 := by omega
    clear wb wm hB hsz bm br bl bf hlow hsz0
    have H0 := Lib.hid h0; clear h0
    refine wpIn_rangeFunc_st rfl (by omega) (gf := gW) (lb := #[.pointer (some ⟨w.heap.size + 1 + 1 + 1 + 1, 0, none⟩), .pointer (some ⟨w.heap.size + 1 + 1 + 1 + 1 + 1, 0, none⟩)]) rfl trivial (enters_of Tryd.func40 (by kernel_rfl) rfl) (encs := fun x : Int => #[u64v x])
      (fun pre W => Bd w 1 m t pre.length W)
      (fun pre x W => Bd w 1 m t pre.length W ∧ x = wI 1 m (pre.length + 1))
      (fun _ _ => False)
      (fun c _ W => BdX w 1 m t c W)
      ?seq (fun _ => rfl)
      (fun pre A B row hs hg hr => hs.kc (kc_own hg hr) (below_own (by omega) hs.low.size hg hr))
      (fun pre x _ A B row hs hg hr => ⟨hs.1.kc (kc_own hg hr) (below_own (by omega) hs.1.low.size hg hr), hs.2⟩)
      (fun pre A B row hs hg hr => hs)
      (fun c pre A B row hs hg hr => hs.kc (kc_own hg hr) (below_own (by omega) hs.low.size hg hr))
      H0.out
      (fun x a' _ => a' = { tmps := #[u64v ticks, u64v base, u64v mx, undef, undef, Value.pointer (some { block := w.heap.size, off := 0 }), Value.pointer (some { block := w.heap.size + 1, off := 0 }),
            Value.pointer (some { block := w.heap.size + 1 + 1, off := 0 }), Value.pointer (some { block := w.heap.size + 1 + 1 + 1, off := 0 }), u64v x, u64v ticks, Value.bool false,
            u64v mx, Value.int IntKind.u64 mx, u64v m, u64v ticks, u64v t, Value.int IntKind.u64 (t - 1), u64v base, Value.int IntKind.u64 1, Value.int IntKind.u64 m,
            Value.func (Fn.func gW) #[] #[Value.pointer (some { block := w.heap.size + 1 + 1 + 1 + 1, off := 0 }), Value.pointer (some { block := w.heap.size + 1 + 1 + 1 + 1 + 1, off := 0 })],
            u64v x, undef, undef, undef, undef, undef, undef, undef, undef, undef, undef, undef, undef, undef, undef, undef, undef, undef], defers := [] })
      (fun x a' _ A B row hs hg hr => hs)
      ?assign ?body ?done ?stop
    case seq =>
      intro l R Jx W hRk hY hI hR hsW
      exact waits_in _ (by omega) l (w.heap.size + 1 + 1 + 1 + 1) (w.heap.size + 1 + 1 + 1 + 1 + 1) 1 m (by omega) hb2 (by omega) hm2 41 (fun pre W => Bd w 1 m t pre.length W) (bms w) R Jx
        (fun pre W h => ⟨h.wb.cell, h.wm.cell⟩) (fun pre W h => h.ms (h.few hb1 hm1 hm2)) hY W hI hR
    case assign =>
      rintro l pre x W K h hK
      have H := Lib.hid h; clear h
      gi_wp2
      exact hK _ _ (KeepsFrom.refl _ _) H.out rfl
    case body =>
      rintro l pre x a' W ⟨h, hx⟩ rfl
      have c5 := h.bm.cell
      have c6 := h.br.cell
      have f6 := h.br.frozen
      have c7 := h.bl.cell
      have f7 := h.bl.frozen
      have c8 := h.bf.cell
      have f8 := h.bf.frozen
      have hj := h.few hb1 hm1 hm2
      have hle := h.le
      have hs0 := sI_nonneg (b := 1) (m := m) (by omega) (by omega) pre.length
      have hx1 := wI_pos (b := 1) (m := m) hb1 hm1 (pre.length + 1)
      have hxm := wI_le (b := 1) (m := m) (pre.length + 1)
      rw [← hx] at hx1 hxm
      have hss := sI_succ 1 m pre.length
      rw [← hx] at hss
      obtain ⟨s, hs⟩ : ∃ s, s = sI 1 m pre.length := ⟨_, rfl⟩
      rw [← hs] at c7 hle hs0 hss
      obtain ⟨J, hJ⟩ : ∃ J : Int, J = (pre.length : Int) := ⟨_, rfl⟩
      rw [← hJ] at c8
      have HL : Boxed W (w.heap.size + 2) 25 (u64v (t - 1 - s)) := by rw [hs]; exact h.bl
      have HF : Boxed W (w.heap.size + 3) 25 (u64v (1 + J)) := by rw [hJ]; exact h.bf
      have HS := Lib.hid hs; clear hs
      have HX := Lib.hid hx; clear hx
      have HSS := Lib.hid hss; clear hss
      have H := Lib.hid h; clear h
      by_cases hxe : x = m
      · obtain rfl := hxe.symm
        have hq := quo_u64 (x := t - 1 - s) (y := m) (by omega) (by omega) hm1
        have hqw := quo_wrap (x := t - 1 - s) (y := m) (by omega) (by omega) hm1
        have hbi := boundIs_at (b := 1) (m := m) (t := t) (k := pre.length) hb1 hm1 HX.out.symm (by rw [← HS.out]; exact hle)
        rw [← HS.out] at hbi
        obtain ⟨q, hqq⟩ : ∃ q, q = (t - 1 - s) / m := ⟨_, rfl⟩
        rw [← hqq] at hq hqw hbi
        clear hqq
        have HQW := Lib.hid hqw; clear hqw
        have HBI := Lib.hid hbi; clear hbi
        gi_wp2
        refine wpIn_region_held_round (S := fun w' => w'.cell? ⟨w.heap.size, 0, none⟩ = some (u64v m) ∧ w'.cell? ⟨w.heap.size + 2, 0, none⟩ = some (u64v (t - 1 - s)) ∧ w'.cell? ⟨w.heap.size + 3, 0, none⟩ = some (u64v (1 + J))) (by kernel_rfl) (by kernel_rfl) (by rintro ⟨_, _, h⟩; exact h) ?_
        change wpAnyH _ _ _ _ _ _ _ _ W.drew
        have hS0 : W.drew.cell? ⟨w.heap.size, 0, none⟩ = some (u64v m) ∧ W.drew.cell? ⟨w.heap.size + 2, 0, none⟩ = some (u64v (t - 1 - s)) ∧ W.drew.cell? ⟨w.heap.size + 3, 0, none⟩ = some (u64v (1 + J)) := ⟨c5, c7, c8⟩
        refine takeH 0 26 (u64v (1 + J)) rfl rfl (by kernel_rfl) (by kernel_rfl) (by kernel_rfl) (fun _ _ _ h => h) rfl (fun w' hS => by obtain ⟨d1, d2, d3⟩ := hS; go_simp) hS0 ?_
        go_frame
        refine takeH 1 27 (u64v (t - 1 - s)) rfl rfl (by kernel_rfl) (by kernel_rfl) (by kernel_rfl) (fun _ _ _ h => h) rfl (fun w' hS => by obtain ⟨d1, d2, d3⟩ := hS; go_simp) hS0 ?_
        go_frame
        refine takeH 2 28 (u64v m) rfl rfl (by kernel_rfl) (by kernel_rfl) (by kernel_rfl) (fun _ _ _ h => h) rfl (fun w' hS => by obtain ⟨d1, d2, d3⟩ := hS; go_simp) hS0 ?_
        go_frame
        refine wpAnyH_all (rs := [3]) (by kernel_rfl) (by simp) ?_
        simp only [List.mem_singleton, forall_eq]
        refine wpOp_valueD 29 rfl rfl rfl (u64v q) (by go_simp; rw [if_neg (by omega), HQW.out]) ⟨hS0, ?_⟩
        go_frame
        refine takeH 4 30 (u64v (1 + J + q)) rfl rfl (by kernel_rfl) (by kernel_rfl) (by kernel_rfl) (fun _ _ _ h => h) rfl (fun w' hS => by go_simp; rw [add_wrap (by omega) (by omega)]) hS0 ?_
        go_frame
        have f6' : W.drew.frozen? { block := w.heap.size + 1, off := 0 } = false := f6
        have c6' : W.drew.cell? { block := w.heap.size + 1, off := 0 } = some (u64v 0) := c6
        refine wpAnyH_all (rs := [5]) (by kernel_rfl) (by simp) ?_
        simp only [List.mem_singleton, forall_eq]
        refine wpOp_store1 rfl rfl rfl (w' := W.drew.setCell ⟨w.heap.size + 1, 0, none⟩ (u64v (1 + J + q))) (by go_simp) ⟨?_, wpAnyH_done (by kernel_rfl) ?_ _⟩
        · exact ⟨(H.out.bm.other (by omega) _).cell, (HL.other (by omega) _).cell, (HF.other (by omega) _).cell⟩
        · refine NoPanic.normal ?_
          gi_wp2
          refine ⟨KeepsFrom.trans (KeepsOthers.drew W |>.from _) (KeepsFrom.of_grownBy (grown_set _ _ _) (by rintro j e; cases e; show w.heap.size + 1 < _; omega)), ⟨⟨_, HBI.out, .inl ⟨rfl, ?_⟩⟩, ?_⟩⟩
          · have h1 := H.out.br.set (u64v (1 + J + q))
            rw [show ((1 + pre.length + q.toNat : Nat) : Int) = 1 + J + q by omega]
            exact h1
          · exact ((below_drewN H.out.low 1)).setCell (p := ⟨w.heap.size + 1, 0, none⟩) (by show w.heap.size ≤ w.heap.size + 1; omega) _
      · by_cases hxl : t - 1 - s < x
        · gi_wp2
          refine ⟨KeepsFrom.refl _ _, ⟨⟨1 + pre.length, boundIs_stop (by rw [← HS.out, ← HX.out]; exact hxl) H.out.le, .inr ⟨rfl, H.out.br, by have := H.out.bf; simpa using this⟩⟩, H.out.low⟩⟩
        · gi_wp2
          refine ⟨KeepsFrom.trans (KeepsFrom.of_grownBy (grown_set _ _ _) (by rintro j e; cases e; show w.heap.size + 1 + 1 < _; omega)) (KeepsFrom.of_grownBy (grown_set _ _ _) (by rintro j e; cases e; show w.heap.size + 1 + 1 + 1 < _; omega)), ?_⟩
          show Bd w 1 m t (pre ++ [x]).length _
          rw [List.length_append, List.length_singleton]
          refine ⟨(H.out.bm.other (by omega) _).other (by omega) _, (H.out.br.other (by omega) _).other (by omega) _, ?_, ?_, (H.out.wb.other (by omega) _).other (by omega) _, (H.out.wm.other (by omega) _).other (by omega) _, ?_, by rw [HSS.out]; omega, ?_⟩
          · have := (H.out.bl.set (u64v (t - 1 - s - x))).other (show w.heap.size + 2 ≠ w.heap.size + 3 by omega) (u64v (1 + (pre.length : Int) + 1))
            rw [HSS.out, show t - 1 - (s + x) = t - 1 - s - x by omega]
            exact this
          · have := (H.out.bf.other (show w.heap.size + 3 ≠ w.heap.size + 2 by omega) (u64v (t - 1 - s - x))).set (u64v (1 + (pre.length : Int) + 1))
            rw [show (1 + ((pre.length + 1 : Nat) : Int)) = 1 + (pre.length : Int) + 1 by omega]
            exact this
          · exact (H.out.low.setCell (p := ⟨w.heap.size + 2, 0, none⟩) (by show w.heap.size ≤ w.heap.size + 2; omega) _).setCell (p := ⟨w.heap.size + 3, 0, none⟩) (by show w.heap.size ≤ w.heap.size + 3; omega) _
          · intro i hi
            rcases Nat.lt_or_ge i pre.length with h1 | h1
            · exact H.out.lt i h1
            · obtain rfl : i = pre.length := by omega
              rw [← HX.out]; omega
    case done =>
      rintro D xs W hD h hK
      exact h.elim
    case stop =>
      rintro D c pre W hD h hK
      obtain ⟨n, hn, ⟨rfl, h1⟩ | ⟨rfl, h1, h2⟩⟩ := h.out
      · gi_wp2
        refine ⟨by simp, .inl ⟨_, _, rfl, run_takeDeferred hK, ?_⟩⟩
        have h3 : Boxed (W.putObj D (.deferred none)) (w.heap.size + 1) 25 (u64v n) := h1.kept (grownBy_putObj' W D _) (fun e => by cases e; omega)
        exact ⟨_, results_cell rfl _ _ _ _ _ rfl (fun w => rfl) h3.cell, n, rfl, hn, h.low.trans (below_own (B := w3.heap.size) (by omega) h.low.size (grownBy_putObj' W D _) (fun r e => by cases e; exact ⟨hD, _, hK, rfl⟩))⟩
      · have c8 := h2.cell
        have c6 := h1.cell
        have f6 := h1.frozen
        gi_wp2
        have hKs : (W.setCell ⟨w.heap.size + 1, 0, none⟩ (u64v n)).heap[D]? = some (.deferred (some [])) := (Below.heap_setCell W _ _ D (by show D ≠ w.heap.size + 1; omega)).trans hK
        refine ⟨by simp, .inl ⟨_, _, rfl, run_takeDeferred hKs, ?_⟩⟩
        have h4 := h1.set (u64v n)
        have h3 := h4.kept (grownBy_putObj' _ D (.deferred none)) (fun e => by cases e; omega)
        have hlw := h.low.setCell (p := ⟨w.heap.size + 1, 0, none⟩) (by show w.heap.size ≤ w.heap.size + 1; omega) (u64v n)
        exact ⟨_, results_cell rfl _ _ _ _ _ rfl (fun w => rfl) h3.cell, n, rfl, hn, hlw.trans (below_own (B := w3.heap.size) (by omega) hlw.size (grownBy_putObj' _ D _) (fun r e => by cases e; exact ⟨hD, _, hKs, rfl⟩))⟩
  · refine (callsIn_wide (n := 8)).1 ?_
    refine callsIn_of_wp_marks Tryd.func14 rfl trivial ?_ rfl
    simp only [Tryd.ntmps14, List.size_toArray, List.length_cons, List.length_nil, Nat.reduceAdd, Nat.reduceSub, Array.replicate_succ, Array.replicate_zero, List.push_toArray, List.append_toArray, List.nil_append, List.cons_append]
    gi_wp2
    refine ⟨trivial, (callsIn_wide.2 (HTK.out _)).mono ?_⟩
    rintro e w1 ⟨rfl, rfl⟩
    gi_wp2
    refine ⟨trivial, (callsIn_wide.2 (HTT.out _)).mono ?_⟩
    rintro e w2 ⟨rfl, rfl⟩
    gi_wp2
    refine ⟨trivial, (callsIn_wide.2 (waits_any b m _ (by omega) (by omega))).mono ?_⟩
    rintro e w3 ⟨rfl, wb, wm, hB, hsz⟩
    rw [HMM.out] at wm
    gi_wp2
    have bm := (((Boxed.new w 25 (u64v m)).alloc (.cells #[u64v 0] 25)).alloc (.cells #[u64v (t - 1)] 25)).alloc (.cells #[u64v 1] 25)
    have br := ((Boxed.new (w.alloc (.cells #[u64v m] 25)) 25 (u64v 0)).alloc (.cells #[u64v (t - 1)] 25)).alloc (.cells #[u64v 1] 25)
    have bl := (Boxed.new ((w.alloc (.cells #[u64v m] 25)).alloc (.cells #[u64v 0] 25)) 25 (u64v (t - 1))).alloc (.cells #[u64v 1] 25)
    have bf := Boxed.new (((w.alloc (.cells #[u64v m] 25)).alloc (.cells #[u64v 0] 25)).alloc (.cells #[u64v (t - 1)] 25)) 25 (u64v 1)
    have hlow : Below w.heap.size w ((((w.alloc (.cells #[u64v m] 25)).alloc (.cells #[u64v 0] 25)).alloc (.cells #[u64v (t - 1)] 25)).alloc (.cells #[u64v 1] 25)) :=
      ((((Below.refl _ w).alloc (Nat.le_refl _) _).alloc (by simp) _).alloc (by simp; omega) _).alloc (by simp; omega) _
    generalize hW0 : World.alloc _ _ = W0 at wb wm hB hsz bm br bl bf hlow
    have hsz0 : W0.heap.size = w.heap.size + 4 := by rw [← hW0]; simp
    clear hW0
    simp only [World.size_alloc] at br bl bf
    have h0 : Bd w b m t 0 w3 := by
      refine ⟨bm.kept (grown_of_below hB none) (by simp), br.kept (grown_of_below hB none) (by simp), ?_, ?_, ?_, ?_, hlow.trans (hB.mono (by omega)), by rw [sI_zero]; omega, by omega⟩
      · rw [sI_zero, Int.sub_zero]; exact bl.kept (grown_of_below hB none) (by simp)
      · exact bf.kept (grown_of_below hB none) (by simp)
      · rw [hsz0] at wb; exact wb
      · rw [hsz0] at wm; exact wm
    have hsz3 : w3.heap.size = w.heap.size + 6 := by omega
    clear wb wm hB hsz bm br bl bf hlow hsz0
    have H0 := Lib.hid h0; clear h0
    refine wpIn_rangeFunc_st rfl (by omega) (gf := gW) (lb := #[.pointer (some ⟨w.heap.size + 1 + 1 + 1 + 1, 0, none⟩), .pointer (some ⟨w.heap.size + 1 + 1 + 1 + 1 + 1, 0, none⟩)]) rfl trivial (enters_of Tryd.func40 (by kernel_rfl) rfl) (encs := fun x : Int => #[u64v x])
      (fun pre W => Bd w b m t pre.length W)
      (fun pre x W => Bd w b m t pre.length W ∧ x = wI b m (pre.length + 1))
      (fun _ _ => False)
      (fun c _ W => BdX w b m t c W)
      ?seq (fun _ => rfl)
      (fun pre A B row hs hg hr => hs.kc (kc_own hg hr) (below_own (by omega) hs.low.size hg hr))
      (fun pre x _ A B row hs hg hr => ⟨hs.1.kc (kc_own hg hr) (below_own (by omega) hs.1.low.size hg hr), hs.2⟩)
      (fun pre A B row hs hg hr => hs)
      (fun c pre A B row hs hg hr => hs.kc (kc_own hg hr) (below_own (by omega) hs.low.size hg hr))
      H0.out
      (fun x a' _ => a' = { tmps := #[u64v ticks, u64v b, u64v mx, undef, undef, Value.pointer (some { block := w.heap.size, off := 0 }), Value.pointer (some { block := w.heap.size + 1, off := 0 }),
            Value.pointer (some { block := w.heap.size + 1 + 1, off := 0 }), Value.pointer (some { block := w.heap.size + 1 + 1 + 1, off := 0 }), u64v x, u64v ticks, Value.bool false,
            u64v mx, Value.int IntKind.u64 mx, u64v m, u64v ticks, u64v t, Value.int IntKind.u64 (t - 1), u64v b, Value.int IntKind.u64 b, Value.int IntKind.u64 m,
            Value.func (Fn.func gW) #[] #[Value.pointer (some { block := w.heap.size + 1 + 1 + 1 + 1, off := 0 }), Value.pointer (some { block := w.heap.size + 1 + 1 + 1 + 1 + 1, off := 0 })],
            u64v x, undef, undef, undef, undef, undef, undef, undef, undef, undef, undef, undef, undef, undef, undef, undef, undef, undef], defers := [] })
      (fun x a' _ A B row hs hg hr => hs)
      ?assign ?body ?done ?stop
    case seq =>
      intro l R Jx W hRk hY hI hR hsW
      exact waits_in _ (by omega) l (w.heap.size + 1 + 1 + 1 + 1) (w.heap.size + 1 + 1 + 1 + 1 + 1) b m (by omega) hb2 (by omega) hm2 41 (fun pre W => Bd w b m t pre.length W) (bms w) R Jx
        (fun pre W h => ⟨h.wb.cell, h.wm.cell⟩) (fun pre W h => h.ms (h.few hb1 hm1 hm2)) hY W hI hR
    case assign =>
      rintro l pre x W K h hK
      have H := Lib.hid h; clear h
      gi_wp2
      exact hK _ _ (KeepsFrom.refl _ _) H.out rfl
    case body =>
      rintro l pre x a' W ⟨h, hx⟩ rfl
      have c5 := h.bm.cell
      have c6 := h.br.cell
      have f6 := h.br.frozen
      have c7 := h.bl.cell
      have f7 := h.bl.frozen
      have c8 := h.bf.cell
      have f8 := h.bf.frozen
      have hj := h.few hb1 hm1 hm2
      have hle := h.le
      have hs0 := sI_nonneg (b := b) (m := m) (by omega) (by omega) pre.length
      have hx1 := wI_pos (b := b) (m := m) hb1 hm1 (pre.length + 1)
      have hxm := wI_le (b := b) (m := m) (pre.length + 1)
      rw [← hx] at hx1 hxm
      have hss := sI_succ b m pre.length
      rw [← hx] at hss
      obtain ⟨s, hs⟩ : ∃ s, s = sI b m pre.length := ⟨_, rfl⟩
      rw [← hs] at c7 hle hs0 hss
      obtain ⟨J, hJ⟩ : ∃ J : Int, J = (pre.length : Int) := ⟨_, rfl⟩
      rw [← hJ] at c8
      have HL : Boxed W (w.heap.size + 2) 25 (u64v (t - 1 - s)) := by rw [hs]; exact h.bl
      have HF : Boxed W (w.heap.size + 3) 25 (u64v (1 + J)) := by rw [hJ]; exact h.bf
      have HS := Lib.hid hs; clear hs
      have HX := Lib.hid hx; clear hx
      have HSS := Lib.hid hss; clear hss
      have H := Lib.hid h; clear h
      by_cases hxe : x = m
      · obtain rfl := hxe.symm
        have hq := quo_u64 (x := t - 1 - s) (y := m) (by omega) (by omega) hm1
        have hqw := quo_wrap (x := t - 1 - s) (y := m) (by omega) (by omega) hm1
        have hbi := boundIs_at (b := b) (m := m) (t := t) (k := pre.length) hb1 hm1 HX.out.symm (by rw [← HS.out]; exact hle)
        rw [← HS.out] at hbi
        obtain ⟨q, hqq⟩ : ∃ q, q = (t - 1 - s) / m := ⟨_, rfl⟩
        rw [← hqq] at hq hqw hbi
        clear hqq
        have HQW := Lib.hid hqw; clear hqw
        have HBI := Lib.hid hbi; clear hbi
        gi_wp2
        refine wpIn_region_held_round (S := fun w' => w'.cell? ⟨w.heap.size, 0, none⟩ = some (u64v m) ∧ w'.cell? ⟨w.heap.size + 2, 0, none⟩ = some (u64v (t - 1 - s)) ∧ w'.cell? ⟨w.heap.size + 3, 0, none⟩ = some (u64v (1 + J))) (by kernel_rfl) (by kernel_rfl) (by rintro ⟨_, _, h⟩; exact h) ?_
        change wpAnyH _ _ _ _ _ _ _ _ W.drew
        have hS0 : W.drew.cell? ⟨w.heap.size, 0, none⟩ = some (u64v m) ∧ W.drew.cell? ⟨w.heap.size + 2, 0, none⟩ = some (u64v (t - 1 - s)) ∧ W.drew.cell? ⟨w.heap.size + 3, 0, none⟩ = some (u64v (1 + J)) := ⟨c5, c7, c8⟩
        refine takeH 0 26 (u64v (1 + J)) rfl rfl (by kernel_rfl) (by kernel_rfl) (by kernel_rfl) (fun _ _ _ h => h) rfl (fun w' hS => by obtain ⟨d1, d2, d3⟩ := hS; go_simp) hS0 ?_
        go_frame
        refine takeH 1 27 (u64v (t - 1 - s)) rfl rfl (by kernel_rfl) (by kernel_rfl) (by kernel_rfl) (fun _ _ _ h => h) rfl (fun w' hS => by obtain ⟨d1, d2, d3⟩ := hS; go_simp) hS0 ?_
        go_frame
        refine takeH 2 28 (u64v m) rfl rfl (by kernel_rfl) (by kernel_rfl) (by kernel_rfl) (fun _ _ _ h => h) rfl (fun w' hS => by obtain ⟨d1, d2, d3⟩ := hS; go_simp) hS0 ?_
        go_frame
        refine wpAnyH_all (rs := [3]) (by kernel_rfl) (by simp) ?_
        simp only [List.mem_singleton, forall_eq]
        refine wpOp_valueD 29 rfl rfl rfl (u64v q) (by go_simp; rw [if_neg (by omega), HQW.out]) ⟨hS0, ?_⟩
        go_frame
        refine takeH 4 30 (u64v (1 + J + q)) rfl rfl (by kernel_rfl) (by kernel_rfl) (by kernel_rfl) (fun _ _ _ h => h) rfl (fun w' hS => by go_simp; rw [add_wrap (by omega) (by omega)]) hS0 ?_
        go_frame
        have f6' : W.drew.frozen? { block := w.heap.size + 1, off := 0 } = false := f6
        have c6' : W.drew.cell? { block := w.heap.size + 1, off := 0 } = some (u64v 0) := c6
        refine wpAnyH_all (rs := [5]) (by kernel_rfl) (by simp) ?_
        simp only [List.mem_singleton, forall_eq]
        refine wpOp_store1 rfl rfl rfl (w' := W.drew.setCell ⟨w.heap.size + 1, 0, none⟩ (u64v (1 + J + q))) (by go_simp) ⟨?_, wpAnyH_done (by kernel_rfl) ?_ _⟩
        · exact ⟨(H.out.bm.other (by omega) _).cell, (HL.other (by omega) _).cell, (HF.other (by omega) _).cell⟩
        · refine NoPanic.normal ?_
          gi_wp2
          refine ⟨KeepsFrom.trans (KeepsOthers.drew W |>.from _) (KeepsFrom.of_grownBy (grown_set _ _ _) (by rintro j e; cases e; show w.heap.size + 1 < _; omega)), ⟨⟨_, HBI.out, .inl ⟨rfl, ?_⟩⟩, ?_⟩⟩
          · have h1 := H.out.br.set (u64v (1 + J + q))
            rw [show ((1 + pre.length + q.toNat : Nat) : Int) = 1 + J + q by omega]
            exact h1
          · exact ((below_drewN H.out.low 1)).setCell (p := ⟨w.heap.size + 1, 0, none⟩) (by show w.heap.size ≤ w.heap.size + 1; omega) _
      · by_cases hxl : t - 1 - s < x
        · gi_wp2
          refine ⟨KeepsFrom.refl _ _, ⟨⟨1 + pre.length, boundIs_stop (by rw [← HS.out, ← HX.out]; exact hxl) H.out.le, .inr ⟨rfl, H.out.br, by have := H.out.bf; simpa using this⟩⟩, H.out.low⟩⟩
        · gi_wp2
          refine ⟨KeepsFrom.trans (KeepsFrom.of_grownBy (grown_set _ _ _) (by rintro j e; cases e; show w.heap.size + 1 + 1 < _; omega)) (KeepsFrom.of_grownBy (grown_set _ _ _) (by rintro j e; cases e; show w.heap.size + 1 + 1 + 1 < _; omega)), ?_⟩
          show Bd w b m t (pre ++ [x]).length _
          rw [List.length_append, List.length_singleton]
          refine ⟨(H.out.bm.other (by omega) _).other (by omega) _, (H.out.br.other (by omega) _).other (by omega) _, ?_, ?_, (H.out.wb.other (by omega) _).other (by omega) _, (H.out.wm.other (by omega) _).other (by omega) _, ?_, by rw [HSS.out]; omega, ?_⟩
          · have := (H.out.bl.set (u64v (t - 1 - s - x))).other (show w.heap.size + 2 ≠ w.heap.size + 3 by omega) (u64v (1 + (pre.length : Int) + 1))
            rw [HSS.out, show t - 1 - (s + x) = t - 1 - s - x by omega]
            exact this
          · have := (H.out.bf.other (show w.heap.size + 3 ≠ w.heap.size + 2 by omega) (u64v (t - 1 - s - x))).set (u64v (1 + (pre.length : Int) + 1))
            rw [show (1 + ((pre.length + 1 : Nat) : Int)) = 1 + (pre.length : Int) + 1 by omega]
            exact this
          · exact (H.out.low.setCell (p := ⟨w.heap.size + 2, 0, none⟩) (by show w.heap.size ≤ w.heap.size + 2; omega) _).setCell (p := ⟨w.heap.size + 3, 0, none⟩) (by show w.heap.size ≤ w.heap.size + 3; omega) _
          · intro i hi
            rcases Nat.lt_or_ge i pre.length with h1 | h1
            · exact H.out.lt i h1
            · obtain rfl : i = pre.length := by omega
              rw [← HX.out]; omega
    case done =>
      rintro D xs W hD h hK
      exact h.elim
    case stop =>
      rintro D c pre W hD h hK
      obtain ⟨n, hn, ⟨rfl, h1⟩ | ⟨rfl, h1, h2⟩⟩ := h.out
      · gi_wp2
        refine ⟨by simp, .inl ⟨_, _, rfl, run_takeDeferred hK, ?_⟩⟩
        have h3 : Boxed (W.putObj D (.deferred none)) (w.heap.size + 1) 25 (u64v n) := h1.kept (grownBy_putObj' W D _) (fun e => by cases e; omega)
        exact ⟨_, results_cell rfl _ _ _ _ _ rfl (fun w => rfl) h3.cell, n, rfl, hn, h.low.trans (below_own (B := w3.heap.size) (by omega) h.low.size (grownBy_putObj' W D _) (fun r e => by cases e; exact ⟨hD, _, hK, rfl⟩))⟩
      · have c8 := h2.cell
        have c6 := h1.cell
        have f6 := h1.frozen
        gi_wp2
        have hKs : (W.setCell ⟨w.heap.size + 1, 0, none⟩ (u64v n)).heap[D]? = some (.deferred (some [])) := (Below.heap_setCell W _ _ D (by show D ≠ w.heap.size + 1; omega)).trans hK
        refine ⟨by simp, .inl ⟨_, _, rfl, run_takeDeferred hKs, ?_⟩⟩
        have h4 := h1.set (u64v n)
        have h3 := h4.kept (grownBy_putObj' _ D (.deferred none)) (fun e => by cases e; omega)
        have hlw := h.low.setCell (p := ⟨w.heap.size + 1, 0, none⟩) (by show w.heap.size ≤ w.heap.size + 1; omega) (u64v n)
        exact ⟨_, results_cell rfl _ _ _ _ _ rfl (fun w => rfl) h3.cell, n, rfl, hn, hlw.trans (below_own (B := w3.heap.size) (by omega) hlw.size (grownBy_putObj' _ D _) (fun r e => by cases e; exact ⟨hD, _, hKs, rfl⟩))⟩
end Go.Proofs.YtnfkkopegbeacaaDoor
