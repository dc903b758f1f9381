/- slices.Collect over head.Get's iterator; head.First; the law's values. -/
import Derived.Test.YtgipbkopndghdaaDoorHdGet3
set_option maxRecDepth 100000
namespace Go.Proofs.YtgipbkopndghdaaDoor
open Go.RowKit Go.Shelf
attribute [local go_sem] Oper.semAt_some
/-- Values under way: the box of the row at q, the row from c on; what lay below c has not turned but for the box. -/
structure Vs (W3 : World) (q c : Nat) (pre : List (List UInt8)) (va : Value) (A : World) : Prop where
  bo : Boxed A q 39 va
  own : OwnT A c va pre
  fr : W3.grownBy A (some q)
  qc : q < c
  cz : c ≤ W3.heap.size
section
variable {W3 A B A1 : World} {q c : Nat} {pre : List (List UInt8)} {va v1 : Value} {x : List UInt8}
theorem Vs.below (h : Vs W3 q c pre va A) (hb : Below A.heap.size A B) : Vs W3 q c pre va B :=
  ⟨(hb.block _ h.bo.lt).trans h.bo, h.own.below hb, grown_below h.fr hb, h.qc, h.cz⟩
theorem Vs.put {l : Nat} {o o' : Obj} (h : Vs W3 q c pre va A) (hl : W3.heap.size ≤ l) (ho : A.heap[l]? = some o) (hc : o.isCells = false) : Vs W3 q c pre va (A.putObj l o') := by
  have hk := kc_putObj (b := 0) (o' := o') ho hc
  have hg := grownBy_putObj' A l o'
  exact ⟨hk _ _ _ _ (Nat.zero_le _) h.bo, ownsRow_kc h.own (Nat.zero_le _) hk, ⟨hg.os.trans h.fr.os, hg.tape.trans h.fr.tape, hg.output.trans h.fr.output, Nat.le_trans h.fr.size hg.size, fun k hk hn => (World.putObj_heap_other (by omega)).trans (h.fr.block k hk hn)⟩, h.qc, h.cz⟩
theorem Vs.ne (h : Vs W3 q c pre va A) : some q ≠ va.ownBlock := fun e => by have := (h.own.lt q e.symm).1; have := h.qc; omega
/-- One more value. -/
theorem Vs.out {o : Obj} (h : Vs W3 q c pre va A) (hcW : c = W3.heap.size) (hg : (A.alloc o).grownBy A1 va.ownBlock) (hv : OwnT A1 c v1 (pre ++ [x])) :
    Boxed A1 q 39 va ∧ Vs W3 q c (pre ++ [x]) v1 (A1.setCell ⟨q, 0, none⟩ v1) ∧ KeepsFrom W3.heap.size A (A1.setCell ⟨q, 0, none⟩ v1) := by
  have g0 := World.grownBy_alloc A o none
  have g1 := grown_set A1 ⟨q, 0, none⟩ v1
  have bo1 := (h.bo.alloc o).kept hg h.ne
  have hq := h.qc
  have hsz := h.fr.size
  have s0 := g0.size
  have s1 := hg.size
  have s2 := g1.size
  have hlt := fun k e => (h.own.lt k e).1
  refine ⟨bo1, ⟨bo1.set v1, hv.kept g1 (.inr (fun e => by have := (hv.lt q e).1; omega)), ⟨?_, ?_, ?_, by omega, fun k hk hn => ?_⟩, h.qc, h.cz⟩, by omega, fun g ob hgl ho hc => ?_⟩
  · exact g1.os.trans (hg.os.trans (g0.os.trans h.fr.os))
  · exact g1.tape.trans (hg.tape.trans (g0.tape.trans h.fr.tape))
  · exact g1.output.trans (hg.output.trans (g0.output.trans h.fr.output))
  · exact (g1.block k (by omega) hn).trans ((hg.block k (by omega) (fun e => by have := hlt k e.symm; omega)).trans ((g0.block k (by omega) (by simp)).trans (h.fr.block k hk hn)))
  · have hk0 := (Array.getElem?_eq_some_iff.1 ho).1
    refine (g1.block g (by omega) (by simp; omega)).trans ((hg.block g (by omega) ?_).trans ((g0.block g hk0 (by simp)).trans ho))
    intro e
    rcases h.own.2 with ⟨h0, _⟩ | ⟨g', cap, cur, h0, _, hg', _⟩
    · rw [h0] at e; simp [Value.ownBlock] at e
    · rw [h0] at e
      have : g = g' := by simpa [Value.ownBlock] using e
      subst this
      rw [ho] at hg'; cases hg'; cases hc
end
theorem OwnT.le {A : World} {base base' : Nat} {v : Value} {l : List (List UInt8)} (h : OwnT A base v l) (hb : base' ≤ base) : OwnT A base' v l := by
  obtain ⟨h1, h2 | ⟨g, cap, cur, h0, hbg, hg, h3⟩⟩ := h
  · exact ⟨h1, .inl h2⟩
  · exact ⟨h1, .inr ⟨g, cap, cur, h0, by omega, hg, h3⟩⟩
theorem belowQ {w W3 A : World} {q : Nat} (h : W3.grownBy A (some q)) (hb : Below w.heap.size w W3) (hq : w.heap.size ≤ q) : Below w.heap.size w A := hb.trans (belowR h hb.size hq)
set_option maxHeartbeats 2000000 in
theorem appendSeq_get (b : Nat) (v : Value) (xs : Prs) (n : List UInt8) (hl : xs.length ≤ 1000) (hn : n.length ≤ 1000) (hs : ∀ x ∈ xs, x.1.length ≤ 1000) (w : World) (hG : GetIn b v xs n w) :
    CallsIn Fence.wide 10 Tryd.prog 36 #[.slice none 0 0, gvGet b] w fun e w' => ∃ v', e = .returned v' ∧ OwnT w' w.heap.size v' (getL xs n) ∧ Below w.heap.size w w' := by
  refine callsIn_of_wp_marks Tryd.func36 rfl trivial ?_ rfl
  simp only [Tryd.ntmps36, List.size_toArray, List.length_cons, List.length_nil, Nat.reduceAdd, Nat.reduceSub, Array.replicate_succ, Array.replicate_zero, List.push_toArray, List.append_toArray, List.nil_append, List.cons_append]
  have hll := getL_len xs n
  obtain ⟨R, hR⟩ : ∃ R, R = getL xs n := ⟨_, rfl⟩
  rw [← hR] at hll ⊢
  gi_wp2
  obtain ⟨W3, hW3⟩ : ∃ W3, W3 = w.alloc (.cells #[.slice none 0 0] 39) := ⟨_, rfl⟩
  have hB3 : Below w.heap.size w W3 := by rw [hW3]; exact (Below.refl _ w).alloc (Nat.le_refl _) _
  have hz3 : W3.heap.size = w.heap.size + 1 := by rw [hW3]; simp
  have hP : Vs W3 w.heap.size W3.heap.size [] (.slice none 0 0) W3 := by
    have q1 := Boxed.new w 39 (.slice none 0 0)
    rw [← hW3] at q1
    exact ⟨q1, OwnT.nil _ _, World.grownBy.refl _ _, by omega, Nat.le_refl _⟩
  rw [← hW3]
  have HSQ := Lib.hid (get1_g (10 - 1) (by omega) b v xs n hl hn hs W3)
  unfold GtY at HSQ
  rw [← hR] at HSQ
  have hbw : b < w.heap.size := hG.bx.lt
  have HP := Lib.hid hP
  have HB3 := Lib.hid hB3
  have HG := Lib.hid hG
  clear hW3 hP hB3 hR hG
  refine wpIn_rangeFunc_g rfl (by omega) (gf := gGet) (lb := #[.pointer (some ⟨b, 0, none⟩), .pointer (some ⟨b + 1, 0, none⟩)]) rfl trivial (fun _ _ => rfl) (encs := fun x : List UInt8 => #[str x]) StL (fun _ _ => True) (fun _ pre x _ => pre ++ [x] <+: R) (fun ys => ys = R)
    (GetIn b v xs n)
    (fun pre A => ∃ va, Vs W3 w.heap.size W3.heap.size pre va A)
    (fun _ _ _ => False)
    HSQ.out (fun pre A h => by obtain ⟨va, h⟩ := h; exact HG.out.below (belowQ h.fr HB3.out (Nat.le_refl _))) (fun _ => rfl)
    (fun _ _ _ _ h _ hk => h.block _ hk) (fun _ _ _ h => h.size) (fun _ _ _ _ _ => trivial) (fun _ _ _ _ _ _ _ => trivial)
    (fun pre A B h hst => by obtain ⟨va, h⟩ := h; exact ⟨va, h.below hst⟩)
    (fun c pre A B h hst => h)
    (fun pre A l o o' h hl ho hc => by obtain ⟨va, h⟩ := h; exact ⟨va, h.put hl ho hc⟩)
    (fun c pre A l o o' h hl ho hc => h)
    (fun _ _ _ _ _ _ _ h _ _ _ => h)
    (fun W' hb hs => ⟨_, HP.out.below hb⟩)
    (fun x a' => a' = { tmps := #[.slice none 0 0, gvGet b, .pointer (some ⟨w.heap.size, 0, none⟩), undef, .slice none 0 0, str x, gvGet b, str x, undef, undef, undef, undef, undef], defers := [] })
    ?assign ?body ?done ?stop
  case assign =>
    rintro k x A K hK
    have HK := Lib.hid hK; clear hK
    gi_wp2
    exact HK.out _ rfl
  case stop => exact fun _ _ _ _ _ _ h => h.elim
  case done =>
    rintro D ys A hD hz rfl ⟨va, hJ⟩ hK
    have c4 := hJ.bo.cell
    have hJ2 := hJ.put (o' := .deferred none) (l := D) (by omega) hK rfl
    have HJ2 := Lib.hid hJ2; clear hJ2
    gi_wp2
    show LeavesInM _ _ _ _ _ _ _ _ _
    refine ⟨by simp, .inl ⟨_, _, rfl, run_takeDeferred hK, ?_⟩⟩
    have hO : OwnT _ w.heap.size va ys := OwnT.le HJ2.out.own (by omega)
    exact ⟨_, results_tmp (t := 4) rfl _ _ _, _, rfl, hO, belowQ HJ2.out.fr HB3.out (Nat.le_refl _)⟩
  case body =>
    rintro k bb pre x a' A hbb hbz ⟨va, hJ⟩ hpre rfl
    have hpl := List.IsPrefix.length_le hpre
    rw [List.length_append, List.length_singleton] at hpl
    have hz4 := hJ.fr.size
    have c4 := hJ.bo.cell
    have HJ := Lib.hid hJ
    have HOW := Lib.hid (hJ.own.below ((Below.refl A.heap.size A).alloc (Nat.le_refl _) (.cells #[str x] 9)))
    have HNW := Lib.hid (heap_alloc_new A (.cells #[str x] 9))
    have hzA : W3.heap.size ≤ (A.alloc (.cells #[str x] 9)).heap.size := by simp; omega
    have hpl2 : pre.length ≤ 100000 := by omega
    have HLEN : Hid ((pre ++ [x]).length = pre.length + 1) := Lib.hid (by simp)
    clear hJ hpre hpl
    gi_wp2_with (gi_at_builtin; (refine wpListIn_appT rfl (.tmp 8) (.tmp 10) rfl W3.heap.size va pre x rfl HOW.out A.heap.size rfl HNW.out hpl2 hzA ?_); intro v5 A1 hO5 hg5; obtain ⟨A5, c5, e5⟩ := hO5.slice; rw [HLEN.out] at e5; subst e5; obtain ⟨hb5, hP5, hF5⟩ := HJ.out.out rfl (x := x) hg5 hO5; have n3 := hb5.cell; have n3' := hb5.frozen; have HP5 := Lib.hid hP5; have HF5 := Lib.hid hF5; clear hO5 hg5 hb5 hP5 hF5)
    exact ⟨HF5.out, trivial, ⟨_, HP5.out⟩⟩
theorem collect_get (b : Nat) (v : Value) (xs : Prs) (n : List UInt8) (hl : xs.length ≤ 1000) (hn : n.length ≤ 1000) (hs : ∀ x ∈ xs, x.1.length ≤ 1000) (w : World) (hG : GetIn b v xs n w) :
    Calls Tryd.prog 19 #[gvGet b] w fun e w' => ∃ v', e = .returned v' ∧ OwnT w' w.heap.size v' (getL xs n) ∧ Below w.heap.size w w' := by
  refine (callsIn_wide (n := 11)).1 ?_
  refine callsIn_of_wp Tryd.func19 rfl trivial ?_ rfl
  simp only [Tryd.ntmps19, List.size_toArray, List.length_cons, List.length_nil, Nat.reduceAdd, Nat.reduceSub, Array.replicate_succ, Array.replicate_zero, List.push_toArray, List.append_toArray, List.nil_append, List.cons_append]
  gi_wp2
  refine ⟨trivial, (appendSeq_get b v xs n hl hn hs w hG).mono ?_⟩
  rintro e w' ⟨v', rfl, hO, hb⟩
  gi_wp2
  go_ret
  exact ⟨_, rfl, hO, hb⟩
theorem putObj_cell {A : World} {b o l : Nat} {v : Value} {o' : Obj} (h : A.cell? ⟨b, o, none⟩ = some v) (hn : b ≠ l) : (A.putObj l o').cell? ⟨b, o, none⟩ = some v := by
  have hh : (A.putObj l o').heap[b]? = A.heap[b]? := World.putObj_heap_other hn
  rw [World.cell?_of_block hh]; exact h
theorem setTwo_heap {A : World} {q D : Nat} {u t : Value} {o : Obj} (h1 : D ≠ q) (h2 : D ≠ q + 1) (h : A.heap[D]? = some o) : ((A.setCell ⟨q, 0, none⟩ u).setCell ⟨q + 1, 0, none⟩ t).heap[D]? = some o := by
  have g1 := grown_set A ⟨q, 0, none⟩ u
  have g2 := grown_set (A.setCell ⟨q, 0, none⟩ u) ⟨q + 1, 0, none⟩ t
  have hD := (Array.getElem?_eq_some_iff.1 h).1
  exact (g2.block D (by have := g1.size; omega) (by simp; omega)).trans ((g1.block D hD (by simp; omega)).trans h)
theorem setTwo_a {A : World} {q : Nat} {a b : TypeId} {x y u t : Value} (h1 : Boxed A q a x) (h2 : Boxed A (q + 1) b y) : ((A.setCell ⟨q, 0, none⟩ u).setCell ⟨q + 1, 0, none⟩ t).cell? ⟨q, 0, none⟩ = some u ∧ ((A.setCell ⟨q, 0, none⟩ u).setCell ⟨q + 1, 0, none⟩ t).cell? ⟨q + 1, 0, none⟩ = some t := by
  have d1 := h1.set u
  have d2 := h2.kept (grown_set A ⟨q, 0, none⟩ u) (by simp)
  have d3 := d1.kept (grown_set (A.setCell ⟨q, 0, none⟩ u) ⟨q + 1, 0, none⟩ t) (by simp)
  exact ⟨d3.cell, (d2.set t).cell⟩
theorem setTwo_keeps {A : World} {q B : Nat} {u t : Value} (hq : q + 1 < B) (_hB : B ≤ A.heap.size) : KeepsFrom B A ((A.setCell ⟨q, 0, none⟩ u).setCell ⟨q + 1, 0, none⟩ t) := by
  have g1 := grown_set A ⟨q, 0, none⟩ u
  have g2 := grown_set (A.setCell ⟨q, 0, none⟩ u) ⟨q + 1, 0, none⟩ t
  have s1 := g1.size
  have s2 := g2.size
  refine ⟨by omega, fun g ob hgl ho hc => ?_⟩
  have hg := (Array.getElem?_eq_some_iff.1 ho).1
  exact (g2.block g (by omega) (by simp; omega)).trans ((g1.block g hg (by simp; omega)).trans ho)
/-- First, under way and at its end. -/
def FrI (w : World) (b : Nat) (v : Value) (xs : Prs) (n : List UInt8) (q r : Value) (A : World) : Prop :=
  GetIn b v xs n A ∧ Boxed A w.heap.size 9 q ∧ Boxed A (w.heap.size + 1) 4 r ∧ Below w.heap.size w A
theorem FrI.below {w A B : World} {b : Nat} {v : Value} {xs : Prs} {n : List UInt8} {q r : Value} (h : FrI w b v xs n q r A) (hb : Below A.heap.size A B) (hz : w.heap.size ≤ A.heap.size) : FrI w b v xs n q r B :=
  ⟨h.1.below hb, (hb.block _ h.2.1.lt).trans h.2.1, (hb.block _ h.2.2.1.lt).trans h.2.2.1, h.2.2.2.trans (hb.mono hz)⟩
theorem FrI.put {w A : World} {b : Nat} {v : Value} {xs : Prs} {n : List UInt8} {q r : Value} {l : Nat} {o o' : Obj} (h : FrI w b v xs n q r A) (hl : w.heap.size ≤ l) (ho : A.heap[l]? = some o) (hc : o.isCells = false) : FrI w b v xs n q r (A.putObj l o') := by
  have hk := kc_putObj (b := 0) (o' := o') ho hc
  exact ⟨⟨hk _ _ _ _ (Nat.zero_le _) h.1.bx, ownsRow_kc h.1.pr (Nat.zero_le _) hk, hk _ _ _ _ (Nat.zero_le _) h.1.bn⟩, hk _ _ _ _ (Nat.zero_le _) h.2.1, hk _ _ _ _ (Nat.zero_le _) h.2.2.1,
    h.2.2.2.trans (below_own (B := w.heap.size) (Nat.le_refl _) h.2.2.2.size (grownBy_putObj' A l o') (fun r e => by cases e; exact ⟨hl, o, ho, hc⟩))⟩
set_option maxHeartbeats 2000000 in
theorem first_get (v0 : Value) (xs : Prs) (n : List UInt8) (w : World) (hv : PrIn w v0 xs) (hl : xs.length ≤ 1000) (hn : n.length ≤ 1000) (hs : ∀ x ∈ xs, x.1.length ≤ 1000) :
    Calls Tryd.prog 15 #[v0, str n] w fun e w' => e = .returned (.tuple #[str ((getL xs n).headD []), .bool (!(getL xs n).isEmpty)]) ∧ Below w.heap.size w w' := by
  have hb2 : Below w.heap.size w ((w.alloc (.cells #[str []] 9)).alloc (.cells #[.bool false] 4)) := ((Below.refl _ w).alloc (Nat.le_refl _) _).alloc (by simp) _
  have HC := Lib.hid (get_any v0 xs n _ (hv.below hb2) hl)
  have q1 := (Boxed.new w 9 (str [])).alloc (.cells #[.bool false] 4)
  have q2 := Boxed.new (w.alloc (.cells #[str []] 9)) 4 (.bool false)
  rw [World.size_alloc] at q2
  have Q1 := Lib.hid q1; have Q2 := Lib.hid q2; have HB2 := Lib.hid hb2
  obtain ⟨A0, c0, rfl, hq⟩ := hv
  clear hq hb2 q1 q2
  have hll := getL_len xs n
  obtain ⟨R, hR⟩ : ∃ R, R = getL xs n := ⟨_, rfl⟩
  have HR := Lib.hid hR
  rw [← hR] at hll ⊢
  clear hR
  refine (callsIn_wide (n := 10)).1 ?_
  refine callsIn_of_wp_marks Tryd.func15 rfl trivial ?_ rfl
  simp only [Tryd.ntmps15, List.size_toArray, List.length_cons, List.length_nil, Nat.reduceAdd, Nat.reduceSub, Array.replicate_succ, Array.replicate_zero, List.push_toArray, List.append_toArray, List.nil_append, List.cons_append]
  gi_wp2
  refine ⟨trivial, (callsIn_wide.2 HC.out).mono ?_⟩
  rintro e W3 ⟨rfl, ⟨v3, hG⟩, hB3, hz3⟩
  simp only [World.size_alloc, Nat.add_assoc, Nat.reduceAdd] at hG hB3 hz3 ⊢
  have hP : FrI w (w.heap.size + 2) v3 xs n (str []) (.bool false) W3 :=
    ⟨hG, (hB3.block _ (by omega)).trans Q1.out, (hB3.block _ (by omega)).trans Q2.out, HB2.out.trans (hB3.mono (by omega))⟩
  have HSQ := Lib.hid (get1_g (10 - 1) (by omega) (w.heap.size + 2) v3 xs n hl hn hs W3)
  unfold GtY at HSQ
  rw [← HR.out] at HSQ
  have HP := Lib.hid hP
  clear hP hG hB3 HC
  gi_wp2
  refine wpIn_rangeFunc_g rfl (by omega) (gf := gGet) (lb := #[.pointer (some ⟨w.heap.size + 2, 0, none⟩), .pointer (some ⟨w.heap.size + 2 + 1, 0, none⟩)]) rfl trivial (fun _ _ => rfl) (encs := fun x : List UInt8 => #[str x]) StL (fun _ _ => True) (fun _ pre x _ => pre ++ [x] <+: R) (fun ys => ys = R)
    (GetIn (w.heap.size + 2) v3 xs n)
    (fun pre A => pre = [] ∧ FrI w (w.heap.size + 2) v3 xs n (str []) (.bool false) A)
    (fun cd pre A => cd = .ret ∧ ∃ x, pre = [x] ∧ pre <+: R ∧ FrI w (w.heap.size + 2) v3 xs n (str x) (.bool true) A)
    HSQ.out (fun pre A h => h.2.1) (fun _ => rfl)
    (fun _ _ _ _ h _ hk => h.block _ hk) (fun _ _ _ h => h.size) (fun _ _ _ _ _ => trivial) (fun _ _ _ _ _ _ _ => trivial)
    (fun pre A B h hst => ⟨h.1, h.2.below hst h.2.2.2.2.size⟩)
    (fun c pre A B h hst => by obtain ⟨h1, x, h2, h3, h4⟩ := h; exact ⟨h1, x, h2, h3, h4.below hst h4.2.2.2.size⟩)
    (fun pre A l o o' h hl ho hc => ⟨h.1, h.2.put (by omega) ho hc⟩)
    (fun c pre A l o o' h hl ho hc => by obtain ⟨h1, x, h2, h3, h4⟩ := h; exact ⟨h1, x, h2, h3, h4.put (by omega) ho hc⟩)
    (fun _ _ _ _ _ _ _ h _ _ _ => h)
    (fun W' hb hs => ⟨rfl, HP.out.below hb (by omega)⟩)
    (fun x a' => a' = { tmps := #[.slice A0 xs.length c0, str n, undef, undef, .pointer (some ⟨w.heap.size, 0, none⟩), .pointer (some ⟨w.heap.size + 1, 0, none⟩), str x, .slice A0 xs.length c0, str n, gvGet (w.heap.size + 2), str x, undef], defers := [] })
    ?assign ?body ?done ?stop
  case assign =>
    rintro k x A K hK
    have HK := Lib.hid hK; clear hK
    gi_wp2
    exact HK.out _ rfl
  case done =>
    rintro D ys A hD hz rfl ⟨hy, hJ⟩ hK
    subst hy
    have c0 := hJ.2.1.cell
    have c1 := hJ.2.2.1.cell
    have f0 := hJ.2.1.frozen
    have f1 := hJ.2.2.1.frozen
    have hK2 := setTwo_heap (q := w.heap.size) (u := str []) (t := .bool false) (show D ≠ w.heap.size by omega) (show D ≠ w.heap.size + 1 by omega) hK
    have hB4 := ((hJ.2.2.2.setCell (p := ⟨w.heap.size, 0, none⟩) (Nat.le_refl _) (str [])).setCell (p := ⟨w.heap.size + 1, 0, none⟩) (by show w.heap.size ≤ w.heap.size + 1; omega) (.bool false)).trans (below_own (B := w.heap.size) (Nat.le_refl _) (by simpa using hJ.2.2.2.size) (grownBy_putObj' _ D (.deferred none)) (fun r e => by cases e; exact ⟨by omega, _, hK2, rfl⟩))
    have HB4 := Lib.hid hB4
    have HK2 := Lib.hid hK2
    have d0 := setTwo_a (q := w.heap.size) (u := str []) (t := .bool false) hJ.2.1 hJ.2.2.1
    have D0 := Lib.hid d0
    clear hB4 hK2 hJ hK d0
    gi_wp2
    show LeavesInM _ _ _ _ _ _ _ _ _
    refine ⟨by simp, .inl ⟨_, _, rfl, run_takeDeferred HK2.out, ?_⟩⟩
    obtain ⟨e0, e1⟩ := D0.out
    have p0 := putObj_cell (l := D) (o' := .deferred none) e0 (by show w.heap.size ≠ D; omega)
    have p1 := putObj_cell (l := D) (o' := .deferred none) e1 (by show w.heap.size + 1 ≠ D; omega)
    exact ⟨.tuple #[str [], .bool false], by simp [results, Tryd.results15, go_sem, p0, p1], rfl, HB4.out⟩
  case stop =>
    rintro D c pre A hD hz ⟨rfl, x, rfl, hpre, hJ⟩ hK
    obtain ⟨t, rfl⟩ : ∃ t, R = x :: t := by
      obtain ⟨t, ht⟩ := hpre
      exact ⟨t, ht.symm⟩
    have hB4 := hJ.2.2.2.trans (below_own (B := w.heap.size) (Nat.le_refl _) hJ.2.2.2.size (grownBy_putObj' _ D (.deferred none)) (fun r e => by cases e; exact ⟨by omega, _, hK, rfl⟩))
    have p0 := putObj_cell (l := D) (o' := .deferred none) hJ.2.1.cell (by show w.heap.size ≠ D; omega)
    have p1 := putObj_cell (l := D) (o' := .deferred none) hJ.2.2.1.cell (by show w.heap.size + 1 ≠ D; omega)
    gi_wp2
    show LeavesInM _ _ _ _ _ _ _ _ _
    refine ⟨by simp, .inl ⟨_, _, rfl, run_takeDeferred hK, ?_⟩⟩
    exact ⟨.tuple #[str x, .bool true], by simp [results, Tryd.results15, go_sem, p0, p1], rfl, hB4⟩
  case body =>
    rintro k bb pre x a' A hbb hbz ⟨rfl, hJ⟩ hpre rfl
    have c0 := hJ.2.1.cell
    have c1 := hJ.2.2.1.cell
    have f0 := hJ.2.1.frozen
    have f1 := hJ.2.2.1.frozen
    have hF := setTwo_keeps (A := A) (q := w.heap.size) (u := str x) (t := .bool true) (B := W3.heap.size) (by omega) (by have := hJ.2.2.2.size; omega)
    have d1 := hJ.2.1.set (str x)
    have d2 := hJ.2.2.1.kept (grown_set A ⟨w.heap.size, 0, none⟩ (str x)) (by simp)
    have d3 := d1.kept (grown_set (A.setCell ⟨w.heap.size, 0, none⟩ (str x)) ⟨w.heap.size + 1, 0, none⟩ (.bool true)) (by simp)
    have d4 := d2.set (.bool true)
    have hG2 := (hJ.1.grown (r := w.heap.size) (grown_set A ⟨w.heap.size, 0, none⟩ (str x)) (by omega)).grown (r := w.heap.size + 1) (grown_set (A.setCell ⟨w.heap.size, 0, none⟩ (str x)) ⟨w.heap.size + 1, 0, none⟩ (.bool true)) (by omega)
    have hB4 := (hJ.2.2.2.setCell (p := ⟨w.heap.size, 0, none⟩) (Nat.le_refl _) (str x)).setCell (p := ⟨w.heap.size + 1, 0, none⟩) (by show w.heap.size ≤ w.heap.size + 1; omega) (.bool true)
    have HI := Lib.hid (show FrI w (w.heap.size + 2) v3 xs n (str x) (.bool true) _ from ⟨hG2, d3, d4, hB4⟩)
    have HF := Lib.hid hF
    clear hF d1 d2 d3 d4 hG2 hB4 hJ
    gi_wp2
    exact ⟨HF.out, rfl, x, rfl, hpre, HI.out⟩
end Go.Proofs.YtgipbkopndghdaaDoor
