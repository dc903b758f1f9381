/- The law's join: its contract. -/
import Derived.Test.YtmgbiefobkpafaaDoorShaJoin
namespace Go.Proofs.YtmgbiefobkpafaaDoor
open Go.RowKit Go.Shelf
attribute [local go_sem] Oper.semAt_some
/-- The two results behind the loop. -/
theorem Jn.fin {w A : World} {K bx b cap : Nat} {q : List UInt8} {B0 k D : Nat} {va : Value} (h : Jn w K bx b cap q B0 k va A) (hB : w.heap.size + 5 ≤ B0) (hD : B0 ≤ D) (hK : A.heap[D]? = some (.deferred (some []))) :
    (((A.setCell ⟨w.heap.size + 1, 0, none⟩ va).setCell ⟨w.heap.size + 2, 0, none⟩ (.int .i64 (k : Int))).drew).heap[D]? = some (.deferred (some [])) ∧
    ((((A.setCell ⟨w.heap.size + 1, 0, none⟩ va).setCell ⟨w.heap.size + 2, 0, none⟩ (.int .i64 (k : Int))).drew).putObj D (.deferred none)).cell? ⟨w.heap.size + 1, 0, none⟩ = some va ∧
    ((((A.setCell ⟨w.heap.size + 1, 0, none⟩ va).setCell ⟨w.heap.size + 2, 0, none⟩ (.int .i64 (k : Int))).drew).putObj D (.deferred none)).cell? ⟨w.heap.size + 2, 0, none⟩ = some (.int .i64 (k : Int)) ∧
    OwnB ((((A.setCell ⟨w.heap.size + 1, 0, none⟩ va).setCell ⟨w.heap.size + 2, 0, none⟩ (.int .i64 (k : Int))).drew).putObj D (.deferred none)) w.heap.size va (q.take (64 * k)) ∧
    Below w.heap.size w ((((A.setCell ⟨w.heap.size + 1, 0, none⟩ va).setCell ⟨w.heap.size + 2, 0, none⟩ (.int .i64 (k : Int))).drew).putObj D (.deferred none)) := by
  have g1 := grown_set A ⟨w.heap.size + 1, 0, none⟩ va
  have g2 := grown_set (A.setCell ⟨w.heap.size + 1, 0, none⟩ va) ⟨w.heap.size + 2, 0, none⟩ (.int .i64 (k : Int))
  have q1 : Boxed (A.setCell ⟨w.heap.size + 1, 0, none⟩ va) (w.heap.size + 1) 22 va := h.r1.set _
  have q2 := q1.kept g2 (by simp)
  have r2 := h.r2.kept g1 (by simp)
  have q3 := r2.set (.int .i64 (k : Int))
  have o1 := h.own.kept g1 (.inr (apart_box h.own h.r1 (by decide)))
  have o2 := o1.kept g2 (.inr (apart_box o1 r2 (by decide)))
  have hl : D < A.heap.size := (Array.getElem?_eq_some_iff.1 hK).1
  have s1 := g1.size
  have s2 := g2.size
  have hD2 : ((A.setCell ⟨w.heap.size + 1, 0, none⟩ va).setCell ⟨w.heap.size + 2, 0, none⟩ (.int .i64 (k : Int))).heap[D]? = some (.deferred (some [])) :=
    (g2.block D (by omega) (by simp; omega)).trans ((g1.block D hl (by simp; omega)).trans hK)
  have b5 : Below w.heap.size w ((A.setCell ⟨w.heap.size + 1, 0, none⟩ va).setCell ⟨w.heap.size + 2, 0, none⟩ (.int .i64 (k : Int))) :=
    (h.low.setCell (p := ⟨w.heap.size + 1, 0, none⟩) (by show w.heap.size ≤ w.heap.size + 1; omega) va).setCell (p := ⟨w.heap.size + 2, 0, none⟩) (by show w.heap.size ≤ w.heap.size + 2; omega) _
  generalize ((A.setCell ⟨w.heap.size + 1, 0, none⟩ va).setCell ⟨w.heap.size + 2, 0, none⟩ (.int .i64 (k : Int))) = W5 at *
  have q2d : Boxed W5.drew (w.heap.size + 1) 22 va := q2
  have q3d : Boxed W5.drew (w.heap.size + 2) 3 (.int .i64 (k : Int)) := q3
  have hDd : W5.drew.heap[D]? = some (.deferred (some [])) := hD2
  have gd := grownBy_putObj' W5.drew D (.deferred none)
  have o2d : OwnB W5.drew B0 va (q.take (64 * k)) := o2.below ((Below.refl _ _).drew)
  refine ⟨hDd, (q2d.kept gd (by simp; omega)).cell, (q3d.kept gd (by simp; omega)).cell, ?_, (b5.drew).grown gd ?_ (fun r e => by cases e; omega)⟩
  · have o3 : OwnB (W5.drew.putObj D (.deferred none)) B0 va (q.take (64 * k)) := ownsRow_kc o2d (Nat.zero_le _) (kc_putObj hDd rfl)
    exact o3.lower (by omega)
  · show w.heap.size ≤ W5.heap.size; omega
set_option maxRecDepth 100000 in
set_option maxHeartbeats 2000000 in
theorem join_any (B : Nat) (v : Value) (m : List UInt8) (K : Nat) (w : World) (hs : Sl w B v m) (hB : B ≤ w.heap.size) (hl : m.length ≤ 10000) (hK1 : 1 ≤ K) (hK2 : K ≤ 1000) :
    Calls Tryd.prog 8 #[v, .int .i64 (K : Int)] w fun e w' => ∃ v', e = .returned (.tuple #[v', .int .i64 ((min K ((m ++ padl m.length).length / 64) : Nat) : Int)]) ∧
      OwnB w' w.heap.size v' ((m ++ padl m.length).take (64 * min K ((m ++ padl m.length).length / 64))) ∧ Below w.heap.size w w' := by
  have HS := Lib.hid hs; clear hs
  have hpl : 0 < (m ++ padl m.length).length := by rw [List.length_append, padl_length]; omega
  have hql : (m ++ padl m.length).length ≤ 20000 := by rw [List.length_append, padl_length]; omega
  obtain ⟨q, hq⟩ : ∃ q, q = m ++ padl m.length := ⟨_, rfl⟩
  rw [← hq] at hpl hql ⊢
  have HQ := Lib.hid hq; clear hq
  refine (callsIn_wide (n := 10)).1 ?_
  refine callsIn_of_wp_marks Tryd.func8 rfl trivial ?_ rfl
  simp only [Tryd.ntmps8, List.size_toArray, List.length_cons, List.length_nil, Nat.reduceAdd, Nat.reduceSub, Array.replicate_succ, Array.replicate_zero, List.push_toArray, List.append_toArray, List.nil_append, List.cons_append]
  gi_wp2
  obtain ⟨W1, hW1⟩ : ∃ W1, W1 = ((((w.alloc (.cells #[.int .i64 (K : Int)] 3)).alloc (.cells #[.slice none 0 0] 22)).alloc (.cells #[.int .i64 0] 3)).alloc (.cells #[.slice none 0 0] 22)).alloc (.cells #[.int .i64 0] 3) := ⟨_, rfl⟩
  have z1 : W1.heap.size = w.heap.size + 5 := by rw [hW1]; simp
  have p0 : Boxed W1 w.heap.size 3 (.int .i64 (K : Int)) := by rw [hW1]; exact ((((Boxed.new w _ _).alloc _).alloc _).alloc _).alloc _
  have p1 : Boxed W1 (w.heap.size + 1) 22 (.slice none 0 0) := by
    have := Boxed.new (w.alloc (.cells #[.int .i64 (K : Int)] 3)) 22 (.slice none 0 0)
    rw [World.size_alloc] at this; rw [hW1]; exact ((this.alloc _).alloc _).alloc _
  have p2 : Boxed W1 (w.heap.size + 2) 3 (.int .i64 0) := by
    have := Boxed.new ((w.alloc (.cells #[.int .i64 (K : Int)] 3)).alloc (.cells #[.slice none 0 0] 22)) 3 (.int .i64 0)
    rw [World.size_alloc, World.size_alloc] at this; rw [hW1]; exact (this.alloc _).alloc _
  have p3 : Boxed W1 (w.heap.size + 3) 22 (.slice none 0 0) := by
    have := Boxed.new (((w.alloc (.cells #[.int .i64 (K : Int)] 3)).alloc (.cells #[.slice none 0 0] 22)).alloc (.cells #[.int .i64 0] 3)) 22 (.slice none 0 0)
    rw [World.size_alloc, World.size_alloc, World.size_alloc] at this; rw [hW1]; exact this.alloc _
  have p4 : Boxed W1 (w.heap.size + 4) 3 (.int .i64 0) := by
    have := Boxed.new ((((w.alloc (.cells #[.int .i64 (K : Int)] 3)).alloc (.cells #[.slice none 0 0] 22)).alloc (.cells #[.int .i64 0] 3)).alloc (.cells #[.slice none 0 0] 22)) 3 (.int .i64 0)
    rw [World.size_alloc, World.size_alloc, World.size_alloc, World.size_alloc] at this; rw [hW1]; exact this
  have l1 : Below w.heap.size w W1 := by rw [hW1]; exact (((((Below.refl _ _).alloc (Nat.le_refl _) _).alloc (by simp) _).alloc (by simp; omega) _).alloc (by simp; omega) _).alloc (by simp; omega) _
  simp only [Nat.add_assoc, Nat.reduceAdd]
  rw [← hW1]
  clear hW1
  have HS1 := Lib.hid (HS.out.below l1 hB)
  refine ⟨trivial, (callsIn_wide.2 (blocks_any B v m W1 HS1.out (by omega) (by omega))).mono ?_⟩
  rintro e w2 ⟨bx, vp, rfl, hbx, hBX, hO, hB2⟩
  rw [← HQ.out] at hO
  obtain ⟨b, cap, rfl, hg1, hg2, hg3, hg4, hbs, _⟩ := hO.form hpl
  unfold maxLen at hg4
  have hJ0 : Jn w K bx b cap q w2.heap.size 0 (.slice none 0 0) w2 :=
    ⟨(hB2.block _ p0.lt).trans p0, (hB2.block _ p1.lt).trans p1, (hB2.block _ p2.lt).trans p2, (hB2.block _ p3.lt).trans p3, (hB2.block _ p4.lt).trans p4, by simpa using OwnB.nil _ _, hBX.cell, hbs, l1.trans (hB2.mono (by omega)), Nat.le_refl _⟩
  have hz2 := hB2.size
  have hbl := hBX.lt
  obtain ⟨B0, hB0⟩ : ∃ B0, B0 = w2.heap.size := ⟨_, rfl⟩
  rw [← hB0] at hJ0 hg2 hbl hz2
  have HJ0 := Lib.hid hJ0; clear hJ0
  have HB0 := Lib.hid hB0
  have hseq := blocks1_seq (10 - 1) (by omega) w2 bx b 0 cap q (by omega) (by omega) (by omega) ⟨by omega, by omega⟩
  have HSQ := Lib.hid hseq; clear hseq
  clear hbs hBX hO hB2 p0 p1 p2 p3 p4 l1
  gi_wp2
  refine wpIn_rangeFunc_g rfl (by omega) (gf := gBk) (lb := #[.pointer (some ⟨bx, 0, none⟩)]) rfl trivial (fun _ _ => rfl) (encs := fun x : Pc => #[x.1]) StB (KT w2.heap.size) (BkY q) (fun xs => xs.length = q.length / 64) (fun A => A.cell? ⟨bx, 0, none⟩ = some (.slice (some ⟨b, 0, none⟩) q.length cap) ∧ Bs A b 0 q)
    (fun pre A => ∃ va, Jn w K bx b cap q B0 pre.length va A ∧ pre.length < K)
    (fun c pre A => c = .exit 0 ∧ ∃ va, Jn w K bx b cap q B0 K va A ∧ K ≤ q.length / 64)
    HSQ.out (fun pre A h => by obtain ⟨va, h, _⟩ := h; exact ⟨h.bq, h.bs⟩) (fun _ => rfl)
    (fun b' A B' k h hk hkA => by
      obtain ⟨row, hg, hr⟩ := h
      exact hg.block k hkA (fun e => by have := (hr k e.symm).1; omega))
    (fun b' A B' h => by obtain ⟨row, hg, hr⟩ := h; exact hg.size)
    (fun A B' C h1 h2 => fun g c t f hg ho ht => h2 g c t f hg (h1 g c t f hg ho ht) ht)
    (fun W l o o' hl ho hc => fun g c t f hg hco ht => by
      refine (World.putObj_heap_other (fun e => ?_)).trans hco
      subst e; rw [ho] at hco; cases hco; cases hc)
    (fun pre A B' h hst => by obtain ⟨va, h, hk⟩ := h; exact ⟨va, h.st hbl hg2 (by omega) (hst.mono (by omega)), hk⟩)
    (fun c pre A B' h hst => by obtain ⟨e, va, h, hk⟩ := h; exact ⟨e, va, h.st hbl hg2 (by omega) (hst.mono (by omega)), hk⟩)
    (fun pre A l o o' h hl ho hc => by obtain ⟨va, h, hk⟩ := h; exact ⟨va, h.st hbl hg2 (by omega) (StB.put (by omega) ho hc), hk⟩)
    (fun c pre A l o o' h hl ho hc => by obtain ⟨e, va, h, hk⟩ := h; exact ⟨e, va, h.st hbl hg2 (by omega) (StB.put (by omega) ho hc), hk⟩)
    (fun b' pre x A l o o' h hl ho hc => ⟨ownsRow_kc h.1 (Nat.zero_le _) (kc_putObj ho hc), h.2⟩)
    (fun W' hb hs => ⟨_, HJ0.out.st hbl hg2 (by omega) (StB.of_below hb (Nat.le_refl _)), hK1⟩)
    (fun x a' => a' = { tmps := #[v, .int .i64 (K : Int), undef, .pointer (some ⟨w.heap.size, 0, none⟩), .pointer (some ⟨w.heap.size + 1, 0, none⟩), .pointer (some ⟨w.heap.size + 2, 0, none⟩), .pointer (some ⟨w.heap.size + 3, 0, none⟩), .pointer (some ⟨w.heap.size + 4, 0, none⟩),
        x.1, v, .func (.func gBk) #[] #[.pointer (some ⟨bx, 0, none⟩)], x.1, undef, undef, undef, undef, undef, undef, undef, undef, undef, undef, undef, undef, undef], defers := [] })
    ?assign ?body ?done ?stop
  case assign =>
    rintro k x A K hK
    have HK := Lib.hid hK; clear hK
    gi_wp2
    exact HK.out _ rfl
  case done =>
    rintro D xs A hD hz hxs ⟨va, hJ, hk⟩ hK
    obtain ⟨cnt, hc1, hc2⟩ : ∃ cnt, xs.length = cnt ∧ min K (q.length / 64) = cnt := ⟨_, rfl, by omega⟩
    rw [hc1] at hJ
    gi_wp2
    obtain ⟨A4, c4, rfl, _⟩ := hJ.own.sl
    rw [List.length_take] at hJ
    have c6 := hJ.ba.cell
    have c7 := hJ.bn.cell
    have d4 := hJ.r1.cell
    have d5 := hJ.r2.cell
    have f4 := hJ.r1.frozen
    have f5 := hJ.r2.frozen
    obtain ⟨e1, e2, e3, e4, e5⟩ := hJ.fin (by omega) (show B0 ≤ D by omega) hK
    have E := Lib.hid (And.intro e1 (And.intro e2 (And.intro e3 (And.intro e4 e5)))); clear e1 e2 e3 e4 e5
    clear hJ
    gi_region
    all_goals (
      gi_wp2
      obtain ⟨e1, e2, e3, e4, e5⟩ := E.out
      refine ⟨by simp, .inl ⟨_, _, rfl, run_takeDeferred e1, ?_⟩⟩
      exact ⟨_, results_cell2 rfl _ _ _ _ _ _ _ rfl rfl (fun w => rfl) (fun w => rfl) e2 e3, _, by rw [hc2], by rw [hc2]; exact e4, e5⟩)
  case stop =>
    rintro D c pre A hD hz ⟨rfl, va, hJK, hk⟩ hK
    obtain ⟨cnt, hc1, hc2⟩ : ∃ cnt, K = cnt ∧ min K (q.length / 64) = cnt := ⟨_, rfl, by omega⟩
    have hJ : Jn w K bx b cap q B0 cnt va A := by rw [← hc1]; exact hJK
    clear hJK
    gi_wp2
    obtain ⟨A4, c4, rfl, _⟩ := hJ.own.sl
    rw [List.length_take] at hJ
    have c6 := hJ.ba.cell
    have c7 := hJ.bn.cell
    have d4 := hJ.r1.cell
    have d5 := hJ.r2.cell
    have f4 := hJ.r1.frozen
    have f5 := hJ.r2.frozen
    obtain ⟨e1, e2, e3, e4, e5⟩ := hJ.fin (by omega) (show B0 ≤ D by omega) hK
    have E := Lib.hid (And.intro e1 (And.intro e2 (And.intro e3 (And.intro e4 e5)))); clear e1 e2 e3 e4 e5
    clear hJ
    gi_region
    all_goals (
      gi_wp2
      obtain ⟨e1, e2, e3, e4, e5⟩ := E.out
      refine ⟨by simp, .inl ⟨_, _, rfl, run_takeDeferred e1, ?_⟩⟩
      exact ⟨_, results_cell2 rfl _ _ _ _ _ _ _ rfl rfl (fun w => rfl) (fun w => rfl) e2 e3, _, by rw [hc2], by rw [hc2]; exact e4, e5⟩)
  case body =>
    rintro k bb pre ⟨v0, l⟩ a' A hbb hbz ⟨va, hJ, hlt⟩ ⟨hO, hl2, hp⟩ rfl
    obtain ⟨k0, hk0⟩ : ∃ k0, k0 = pre.length := ⟨_, rfl⟩
    rw [← hk0] at hJ hlt hl2 hp
    simp only at hO hl2
    have hl64 : l.length = 64 := by rw [hl2, List.length_take, List.length_drop]; omega
    obtain ⟨g, c, rfl, _, _, hc64, _, hbs, _⟩ := hO.form (by omega)
    rw [hl64]
    have c6 := hJ.ba.cell
    have HJ := Lib.hid hJ
    have HBS := Lib.hid hbs; clear hbs hO
    have hsz := hJ.sz
    clear hJ
    obtain ⟨L, hL⟩ : ∃ L, L = q.take (64 * k0) := ⟨_, rfl⟩
    have hLl : L.length ≤ 20000 := by rw [hL, List.length_take]; omega
    have hown : OwnB A B0 va L := by rw [hL]; exact HJ.out.own
    have HOW := Lib.hid hown; clear hown
    have HLE := Lib.hid hL; clear hL
    have HL2 := Lib.hid hl2; clear hl2
    have HK0 := Lib.hid hk0; clear hk0
    rw [← HB0.out]
    by_cases hfull : k0 + 1 = K
    · have hde : (((k0 : Int) + 1 == (K : Int)) = true) := by rw [beq_iff_eq]; omega
      have HD := Lib.hid hfull; clear hfull
      gi_wp2_with (gi_at_builtin; refine wpListIn_appB rfl (.tmp 15) (.tmp 16) rfl B0 va L l rfl HOW.out g 0 64 c rfl hl64 HBS.out (by omega) hsz ?_; intro v5 A1 hO5 hg5; obtain ⟨A5, c5, rfl, _⟩ := hO5.sl; obtain ⟨n5, hn5⟩ : ∃ n5, n5 = (L ++ l).length := ⟨_, rfl⟩; rw [← hn5] at hO5 ⊢; clear hn5; obtain ⟨hJ7, hT7, hF7⟩ := HJ.out.step hbl hg2 (by omega) ⟨by omega, by omega⟩ (by rw [← HLE.out]; exact hO5) HL2.out hg5; have ba1 := HJ.out.ba.kept hg5 (fun e => by have := (HOW.out.lt _ e.symm).1; omega); have bn1 := (HJ.out.bn.kept hg5 (fun e => by have := (HOW.out.lt _ e.symm).1; omega)).kept (grown_set A1 ⟨w.heap.size + 3, 0, none⟩ (.slice A5 n5 c5)) (by simp); have n3 := ba1.cell; have n3' := ba1.frozen; have n4 := bn1.cell; have n4' := bn1.frozen; have m4 := hJ7.bn.cell; have m0 := hJ7.bm.cell; have HJ7 := Lib.hid hJ7; have HT7 := Lib.hid hT7; have HF7 := Lib.hid hF7; clear hJ7 hT7 hF7 hO5 hg5 ba1 bn1)
      exact ⟨HF7.out, rfl, _, by have := HJ7.out; rwa [HD.out] at this, by have := HD.out; omega⟩
    · have hde : (((k0 : Int) + 1 == (K : Int)) = false) := by rw [beq_eq_false_iff_ne]; omega
      have HD := Lib.hid hfull; clear hfull
      gi_wp2_with (gi_at_builtin; refine wpListIn_appB rfl (.tmp 15) (.tmp 16) rfl B0 va L l rfl HOW.out g 0 64 c rfl hl64 HBS.out (by omega) hsz ?_; intro v5 A1 hO5 hg5; obtain ⟨A5, c5, rfl, _⟩ := hO5.sl; obtain ⟨n5, hn5⟩ : ∃ n5, n5 = (L ++ l).length := ⟨_, rfl⟩; rw [← hn5] at hO5 ⊢; clear hn5; obtain ⟨hJ7, hT7, hF7⟩ := HJ.out.step hbl hg2 (by omega) ⟨by omega, by omega⟩ (by rw [← HLE.out]; exact hO5) HL2.out hg5; have ba1 := HJ.out.ba.kept hg5 (fun e => by have := (HOW.out.lt _ e.symm).1; omega); have bn1 := (HJ.out.bn.kept hg5 (fun e => by have := (HOW.out.lt _ e.symm).1; omega)).kept (grown_set A1 ⟨w.heap.size + 3, 0, none⟩ (.slice A5 n5 c5)) (by simp); have n3 := ba1.cell; have n3' := ba1.frozen; have n4 := bn1.cell; have n4' := bn1.frozen; have m4 := hJ7.bn.cell; have m0 := hJ7.bm.cell; have HJ7 := Lib.hid hJ7; have HT7 := Lib.hid hT7; have HF7 := Lib.hid hF7; clear hJ7 hT7 hF7 hO5 hg5 ba1 bn1)
      exact ⟨HF7.out, HT7.out, _, by rw [List.length_append, List.length_singleton, ← HK0.out]; exact HJ7.out, by have := HD.out; rw [List.length_append, List.length_singleton, ← HK0.out]; omega⟩
end Go.Proofs.YtmgbiefobkpafaaDoor
