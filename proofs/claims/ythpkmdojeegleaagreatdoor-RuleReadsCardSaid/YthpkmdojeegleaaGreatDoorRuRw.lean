/- The law's rules: a policy's first rules. -/
import Derived.Test.YthpkmdojeegleaaGreatDoorRuKf
set_option maxRecDepth 100000
namespace Go.Proofs.YthpkmdojeegleaaGreatDoor
open Go.RowKit Go.Shelf
attribute [local go_sem] Oper.semAt_some
abbrev tRf : TypeId := 33
abbrev tRfs : TypeId := 28
theorem wpListIn_appF2 {F : Fence} {n : Nat} {w : World} {ops : Array Oper} {rest : List Oper} {o : Oper} {a : Act} {Q : Exit → Act → World → Prop} (hgd : o.guard = none) (s x : Operand) (ho : o.op = .call { callee := .builtin .append, args := #[s, x], argTypes := #[tRfs, tRfs] })
    (base : Nat) (v : Value) (xs : List RuL) (hs : a.eval s = v) (hown : OwnR tRf w base v xs) (gb : Nat) (r : RuL) (hx : a.eval x = .slice (some ⟨gb, 0, none⟩) 1 1)
    (hnew : w.heap[gb]? = some (.cells (rcl r).toArray tRf (0, 0))) (hn : xs.length ≤ 100000) (hbase : base ≤ w.heap.size)
    (h : ∀ v' w', OwnR tRf w' base v' (xs ++ [r]) → w.grownBy w' v.ownBlock → wpListIn F n Tryz.prog ops Q rest (a.put o.dst v') w') : wpListIn F n Tryz.prog ops Q (o :: rest) a w := by
  obtain ⟨i0, hi, hz0, hz1, hz2⟩ := info_parts info_rr
  refine wpListIn_append_own w hgd s x tRfs ho base tRf i0 zagg 6 72 Tryz.underlying28 hi hz0 hz1 hz2 rfl (by decide) v xs.length (rcs xs) hs hown ⟨gb, 0, none⟩ 1 1 (rcl r) hx rfl (World.news_of_block hnew) (by simp [rcl, Value.oneCell']) (by unfold maxLen; omega) (by omega) hbase ?_
  intro v' w' h1 h2 _
  refine h v' w' ?_ h2
  unfold OwnR
  rw [List.length_append, rcs_snoc]
  exact h1
/-- rules, under way. -/
structure RwI (w : World) (most : Int) (po : Option Addr) (q v : Value) (xs : List RuL) (A : World) : Prop where
  bm : Boxed A w.heap.size 3 (.int .i64 most)
  br : Boxed A (w.heap.size + 1) tRfs q
  bo : Boxed A (w.heap.size + 2) tRfs v
  bp : Boxed A (w.heap.size + 3) tPol (.pointer po)
  own : OwnR tRf A (w.heap.size + 4) v xs
  low : Below w.heap.size w A
  sz : w.heap.size + 4 ≤ A.heap.size
section
variable {w A B : World} {most : Int} {po : Option Addr} {q v v' : Value} {xs xs' : List RuL}
theorem RwI.below (h : RwI w most po q v xs A) (hb : Below A.heap.size A B) : RwI w most po q v xs B :=
  ⟨(hb.block _ h.bm.lt).trans h.bm, (hb.block _ h.br.lt).trans h.br, (hb.block _ h.bo.lt).trans h.bo, (hb.block _ h.bp.lt).trans h.bp, h.own.below hb, h.low.trans (hb.mono h.low.size), Nat.le_trans h.sz hb.size⟩
theorem RwI.put {l : Nat} {o o' : Obj} (h : RwI w most po q v xs A) (hl : w.heap.size ≤ l) (ho : A.heap[l]? = some o) (hc : o.isCells = false) : RwI w most po q v xs (A.putObj l o') := by
  have hk := kc_putObj (b := 0) (o' := o') ho hc
  exact ⟨hk _ _ _ _ (Nat.zero_le _) h.bm, hk _ _ _ _ (Nat.zero_le _) h.br, hk _ _ _ _ (Nat.zero_le _) h.bo, hk _ _ _ _ (Nat.zero_le _) h.bp, ownsRow_putObj h.own _ ho hc,
    h.low.trans (below_own (B := w.heap.size) (Nat.le_refl _) (by have := h.sz; omega) (grownBy_putObj' A l o') (fun r e => by cases e; exact ⟨hl, o, ho, hc⟩)), by simpa [World.putObj] using h.sz⟩
theorem own_box {T : TypeId} {B : World} {base k : Nat} {v u : Value} {xs : List RuL} (h : OwnR T B base v xs) (hk : k < base) : OwnR T (B.setCell ⟨k, 0, none⟩ u) base v xs := by
  refine World.ownsRow.kept h (grown_set B ⟨k, 0, none⟩ u) ?_
  cases hv : v.ownBlock with
  | none => exact .inl rfl
  | some j => exact .inr (fun e => by injection e with e; have := (h.lt j hv).1; simp at e; omega)
theorem RwI.app (h : RwI w most po q v xs A) (hg : A.grownBy B v.ownBlock) (ho : OwnR tRf B (w.heap.size + 4) v' xs') : RwI w most po q v' xs' (B.setCell ⟨w.heap.size + 2, 0, none⟩ v') := by
  have hne : ∀ k, k < w.heap.size + 4 → v.ownBlock ≠ some k := fun k hk e => by have := (h.own.lt k e).1; omega
  have g1 := grown_set B ⟨w.heap.size + 2, 0, none⟩ v'
  have c0 := h.bm.kept hg (fun e => hne _ (by omega) e.symm)
  have c1 := h.br.kept hg (fun e => hne _ (by omega) e.symm)
  have c2 := h.bo.kept hg (fun e => hne _ (by omega) e.symm)
  have c3 := h.bp.kept hg (fun e => hne _ (by omega) e.symm)
  exact ⟨c0.kept g1 (by simp), c1.kept g1 (by simp), c2.set v', c3.kept g1 (by simp), own_box ho (by omega),
    (h.low.grown hg h.low.size (fun k e => by have := (h.own.lt k e).1; omega)).setCell (p := ⟨w.heap.size + 2, 0, none⟩) (by show w.heap.size ≤ w.heap.size + 2; omega) v', by have := h.sz; have := hg.size; have := g1.size; omega⟩
theorem RwI.res (h : RwI w most po q v xs A) (u : Value) : RwI w most po u v xs (A.setCell ⟨w.heap.size + 1, 0, none⟩ u) := by
  have g1 := grown_set A ⟨w.heap.size + 1, 0, none⟩ u
  exact ⟨h.bm.kept g1 (by simp), h.br.set u, h.bo.kept g1 (by simp), h.bp.kept g1 (by simp), own_box h.own (by omega),
    h.low.setCell (p := ⟨w.heap.size + 1, 0, none⟩) (by show w.heap.size ≤ w.heap.size + 1; omega) u, by have := h.sz; have := g1.size; omega⟩
theorem kf_row {T : TypeId} {b base : Nat} {v : Value} {xs : List RuL} {A B : World} (ho : OwnR T A base v xs) (hg : A.grownBy B v.ownBlock) : KeepsFrom b A B := by
  refine ⟨hg.size, fun k o _ hk hc => (hg.block k (Array.getElem?_eq_some_iff.1 hk).1 (fun e => ?_)).trans hk⟩
  rcases ho.2 with ⟨rfl, _⟩ | ⟨g, cap, cur, rfl, _, hgg, _⟩
  · cases e
  · simp only [Value.ownBlock] at e
    injection e with e
    rw [e, hgg] at hk
    cases hk
    cases hc
end
theorem fst_snoc (pre : List (RuL × Nat)) (x : RuL × Nat) : (pre ++ [x]).map (·.1) = pre.map (·.1) ++ [x.1] := by rw [List.map_append]; rfl
set_option maxHeartbeats 4000000 in
theorem rules_w (B : Nat) (pv : Value) (xs : List RuL) (most : Nat) (w : World) (hp : PolO w B pv xs) (hB : B ≤ w.heap.size) (hl : xs.length ≤ 5000) (hm : 1 ≤ most) (hm2 : most ≤ 1000) :
    Calls Tryz.prog 11 #[pv, .int .i64 (most : Int)] w fun e w' => ∃ u, e = .returned u ∧ OwnR tRf w' w.heap.size u (xs.take most) ∧ Below w.heap.size w w' := by
  obtain ⟨po, v, rfl, hpv⟩ := hp.openV
  have HPV := Lib.hid hpv
  clear hp hpv
  refine (callsIn_wide (n := 10)).1 ?_
  refine callsIn_of_wp_marks Tryz.func11 rfl trivial ?_ rfl
  simp only [Tryz.ntmps11, List.size_toArray, List.length_cons, List.length_nil, Nat.reduceAdd, Nat.reduceSub, Array.replicate_succ, Array.replicate_zero, List.push_toArray, List.append_toArray, List.nil_append, List.cons_append]
  gi_wp2
  refine ⟨trivial, (callsIn_wide.2 (rules_any po _)).mono ?_⟩
  rintro e W3 ⟨rfl, hW3⟩
  simp only [World.size_alloc, Nat.add_assoc, Nat.reduceAdd] at hW3 ⊢
  have q0 := ((((Boxed.new w 3 (.int .i64 (most : Int))).alloc (.cells #[.slice none 0 0] tRfs)).alloc (.cells #[.slice none 0 0] tRfs)).alloc (.cells #[.pointer po] tPol))
  have q1 := ((Boxed.new (w.alloc (.cells #[.int .i64 (most : Int)] 3)) tRfs (.slice none 0 0)).alloc (.cells #[.slice none 0 0] tRfs)).alloc (.cells #[.pointer po] tPol)
  simp only [World.size_alloc] at q1
  have q2 := (Boxed.new ((w.alloc (.cells #[.int .i64 (most : Int)] 3)).alloc (.cells #[.slice none 0 0] tRfs)) tRfs (.slice none 0 0)).alloc (.cells #[.pointer po] tPol)
  simp only [World.size_alloc, Nat.add_assoc, Nat.reduceAdd] at q2
  have q3 := Boxed.new (((w.alloc (.cells #[.int .i64 (most : Int)] 3)).alloc (.cells #[.slice none 0 0] tRfs)).alloc (.cells #[.slice none 0 0] tRfs)) tPol (.pointer po)
  simp only [World.size_alloc, Nat.add_assoc, Nat.reduceAdd] at q3
  have q7 := ((((Below.refl w.heap.size w).alloc (by simp; try omega) (.cells #[.int .i64 (most : Int)] 3)).alloc (by simp; try omega) (.cells #[.slice none 0 0] tRfs)).alloc (by simp; try omega) (.cells #[.slice none 0 0] tRfs)).alloc (by simp; try omega) (.cells #[.pointer po] tPol)
  have hP : RwI w most po (.slice none 0 0) (.slice none 0 0) [] W3 := by
    rw [hW3]
    exact ⟨q0, q1, q2, q3, OwnR.nil _ _ _, q7, by simp⟩
  clear hW3 q0 q1 q2 q3 q7
  have HSQ := Lib.hid (rules1_g (10 - 1) (by omega) (w.heap.size + 3) B po v xs hl W3)
  unfold RuY at HSQ
  have HP := Lib.hid hP
  have hz3 := hP.sz
  clear hP
  gi_wp2
  refine wpIn_rangeFunc_ga rfl (by omega) (gf := gRu) (lb := #[.pointer (some ⟨w.heap.size + 3, 0, none⟩)]) rfl trivial (fun _ _ => rfl) (encs := fun x : RuL × Nat => #[.int .i64 (x.2 : Int), ragg x.1]) StL (fun _ _ => True) (fun _ pre x _ => pre ++ [x] <+: xs.zipIdx) (fun ys => ys = xs.zipIdx)
    (RuIn (w.heap.size + 3) B po v xs)
    (fun pre A => pre.length < most ∧ ∃ u, RwI w most po (.slice none 0 0) u (pre.map (·.1)) A)
    (fun cd pre A => cd = .exit 0 ∧ pre.length = most ∧ pre <+: xs.zipIdx ∧ ∃ u, RwI w most po (.slice none 0 0) u (pre.map (·.1)) A)
    HSQ.out (fun pre A ⟨_, u, h⟩ => ⟨h.bp, HPV.out.below h.low hB⟩) (fun _ => rfl)
    (fun _ _ _ _ h _ hk => h.block _ hk) (fun _ _ _ h => h.size) (fun _ _ _ _ _ => trivial) (fun _ _ _ _ _ _ _ => trivial)
    (fun pre A B ⟨h1, u, h⟩ hst => ⟨h1, u, h.below hst⟩)
    (fun c pre A B ⟨h1, h2, h3, u, h⟩ hst => ⟨h1, h2, h3, u, h.below hst⟩)
    (fun pre A l o o' ⟨h1, u, h⟩ hl ho hc => ⟨h1, u, h.put (by omega) ho hc⟩)
    (fun c pre A l o o' ⟨h1, h2, h3, u, h⟩ hl ho hc => ⟨h1, h2, h3, u, h.put (by omega) ho hc⟩)
    (fun _ _ _ _ _ _ _ h _ _ _ => h)
    (fun W' hb hs => ⟨by simp; omega, _, HP.out.below hb⟩)
    (fun pre A B ⟨h1, u, h⟩ _ hb => ⟨h1, u, h.below hb⟩)
    (fun _ _ _ _ _ h _ => h) (fun _ _ _ => trivial)
    (fun x A a' V => V = A.alloc (.cells #[.bool x.1.allow, str x.1.role, str x.1.ten, str x.1.host, .int .i64 x.1.frm, .int .i64 x.1.til] 41) ∧ a' = { tmps := #[.pointer po, .int .i64 (most : Int), undef, .pointer (some ⟨w.heap.size, 0, none⟩), .pointer (some ⟨w.heap.size + 1, 0, none⟩), .pointer (some ⟨w.heap.size + 2, 0, none⟩), .int .i64 (x.2 : Int), .pointer (some ⟨A.heap.size, 0, none⟩), .pointer po, gvRu (w.heap.size + 3), .int .i64 (x.2 : Int), ragg x.1, undef, undef, undef, undef, undef, undef, undef, undef, undef, undef, undef, undef, undef], defers := [] })
    (fun x A a' V h => by rw [h.1]; exact (Below.refl _ A).alloc (Nat.le_refl _) _)
    ?assign ?body ?done ?stop
  case assign =>
    rintro k x A K hK
    have HK := Lib.hid hK; clear hK
    gi_wp2
    exact HK.out _ _ ⟨rfl, rfl⟩
  case done =>
    rintro D ys A hD hz rfl ⟨hlm, u, hJ⟩ hK
    have c1 := hJ.bo.cell
    have f0 := hJ.br.frozen
    have c0 := hJ.br.cell
    have hK2 : (A.setCell ⟨w.heap.size + 1, 0, none⟩ u).heap[D]? = some (.deferred (some [])) := ((grown_set A ⟨w.heap.size + 1, 0, none⟩ u).block D (Array.getElem?_eq_some_iff.1 hK).1 (fun e => by injection e with e; simp at e; omega)).trans hK
    have hform := hJ.own.form
    rw [List.length_map, List.length_zipIdx] at hform
    rw [List.length_zipIdx] at hlm
    have hJ2 := (hJ.res u).put (o' := .deferred none) (l := D) (by omega) hK2 rfl
    rw [List.zipIdx_map_fst] at hJ2
    have HJ3 := Lib.hid hJ2
    have HK := Lib.hid hK2
    obtain ⟨A2, c2, rfl, _, _⟩ := hform
    clear hJ hK hK2 hJ2
    gi_wp2
    show LeavesInM _ _ _ _ _ _ _ _ _
    refine ⟨by simp, .inl ⟨_, _, rfl, run_takeDeferred HK.out, ?_⟩⟩
    have p0 := HJ3.out.br.cell
    refine ⟨.slice A2 xs.length c2, by simp [results, Tryz.results11, go_sem, p0], _, rfl, ?_, HJ3.out.low⟩
    rw [List.take_of_length_le (by omega)]
    exact HJ3.out.own.le (by omega)
  case stop =>
    rintro D c pre A hD hz ⟨rfl, hlm, hpre, u, hJ⟩ hK
    have c1 := hJ.bo.cell
    have f0 := hJ.br.frozen
    have c0 := hJ.br.cell
    have hK2 : (A.setCell ⟨w.heap.size + 1, 0, none⟩ u).heap[D]? = some (.deferred (some [])) := ((grown_set A ⟨w.heap.size + 1, 0, none⟩ u).block D (Array.getElem?_eq_some_iff.1 hK).1 (fun e => by injection e with e; simp at e; omega)).trans hK
    have hform := hJ.own.form
    rw [List.length_map, hlm] at hform
    have hJ2 := (hJ.res u).put (o' := .deferred none) (l := D) (by omega) hK2 rfl
    have he : pre.map (·.1) = xs.take most := by
      rw [List.prefix_iff_eq_take.1 hpre, hlm, zip_fst]
    rw [he] at hJ2
    clear hlm
    have HJ3 := Lib.hid hJ2
    have HK := Lib.hid hK2
    obtain ⟨A2, c2, rfl, _, _⟩ := hform
    clear hJ hK hK2 hJ2 hpre he
    gi_wp2
    show LeavesInM _ _ _ _ _ _ _ _ _
    refine ⟨by simp, .inl ⟨_, _, rfl, run_takeDeferred HK.out, ?_⟩⟩
    have p0 := HJ3.out.br.cell
    exact ⟨.slice A2 most c2, by simp [results, Tryz.results11, go_sem, p0], _, rfl, HJ3.out.own.le (by omega), HJ3.out.low⟩
  case body =>
    rintro k bb pre x a' A hbb hbz ⟨hlm, u, hJ⟩ hpre ⟨A0, V, ⟨hV, rfl⟩, hkc, hA0⟩
    obtain ⟨eb, heb⟩ : ∃ eb, eb = A0.heap.size := ⟨_, rfl⟩
    have hb3 : Blk A eb (rcl x.1) := ⟨_, hkc _ _ _ _ (Nat.zero_le _) (by rw [hV, heb]; exact heap_alloc_new A0 _)⟩
    rw [← heb]
    clear hV hkc hA0 heb
    obtain ⟨hk1, hk2, hk3⟩ := zip_pre hpre
    have hx2 : x.2 = pre.length := by rw [hk2]
    have cm := hJ.bm.cell
    have co := hJ.bo.cell
    have hform := hJ.own.form
    rw [List.length_map] at hform
    obtain ⟨A2, c2, rfl, _, _⟩ := hform
    have d0 := hb3.at (o := 0) rfl
    have d1 := hb3.at (o := 1) rfl
    have d2 := hb3.at (o := 2) rfl
    have d3 := hb3.at (o := 3) rfl
    have d4 := hb3.at (o := 4) rfl
    have d5 := hb3.at (o := 5) rfl
    have HJ := Lib.hid hJ
    have HPR := Lib.hid hpre
    have HX1 := Lib.hid (show Below A.heap.size A (A.alloc (.cells #[.bool x.1.allow, str x.1.role, str x.1.ten, str x.1.host, .int .i64 x.1.frm, .int .i64 x.1.til] tRf)) from (Below.refl _ _).alloc (Nat.le_refl _) _)
    have HNW := Lib.hid (show (A.alloc (.cells #[.bool x.1.allow, str x.1.role, str x.1.ten, str x.1.host, .int .i64 x.1.frm, .int .i64 x.1.til] tRf)).heap[A.heap.size]? = some (.cells (rcl x.1).toArray tRf (0, 0)) from heap_alloc_new A _)
    have HXZ := Lib.hid (show w.heap.size + 4 ≤ (A.alloc (.cells #[.bool x.1.allow, str x.1.role, str x.1.ten, str x.1.host, .int .i64 x.1.frm, .int .i64 x.1.til] tRf)).heap.size from Nat.le_trans hJ.sz HX1.out.size)
    have hlen : (pre.map (·.1)).length ≤ 100000 := by rw [List.length_map]; omega
    rw [hx2]
    clear hJ hpre hb3 hk2 hk3
    gi_wp2_with (gi_at_builtin; refine wpListIn_appF2 rfl (.tmp 16) (.tmp 18) rfl (w.heap.size + 4) (.slice A2 pre.length c2) (pre.map (·.1)) rfl (HJ.out.own.below HX1.out) A.heap.size x.1 rfl HNW.out hlen HXZ.out ?_; intro v' X2 hv hg; rw [← fst_snoc] at hv; have hfo := hv.form; rw [List.length_map, List.length_append, List.length_singleton] at hfo; obtain ⟨A3, c3, e3, _, _⟩ := hfo; subst e3; have hia := (HJ.out.below HX1.out).app hg hv; have hb1 := ((HJ.out.below HX1.out).bo).kept hg (fun e => by have := ((HJ.out.own.below HX1.out).lt _ e.symm).1; omega); have hbc := hb1.cell; have hbf := hb1.frozen; have hrc := hia.bo.cell; have hmc := hia.bm.cell; have HIA := Lib.hid hia; have HKF := Lib.hid (((kf_low (b := W3.heap.size) HX1.out).trans (kf_row (HJ.out.own.below HX1.out) hg)).trans (kf_cells (p := ⟨w.heap.size + 2, 0, none⟩) hb1 (.slice A3 (pre.length + 1) c3))); clear hv hg hia hb1)
    · have he : pre.length + 1 = most := by
        have h : ((pre.length : Int) + 1 == (most : Int)) = true := by assumption
        have := beq_iff_eq.1 h
        omega
      exact ⟨HKF.out, rfl, by rw [List.length_append]; exact he, HPR.out, _, HIA.out⟩
    · have he : pre.length + 1 ≠ most := by
        intro e
        have h : ((pre.length : Int) + 1 == (most : Int)) = false := by assumption
        have := beq_eq_false_iff_ne.1 h
        omega
      exact ⟨HKF.out, trivial, by rw [List.length_append, List.length_singleton]; omega, _, HIA.out⟩
end Go.Proofs.YthpkmdojeegleaaGreatDoor
