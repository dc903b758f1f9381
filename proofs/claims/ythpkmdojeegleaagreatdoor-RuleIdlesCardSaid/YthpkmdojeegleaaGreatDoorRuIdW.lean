/- rule: Idle over a policy: two ranges over the rules, one in the round of the other. -/
import Derived.Test.YthpkmdojeegleaaGreatDoorRuIdN
import Derived.Test.YthpkmdojeegleaaGreatDoorRuIdR
import Derived.Test.YthpkmdojeegleaaGreatDoorRuCo
import Derived.Test.YthpkmdojeegleaaGreatDoorRangeGx
set_option maxRecDepth 100000
namespace Go.Proofs.YthpkmdojeegleaaGreatDoor
open Go.RowKit Go.Shelf
attribute [local go_sem] Oper.semAt_some
theorem OwnJ.form {w : World} {base : Nat} {v : Value} {ls : List Nat} (h : OwnJ w base v ls) : ∃ A c, v = .slice A ls.length c := by
  obtain ⟨h1, ⟨rfl, h2⟩ | ⟨g, cap, cur, h0, _⟩⟩ := h
  · exact ⟨none, 0, by rw [show ls.length = 0 from h2]⟩
  · exact ⟨_, _, h0⟩
theorem OwnJ.le {w : World} {base base' : Nat} {v : Value} {ls : List Nat} (h : OwnJ w base v ls) (hb : base' ≤ base) : OwnJ w base' v ls := by
  obtain ⟨h1, h2 | ⟨g, cap, cur, h0, hbg, hg, h3⟩⟩ := h
  · exact ⟨h1, .inl h2⟩
  · exact ⟨h1, .inr ⟨g, cap, cur, h0, by omega, hg, h3⟩⟩
/-- The walk's boxes, and the row that it fills. -/
structure IdP (w : World) (po : Option Addr) (v : Value) (ls : List Nat) (A : World) : Prop where
  b0 : Boxed A w.heap.size tPol (.pointer po)
  b1 : Boxed A (w.heap.size + 1) 50 v
  b2 : Boxed A (w.heap.size + 2) tPol (.pointer po)
  own : OwnJ A (w.heap.size + 3) v ls
  low : Below w.heap.size w A
  sz : w.heap.size + 3 ≤ A.heap.size
section
variable {w A B : World} {po : Option Addr} {v v' : Value} {ls ls' : List Nat}
theorem IdP.below (h : IdP w po v ls A) (hb : Below A.heap.size A B) : IdP w po v ls B :=
  ⟨(hb.block _ h.b0.lt).trans h.b0, (hb.block _ h.b1.lt).trans h.b1, (hb.block _ h.b2.lt).trans h.b2, h.own.below hb, h.low.trans (hb.mono h.low.size), Nat.le_trans h.sz hb.size⟩
theorem IdP.put {l : Nat} {o o' : Obj} (h : IdP w po v ls A) (hl : w.heap.size ≤ l) (ho : A.heap[l]? = some o) (hc : o.isCells = false) : IdP w po v ls (A.putObj l o') := by
  have hk := kc_putObj (b := 0) (o' := o') ho hc
  refine ⟨hk _ _ _ _ (Nat.zero_le _) h.b0, hk _ _ _ _ (Nat.zero_le _) h.b1, hk _ _ _ _ (Nat.zero_le _) h.b2, ownsRow_putObj h.own _ ho hc,
    h.low.trans (below_own (B := w.heap.size) (Nat.le_refl _) (by have := h.sz; omega) (grownBy_putObj' A l o') (fun r e => by cases e; exact ⟨hl, o, ho, hc⟩)), by simpa [World.putObj] using h.sz⟩
theorem IdP.app (h : IdP w po v ls A) (hg : A.grownBy B v.ownBlock) (ho : OwnJ B (w.heap.size + 3) v' ls') : IdP w po v' ls' (B.setCell ⟨w.heap.size + 1, 0, none⟩ v') := by
  have hne : ∀ k, k < w.heap.size + 3 → v.ownBlock ≠ some k := fun k hk e => by have := (h.own.lt k e).1; omega
  have g1 := grown_set B ⟨w.heap.size + 1, 0, none⟩ v'
  have c0 := h.b0.kept hg (fun e => hne _ (by omega) e.symm)
  have c1 := h.b1.kept hg (fun e => hne _ (by omega) e.symm)
  have c2 := h.b2.kept hg (fun e => hne _ (by omega) e.symm)
  refine ⟨c0.kept g1 (by simp), c1.set v', c2.kept g1 (by simp), World.ownsRow.kept ho g1 ?_,
    (h.low.grown hg h.low.size (fun k e => by have := (h.own.lt k e).1; omega)).setCell (p := ⟨w.heap.size + 1, 0, none⟩) (by show w.heap.size ≤ w.heap.size + 1; omega) v', by have := h.sz; have := hg.size; have := g1.size; omega⟩
  cases hv : v'.ownBlock with
  | none => exact .inl rfl
  | some k => exact .inr (fun e => by injection e with e; have := (ho.lt k hv).1; simp at e; omega)
end
/-- What the inner loop has gone through. -/
def NoC (x : RuL × Nat) (pre : List (RuL × Nat)) : Prop := ∀ y ∈ pre, y.2 ≠ x.2 ∧ coversB y.1 x.1 = false
theorem zip_pre {xs : List RuL} {pre : List (RuL × Nat)} {x : RuL × Nat} (h2 : pre ++ [x] <+: xs.zipIdx) : ∃ h : pre.length < xs.length, x = (xs[pre.length], pre.length) ∧ pre = xs.zipIdx.take pre.length := by
  have hl := h2.length_le
  rw [List.length_append, List.length_singleton, List.length_zipIdx] at hl
  have ht := List.prefix_iff_eq_take.1 h2
  rw [List.length_append, List.length_singleton, zip_take xs _ (by omega)] at ht
  obtain ⟨e1, e2⟩ := List.append_inj' ht rfl
  exact ⟨by omega, by simpa using e2, e1⟩
theorem idle_hit {xs : List RuL} {x y : RuL × Nat} {pre : List (RuL × Nat)} {k : Nat} (hk : k < xs.length) (hx : x = (xs[k], k)) (hN : NoC x pre) (hp : pre ++ [y] <+: xs.zipIdx) (hy : y.2 ≠ x.2) (hc : coversB y.1 x.1 = true) : idleK xs (k + 1) = idleK xs k ++ [k] := by
  obtain ⟨h1, h2, h3⟩ := zip_pre hp
  have hjk : pre.length < k := by
    rcases Nat.lt_trichotomy pre.length k with h | h | h
    · exact h
    · rw [h2, hx] at hy; exact absurd h hy
    · have hm : (xs[k], k) ∈ pre := by
        rw [h3]
        exact List.mem_take_iff_getElem.2 ⟨k, by simp; omega, by simp⟩
      exact absurd (by rw [hx]) (hN (xs[k], k) hm).1
  rw [idleK_succ, if_pos]
  have hg : xs.getD k zeroR = xs[k] := by rw [List.getD_eq_getElem?_getD, List.getElem?_eq_getElem hk]; rfl
  rw [hg]
  unfold idleB
  rw [List.any_eq_true]
  refine ⟨y.1, ?_, by rw [hx] at hc; exact hc⟩
  rw [h2]
  exact List.mem_take_iff_getElem.2 ⟨pre.length, by omega, rfl⟩
theorem idle_miss {xs : List RuL} {x y : RuL × Nat} {pre : List (RuL × Nat)} {k : Nat} (hk : k < xs.length) (hx : x = (xs[k], k)) (hN : NoC x pre) (hp : pre ++ [y] <+: xs.zipIdx) (hy : y.2 = x.2) : idleK xs (k + 1) = idleK xs k := by
  obtain ⟨h1, h2, h3⟩ := zip_pre hp
  have hjk : pre.length = k := by rw [h2, hx] at hy; exact hy
  rw [idleK_succ, if_neg, List.append_nil]
  have hg : xs.getD k zeroR = xs[k] := by rw [List.getD_eq_getElem?_getD, List.getElem?_eq_getElem hk]; rfl
  rw [hg]
  unfold idleB
  rw [List.any_eq_true]
  rintro ⟨r, hr, hc⟩
  rw [← zip_fst, ← hjk, ← h3] at hr
  obtain ⟨z, hz, rfl⟩ := List.mem_map.1 hr
  have := (hN z hz).2
  rw [hx] at this
  rw [this] at hc
  cases hc
theorem idle_all {xs : List RuL} {x : RuL × Nat} {k : Nat} (hk : k < xs.length) (hx : x = (xs[k], k)) (hN : NoC x xs.zipIdx) : False := by
  refine (hN x ?_).1 rfl
  rw [hx]
  exact List.mem_iff_getElem.2 ⟨k, by simp; omega, by simp⟩
theorem kf_low {b : Nat} {A B : World} (h : Below A.heap.size A B) : KeepsFrom b A B := ⟨h.size, fun k _ _ ho _ => (h.block k (Array.getElem?_eq_some_iff.1 ho).1).trans ho⟩
theorem kf_cells {W : World} {b : Nat} {p : Addr} {c : Array Value} {t : TypeId} (hp : W.heap[p.block]? = some (Obj.cells c t (0, 0))) (u : Value) : KeepsFrom b W (W.setCell p u) := by
  have g1 := grown_set W p u
  refine ⟨g1.size, fun k o _ ho hc => (g1.block k (Array.getElem?_eq_some_iff.1 ho).1 (fun e => ?_)).trans ho⟩
  injection e with e
  rw [e, hp] at ho
  cases ho
  cases hc
theorem kf_own {b base : Nat} {v : Value} {ls : List Nat} {A B : World} (ho : OwnJ A base v ls) (hg : A.grownBy B v.ownBlock) : KeepsFrom b A B := by
  refine ⟨hg.size, fun k o _ hk hc => (hg.block k (Array.getElem?_eq_some_iff.1 hk).1 (fun e => ?_)).trans hk⟩
  rcases ho.2 with ⟨rfl, _⟩ | ⟨g, cap, cur, rfl, _, hgg, _⟩
  · cases e
  · simp only [Value.ownBlock] at e
    injection e with e
    rw [e, hgg] at hk
    cases hk
    cases hc
theorem wpListIn_appJ {F : Fence} {n : Nat} {w : World} {ops : Array Oper} {rest : List Oper} {o : Oper} {a : Act} {Q : Exit → Act → World → Prop} (hgd : o.guard = none) (s x : Operand) (ho : o.op = .call { callee := .builtin .append, args := #[s, x], argTypes := #[50, 50] })
    (base : Nat) (v : Value) (l : List Nat) (y : Nat) (hs : a.eval s = v) (hown : OwnJ w base v l) (sb c : Nat) (hx : a.eval x = .slice (some ⟨sb, 0, none⟩) 1 c) (hsrc : w.cell? ⟨sb, 0, none⟩ = some (jv y))
    (hlen : l.length ≤ 1000000) (hbase : base ≤ w.heap.size)
    (h : ∀ v' w', OwnJ w' base v' (l ++ [y]) → w.grownBy w' v.ownBlock → wpListIn F n Tryz.prog ops Q rest (a.put o.dst v') w') : wpListIn F n Tryz.prog ops Q (o :: rest) a w := by
  obtain ⟨i0, hi, hz0, hz1, hz2⟩ := info_parts info_j
  refine wpListIn_append_own w hgd s x 50 ho base 3 i0 (.int .i64 0) 1 8 Tryz.underlying50 hi hz0 hz1 hz2 rfl (by decide) v l.length (l.map jv) hs hown ⟨sb, 0, none⟩ 1 c [jv y] hx rfl ?_ (by simp [jv, Value.oneCell']) (by unfold maxLen; omega) (by omega) hbase ?_
  · intro j u hu
    match j, hu with
    | 0, hu => cases hu; exact hsrc
    | j + 1, hu => simp at hu
  · intro v' w' h1 h2 _
    refine h v' w' ?_ h2
    unfold OwnJ
    rw [List.length_append, List.map_append]
    exact h1
/-- The inner loop under way. -/
structure InP (w : World) (po : Option Addr) (u : Value) (ls : List Nat) (x : RuL × Nat) (ib cb N : Nat) (A0 A : World) : Prop where
  idp : IdP w po u ls A
  bi : Boxed A ib 3 (.int .i64 (x.2 : Int))
  br : Blk A (ib + 1) (rcl x.1)
  bc : Boxed A cb tPol (.pointer po)
  kf : KeepsFrom N A0 A
section
variable {w A0 A B : World} {po : Option Addr} {u : Value} {ls : List Nat} {x : RuL × Nat} {ib cb N : Nat}
theorem InP.below (h : InP w po u ls x ib cb N A0 A) (hb : Below A.heap.size A B) : InP w po u ls x ib cb N A0 B :=
  ⟨h.idp.below hb, (hb.block _ h.bi.lt).trans h.bi, h.br.below hb h.br.lt, (hb.block _ h.bc.lt).trans h.bc, h.kf.trans (kf_low hb)⟩
theorem InP.put {l : Nat} {o o' : Obj} (h : InP w po u ls x ib cb N A0 A) (hl : A0.heap.size ≤ l) (hw : w.heap.size ≤ l) (ho : A.heap[l]? = some o) (hc : o.isCells = false) : InP w po u ls x ib cb N A0 (A.putObj l o') := by
  have hk := kc_putObj (b := 0) (o' := o') ho hc
  refine ⟨h.idp.put hw ho hc, hk _ _ _ _ (Nat.zero_le _) h.bi, ?_, hk _ _ _ _ (Nat.zero_le _) h.bc, ⟨by simpa [World.putObj] using h.kf.size, fun k q hk hq hqc => ?_⟩⟩
  · obtain ⟨t, ht⟩ := h.br
    exact ⟨t, hk _ _ _ _ (Nat.zero_le _) ht⟩
  · have := (Array.getElem?_eq_some_iff.1 hq).1
    exact (World.putObj_heap_other (by omega)).trans (h.kf.same k q hk hq hqc)
end
set_option maxHeartbeats 4000000 in
theorem idle_any (B : Nat) (pv : Value) (xs : List RuL) (w : World) (hp : PolO w B pv xs) (hB : B ≤ w.heap.size) (hs : ∀ r ∈ xs, SmallR r) (hE : Env w) (hl : xs.length ≤ 5000) :
    Calls Tryz.prog 20 #[pv] w fun e w' => ∃ u, e = .returned u ∧ OwnJ w' w.heap.size u (idleK xs xs.length) ∧ Below w.heap.size w w' := by
  obtain ⟨po, v, rfl, hpv⟩ := hp.openV
  have HPV := Lib.hid hpv
  have HE := Lib.hid hE
  have HS := Lib.hid hs
  clear hp hpv hE hs
  refine (callsIn_wide (n := 10)).1 ?_
  refine callsIn_of_wp_marks Tryz.func20 rfl trivial ?_ rfl
  simp only [Tryz.ntmps20, List.size_toArray, List.length_cons, List.length_nil, Nat.reduceAdd, Nat.reduceSub, Array.replicate_succ, Array.replicate_zero, List.push_toArray, List.append_toArray, List.nil_append, List.cons_append]
  gi_wp2
  refine wpIn_scopeR ?_
  gi_wp2
  refine wpIn_label ?_
  gi_wp2
  refine ⟨trivial, (callsIn_wide.2 (rules_any po _)).mono ?_⟩
  rintro e W3 ⟨rfl, hW3⟩
  simp only [World.size_alloc, Nat.add_assoc, Nat.reduceAdd] at hW3 ⊢
  have q0 := ((Boxed.new w tPol (.pointer po)).alloc (.cells #[.slice none 0 0] 50)).alloc (.cells #[.pointer po] tPol)
  have q1 := (Boxed.new (w.alloc (.cells #[.pointer po] tPol)) 50 (.slice none 0 0)).alloc (.cells #[.pointer po] tPol)
  simp only [World.size_alloc] at q1
  have q2 := Boxed.new ((w.alloc (.cells #[.pointer po] tPol)).alloc (.cells #[.slice none 0 0] 50)) tPol (.pointer po)
  simp only [World.size_alloc, Nat.add_assoc, Nat.reduceAdd] at q2
  have q7 := (((Below.refl w.heap.size w).alloc (by simp; try omega) (.cells #[.pointer po] tPol)).alloc (by simp; try omega) (.cells #[.slice none 0 0] 50)).alloc (by simp; try omega) (.cells #[.pointer po] tPol)
  have hP : IdP w po (.slice none 0 0) [] W3 := by
    rw [hW3]
    exact ⟨q0, q1, q2, OwnJ.nil _ _, q7, by simp⟩
  clear hW3 q0 q1 q2 q7
  have HSQ := Lib.hid (rules1_g (10 - 1) (by omega) (w.heap.size + 2) B po v xs hl W3)
  unfold RuY at HSQ
  have HP := Lib.hid hP
  have hz3 := hP.sz
  clear hP
  gi_wp2
  refine wpIn_rangeFunc_gh rfl (by omega) (gf := gRu) (lb := #[.pointer (some ⟨w.heap.size + 2, 0, none⟩)]) rfl trivial (fun _ _ => rfl) (encs := fun x : RuL × Nat => #[.int .i64 (x.2 : Int), ragg x.1]) StL (fun _ _ => True) (fun _ pre x _ => pre ++ [x] <+: xs.zipIdx) (fun ys => ys = xs.zipIdx)
    (RuIn (w.heap.size + 2) B po v xs)
    (fun pre A => ∃ u, IdP w po u (idleK xs pre.length) A)
    (fun cd pre A => False)
    HSQ.out (fun pre A ⟨u, h⟩ => ⟨h.b2, HPV.out.below h.low hB⟩) (fun _ => rfl)
    (fun _ _ _ _ h _ hk => h.block _ hk) (fun _ _ _ h => h.size) (fun _ _ _ _ _ => trivial) (fun _ _ _ _ _ _ _ => trivial)
    (fun pre A B ⟨u, h⟩ hst => ⟨u, h.below hst⟩)
    (fun c pre A B h hst => h)
    (fun pre A l o o' ⟨u, h⟩ hl ho hc => ⟨u, h.put (by omega) ho hc⟩)
    (fun c pre A l o o' h hl ho hc => h)
    (fun _ _ _ _ _ _ _ h _ _ _ => h)
    (fun W' hb hs => ⟨_, HP.out.below hb⟩)
    (fun pre A B ⟨u, h⟩ _ hb => ⟨u, h.below hb⟩)
    (fun _ _ _ _ _ h _ => h) (fun _ _ _ => trivial)
    (fun x A a' V => V = (A.alloc (.cells #[.int .i64 (x.2 : Int)] 3)).alloc (.cells #[.bool x.1.allow, str x.1.role, str x.1.ten, str x.1.host, .int .i64 x.1.frm, .int .i64 x.1.til] 41) ∧ a' = { tmps := #[.pointer po, .pointer (some ⟨w.heap.size, 0, none⟩), .slice none 0 0, .pointer (some ⟨w.heap.size + 1, 0, none⟩), .pointer (some ⟨A.heap.size, 0, none⟩), .pointer (some ⟨A.heap.size + 1, 0, none⟩), undef, undef, .pointer po, gvRu (w.heap.size + 2), .int .i64 (x.2 : Int), ragg x.1, undef, undef, undef, undef, undef, undef, undef, undef, undef, undef, undef, undef, undef, undef, undef], defers := [] })
    (fun x A a' V h => by rw [h.1]; exact ((Below.refl _ A).alloc (Nat.le_refl _) _).alloc (by simp) _)
    ?assign ?body ?done ?stop
  case assign =>
    rintro k x A K hK
    have HK := Lib.hid hK; clear hK
    gi_wp2
    exact HK.out _ _ ⟨rfl, by simp⟩
  case done =>
    rintro D ys A hD hz rfl ⟨u, hJ⟩ hK
    have c1 := hJ.b1.cell
    have HJ3 := Lib.hid (hJ.put (o' := .deferred none) (l := D) (by omega) hK rfl)
    have HK := Lib.hid hK
    clear hJ hK
    gi_wp2
    show LeavesInM _ _ _ _ _ _ _ _ _
    refine ⟨by simp, .inl ⟨_, _, rfl, run_takeDeferred HK.out, ?_⟩⟩
    have ho := HJ3.out.own
    rw [List.length_zipIdx] at ho
    exact ⟨u, by simp [results, Tryz.results20, go_sem], u, rfl, OwnJ.le ho (by omega), HJ3.out.low⟩
  case stop =>
    rintro D c pre A hD hz h hK
    exact h.elim
  case body =>
    rintro k bb pre x a' A hlk hrk hbb hbz ⟨u, hJ⟩ hpre ⟨A0, V, ⟨hV, rfl⟩, hkc, hA0⟩
    obtain ⟨r0, hr0⟩ := hrk
    have c0 := hJ.b0.cell
    obtain ⟨ib, hib⟩ : ∃ ib, ib = A0.heap.size := ⟨_, rfl⟩
    have hb1 : Boxed A ib 3 (.int .i64 (x.2 : Int)) := hkc _ _ _ _ (Nat.zero_le _) (by rw [hV, hib]; exact (Below.heap_alloc _ _ _ (by simp)).trans (heap_alloc_new A0 _))
    have hb2 : Blk A (ib + 1) (rcl x.1) := ⟨_, hkc _ _ _ _ (Nat.zero_le _) (by rw [hV, hib]; have h := heap_alloc_new (A0.alloc (.cells #[.int .i64 (x.2 : Int)] 3)) (.cells #[.bool x.1.allow, str x.1.role, str x.1.ten, str x.1.host, .int .i64 x.1.frm, .int .i64 x.1.til] 41); rw [World.size_alloc] at h; exact h)⟩
    rw [← hib]
    have hA0' : W3.heap.size + 2 ≤ ib := by rw [hib]; exact hA0
    clear hV hkc hA0 hib
    gi_wp2
    refine ⟨trivial, (CallsIn.inRound k (callsIn_wide.2 (rules_any po _))).mono ?_⟩
    rintro e A5 ⟨rfl, hA5⟩
    have hbl5 : Below A.heap.size A A5 := by rw [hA5]; exact (Below.refl _ _).alloc (Nat.le_refl _) _
    have hI0 : InP w po u (idleK xs pre.length) x ib A.heap.size W3.heap.size A A5 := ⟨hJ.below hbl5, (hbl5.block _ hb1.lt).trans hb1, hb2.below hbl5 hb2.lt, by rw [hA5]; exact Boxed.new _ _ _, kf_low hbl5⟩
    have hr5 : A5.heap[k]? = some (.loop r0) := (hbl5.block _ (Array.getElem?_eq_some_iff.1 hr0).1).trans hr0
    have hz5 : A5.heap.size = A.heap.size + 1 := by rw [hA5]; simp
    have HSQ2 := Lib.hid (rules1_g (8 - 1) (by omega) A.heap.size B po v xs hl A5)
    unfold RuY at HSQ2
    have HI0 := Lib.hid hI0
    obtain ⟨hk1, hk2, hk3⟩ := zip_pre hpre
    have HK2 := Lib.hid hk2
    have HRS := Lib.hid (show SmallR x.1 from by rw [hk2]; exact HS.out _ (List.getElem_mem hk1))
    have hjz := hJ.sz
    have HJL := Lib.hid hJ.low
    have hLE := idleK_le xs pre.length
    clear hI0 hbl5 hA5 hb1 hb2 c0 hJ hpre hk2 hk3 hr0
    gi_wp2
    refine wpIn_rangeFunc_gn (l₀ := k) rfl hr5 (by omega) (gf := gRu) (lb := #[.pointer (some ⟨A.heap.size, 0, none⟩)]) rfl trivial (fun _ _ => rfl) (encs := fun x : RuL × Nat => #[.int .i64 (x.2 : Int), ragg x.1]) StL (fun _ _ => True) (fun _ pre x _ => pre ++ [x] <+: xs.zipIdx) (fun ys => ys = xs.zipIdx)
      (RuIn A.heap.size B po v xs)
      (fun pr A' => NoC x pr ∧ InP w po u (idleK xs pre.length) x ib A.heap.size W3.heap.size A A')
      (fun cd pr A' => cd = .exit 1 ∧ (∃ u', IdP w po u' (idleK xs (pre.length + 1)) A') ∧ KeepsFrom W3.heap.size A A')
      HSQ2.out (fun pr A' h => ⟨h.2.bc, HPV.out.below h.2.idp.low hB⟩) (fun _ => rfl)
      (fun _ _ _ _ h _ hk => h.block _ hk) (fun _ _ _ h => h.size) (fun _ _ _ _ _ => trivial) (fun _ _ _ _ _ _ _ => trivial)
      (fun pr X Y h hst => ⟨h.1, h.2.below hst⟩)
      (fun c pr X Y h hst => ⟨h.1, ⟨h.2.1.choose, h.2.1.choose_spec.below hst⟩, h.2.2.trans (kf_low hst)⟩)
      (fun pr X l o o' h hl ho hc => ⟨h.1, h.2.put (by omega) (by omega) ho hc⟩)
      (fun c pr X l o o' h hl ho hc => ⟨h.1, ⟨h.2.1.choose, h.2.1.choose_spec.put (by omega) ho hc⟩, ⟨by simpa [World.putObj] using h.2.2.size, fun i q hi hq hqc => by have := (Array.getElem?_eq_some_iff.1 hq).1; exact (World.putObj_heap_other (by omega)).trans (h.2.2.same i q hi hq hqc)⟩⟩)
      (fun _ _ _ _ _ _ _ h _ _ _ => h)
      (fun W' hb hs => ⟨fun _ h => (by cases h), HI0.out.below hb⟩)
      (fun pr X Y h _ hb => ⟨h.1, h.2.below hb⟩)
      (fun _ _ _ _ _ h _ => h) (fun _ _ _ => trivial)
      (fun y X a' V => V = X.alloc (.cells #[.bool y.1.allow, str y.1.role, str y.1.ten, str y.1.host, .int .i64 y.1.frm, .int .i64 y.1.til] 41) ∧ a' = { tmps := #[.pointer po, .pointer (some ⟨w.heap.size, 0, none⟩), .slice none 0 0, .pointer (some ⟨w.heap.size + 1, 0, none⟩), .pointer (some ⟨ib, 0, none⟩), .pointer (some ⟨ib + 1, 0, none⟩), .int .i64 (y.2 : Int), .pointer (some ⟨X.heap.size, 0, none⟩), .pointer po, gvRu (w.heap.size + 2), .int .i64 (x.2 : Int), ragg x.1, .pointer po, gvRu A.heap.size, .int .i64 (y.2 : Int), ragg y.1, undef, undef, undef, undef, undef, undef, undef, undef, undef, undef, undef], defers := [] })
      (fun y X a' V h => by rw [h.1]; exact (Below.refl _ X).alloc (Nat.le_refl _) _)
      ?assign ?ibody ?idone ?istop
    case assign =>
      rintro k2 y X K hK
      have HK := Lib.hid hK; clear hK
      gi_wp2
      exact HK.out _ _ ⟨rfl, rfl⟩
    case idone =>
      rintro ys X hz rfl ⟨hN, _⟩
      exact (idle_all hk1 HK2.out hN).elim
    case istop =>
      rintro c pr X hz ⟨rfl, ⟨u', hu⟩, hkf⟩
      gi_wp2
      exact ⟨hkf, trivial, u', by rw [List.length_append]; exact hu⟩
    case ibody =>
      rintro k2 bb2 pr y a' X hlk2 hrk2 hbb2 hbz2 ⟨hN, hI⟩ hpr ⟨X0, V, ⟨hV, rfl⟩, hkc, hX0⟩
      obtain ⟨eb, heb⟩ : ∃ eb, eb = X0.heap.size := ⟨_, rfl⟩
      have hb3 : Blk X eb (rcl y.1) := ⟨_, hkc _ _ _ _ (Nat.zero_le _) (by rw [hV, heb]; exact heap_alloc_new X0 _)⟩
      rw [← heb]
      clear hV hkc hX0 heb hrk2
      have ci := hI.bi.cell
      have HI := Lib.hid hI
      have HN := Lib.hid hN
      have HPR := Lib.hid hpr
      obtain ⟨i, hi⟩ : ∃ i : Int, i = (x.2 : Int) := ⟨_, rfl⟩
      obtain ⟨j, hj⟩ : ∃ j : Int, j = (y.2 : Int) := ⟨_, rfl⟩
      rw [← hi] at ci
      rw [← hi, ← hj]
      by_cases hji : j = i
      · have HIJ := Lib.hid (show y.2 = x.2 from by omega)
        subst hji
        clear hI hN hpr
        gi_wp2
        exact ⟨KeepsFrom.refl _ _, rfl, ⟨u, by rw [idle_miss hk1 HK2.out HN.out HPR.out HIJ.out]; exact HI.out.idp⟩, HI.out.kf⟩
      · have HIJ := Lib.hid (show y.2 ≠ x.2 from by omega)
        have hyx : SmallR y.1 := by
          obtain ⟨h1, h2, _⟩ := zip_pre hpr
          rw [h2]
          exact HS.out _ (List.getElem_mem h1)
        have HC := Lib.hid (fun W (h : Env W) => covers_any y.1 x.1 W h hyx HRS.out)
        obtain ⟨P, hP⟩ : ∃ P, P = coversB y.1 x.1 := ⟨_, rfl⟩
        rw [← hP] at HC
        have HP := Lib.hid hP
        have HEX := Lib.hid (HE.out.below hI.idp.low)
        have hjf : (j == i) = false := by rw [beq_eq_false_iff_ne]; exact hji
        have d0 := hb3.at (o := 0) rfl
        have d1 := hb3.at (o := 1) rfl
        have d2 := hb3.at (o := 2) rfl
        have d3 := hb3.at (o := 3) rfl
        have d4 := hb3.at (o := 4) rfl
        have d5 := hb3.at (o := 5) rfl
        have f0 := hI.br.at (o := 0) rfl
        have f1 := hI.br.at (o := 1) rfl
        have f2 := hI.br.at (o := 2) rfl
        have f3 := hI.br.at (o := 3) rfl
        have f4 := hI.br.at (o := 4) rfl
        have f5 := hI.br.at (o := 5) rfl
        clear hI hN hpr hyx hP hb3
        gi_wp2
        refine ⟨trivial, (CallsIn.inRound k2 (CallsIn.inRound k (callsIn_wide.2 (HC.out _ HEX.out)))).mono ?_⟩
        rintro e X1 ⟨rfl, hBX⟩
        have HI1 := Lib.hid (HI.out.below hBX)
        have HBX := Lib.hid hBX
        clear hBX d0 d1 d2 d3 d4 d5 f0 f1 f2 f3 f4 f5 ci hji
        cases P with
        | false =>
          gi_wp2
          refine ⟨kf_low HBX.out, trivial, ?_, HI1.out⟩
          intro z hz
          rcases List.mem_append.1 hz with hz | hz
          · exact HN.out z hz
          · obtain rfl := List.mem_singleton.1 hz
            exact ⟨HIJ.out, HP.out.symm⟩
        | true =>
          have cv := HI1.out.idp.b1.cell
          have cu := HI1.out.idp.own
          have ci := HI1.out.bi.cell
          have HCU := Lib.hid cu
          have HX1 := Lib.hid (show Below X1.heap.size X1 (X1.alloc (.cells #[.int .i64 (x.2 : Int)] 3)) from (Below.refl _ _).alloc (Nat.le_refl _) _)
          have HSC := Lib.hid (show (X1.alloc (.cells #[.int .i64 (x.2 : Int)] 3)).cell? ⟨X1.heap.size, 0, none⟩ = some (jv x.2) from (Blk.new X1 [.int .i64 (x.2 : Int)] 3).at (o := 0) rfl)
          have HXZ := Lib.hid (show w.heap.size + 3 ≤ (X1.alloc (.cells #[.int .i64 (x.2 : Int)] 3)).heap.size from Nat.le_trans HI1.out.idp.sz HX1.out.size)
          have HID := Lib.hid (show idleK xs (pre.length + 1) = idleK xs pre.length ++ [x.2] from by rw [idle_hit hk1 HK2.out HN.out HPR.out HIJ.out HP.out.symm]; rw [show x.2 = pre.length from by rw [HK2.out]])
          clear cu
          gi_wp2_with (gi_at_builtin; refine wpListIn_appJ rfl (.tmp 22) (.tmp 24) rfl (w.heap.size + 3) u (idleK xs pre.length) x.2 rfl (HCU.out.below HX1.out) X1.heap.size 1 rfl HSC.out (by omega) HXZ.out ?_; intro v' X2 hv hg; obtain ⟨A2, c2, e2⟩ := hv.form; rw [List.length_append, List.length_singleton] at e2; subst e2; have hia := (HI1.out.idp.below HX1.out).app hg hv; have hc := hia.b1; have hb1 := (((HI1.out.idp.below HX1.out).b1).kept hg (fun e => by have := ((HCU.out.below HX1.out).lt _ e.symm).1; omega)); have hbc := hb1.cell; have hbf := hb1.frozen; have HIA := Lib.hid hia; have HB1 := Lib.hid hb1; have HKF := Lib.hid ((kf_low (b := W3.heap.size) HX1.out).trans (kf_own (b := W3.heap.size) (HCU.out.below HX1.out) hg)); have HKG := Lib.hid ((kf_low (b := A5.heap.size) HX1.out).trans (kf_own (b := A5.heap.size) (HCU.out.below HX1.out) hg)); clear hv hg hia hb1)
          refine ⟨(kf_low HBX.out).trans (HKG.out.trans (kf_cells (p := ⟨w.heap.size + 1, 0, none⟩) HB1.out _)), rfl, ⟨_, by rw [HID.out]; exact HIA.out⟩, HI1.out.kf.trans (HKF.out.trans (kf_cells (p := ⟨w.heap.size + 1, 0, none⟩) HB1.out _))⟩
end Go.Proofs.YthpkmdojeegleaaGreatDoor
