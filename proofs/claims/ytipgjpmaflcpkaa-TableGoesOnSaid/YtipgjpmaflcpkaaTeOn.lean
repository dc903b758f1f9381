/- TableGoesOn: what is kept between its steps. -/
import Derived.Test.YtipgjpmaflcpkaaTePlays
import Derived.Test.YtipgjpmaflcpkaaRegR
import Derived.Test.YtipgjpmaflcpkaaReg
set_option maxRecDepth 100000
namespace Go.Proofs.Ytipgjpmaflcpkaa
open Go.RowKit Go.Shelf
abbrev tOs : TypeId := 22
abbrev tPT : TypeId := 24
abbrev tPX : TypeId := 28
section
variable {w w1 w2 w' A B : World} {b0 T m cap X tb xb : Nat} {xs xs1 : List Nd} {vd : Value}
theorem St2.kt (h : St2 w w1 b0 T m cap X xs xs1) (h0 : DX w b0 T m cap X xs) {k : Nat} {c : Array Value} {t : TypeId} {f : Nat × Nat} (hk : w.heap[k]? = some (Obj.cells c t f)) (h1 : t ≠ tT) (h2 : t ≠ tE) (h3 : t ≠ tX) : w1.heap[k]? = some (Obj.cells c t f) := by
  refine (h.tr.block k (Array.getElem?_eq_some_iff.1 hk).1 (fun he => ?_)).trans hk
  rcases List.mem_cons.1 he with rfl | he
  · obtain ⟨v, hX, _⟩ := h0.xr
    unfold BlkT at hX
    rw [hk] at hX
    cases hX
    exact h3 rfl
  · exact tbk_ne h0.tb hk h1 h2 he
/-- What lies in memory when the first loop goes. -/
structure GS (w A : World) (T m X tb xb : Nat) (vd : Value) (xs : List Nd) : Prop where
  bd : BlkT A w.heap.size tOs [vd]
  br : BlkT A (w.heap.size + 1) 4 [.bool false]
  bt : BlkT A tb tPT [tP T]
  bx : BlkT A xb tPX [tP X]
  dx : DX A w.heap.size T m 20 X xs
  low : Below w.heap.size w A
theorem GS.below (h : GS w A T m X tb xb vd xs) (hb : Below A.heap.size A B) : GS w B T m X tb xb vd xs :=
  ⟨h.bd.below hb h.bd.lt, h.br.below hb h.br.lt, h.bt.below hb h.bt.lt, h.bx.below hb h.bx.lt, h.dx.keep hb, h.low.trans (hb.mono h.low.size)⟩
theorem GS.step (h : GS w A T m X tb xb vd xs) (hs : St2 A B w.heap.size T m 20 X xs xs1) : GS w B T m X tb xb vd xs1 :=
  ⟨hs.box h.dx h.bd (by decide) (by decide) (by decide), hs.box h.dx h.br (by decide) (by decide) (by decide), hs.box h.dx h.bt (by decide) (by decide) (by decide), hs.box h.dx h.bx (by decide) (by decide) (by decide), hs.dx, h.low.trans (hs.low h.dx)⟩
end
/-- A row of entries, nil or not, is appended to one of its own. -/
theorem wpListIn_app_esn {F : Fence} {n : Nat} {w : World} {ops : Array Oper} {rest : List Oper} {o : Oper} {a : Act} {Q : Exit → Act → World → Prop} (hgd : o.guard = none) (s x : Operand) (ho : o.op = .call { callee := .builtin .append, args := #[s, x], argTypes := #[tRs, tRs] })
    (base : Nat) (v : Value) (l ms : PL) (hs : a.eval s = v) (hown : ER w base v l) (B : Nat) (vx : Value) (hx : a.eval x = vx) (hsrc : ES w B vx ms)
    (hlen : l.length + ms.length ≤ 1000000) (hbase : base ≤ w.heap.size)
    (h : ∀ v' w', ER w' base v' (l ++ ms) → w.grownBy w' v.ownBlock → wpListIn F n Try.prog ops Q rest (a.put o.dst v') w') : wpListIn F n Try.prog ops Q (o :: rest) a w := by
  obtain ⟨A, c, rfl, h0, h1, h2, h3⟩ := hsrc
  obtain ⟨i0, hi, hz0, hz1, hz2⟩ := info_parts info_re
  cases A with
  | none =>
    obtain rfl := h0 rfl
    obtain rfl : ms = [] := List.eq_nil_of_length_eq_zero (by omega)
    have hrun := run_append_owned_none (P := Try.prog) (w := w) base tRs o.type tR i0 2 Try.underlying29 hi v l.length (enC l) hown
    have hk := h v w (by simpa using hown) (World.grownBy.refl w _)
    refine wpListIn_plain hgd fun K hK' => ?_
    unfold Oper.wpIn
    refine ⟨?_, ?_⟩
    · simp [Oper.about, ho, resolve, Target.leads, Sem.run_pure]
    · rw [Oper.semAt_plain F _ _ (by rw [ho]; intro c hc'; cases hc')]
      simp [execOp, ho, resolve, invoke, builtin, hs, hx, hrun, Result.andThen]
      exact hK' _ _ hk
  | some ad =>
    refine wpListIn_append_own w hgd s x tRs ho base tR i0 _ 2 24 Try.underlying29 hi hz0 hz1 hz2 rfl (by decide) v l.length (enC l) hs hown ad ms.length c (enC ms) hx (enC_length ms) ?_ (enC_one ms) (by unfold maxLen; omega) (by omega) hbase ?_
    · intro j u hu
      have hj : j < ms.length * 2 := by
        have := (List.getElem?_eq_some_iff.1 hu).1
        rwa [enC_length] at this
      obtain ⟨g, o', e, _, hc⟩ := h3 (by omega)
      obtain rfl := Option.some.inj e
      clear h3
      rw [Addr.add_lit]
      obtain ⟨c1, c2⟩ := hc (j / 2) (by omega)
      obtain ⟨d1, d2⟩ := enC_at ms (j / 2) (by omega)
      rcases (show j = j / 2 * 2 ∨ j = j / 2 * 2 + 1 by omega) with e | e
      · rw [e] at hu ⊢
        rw [d1] at hu
        exact c1.trans hu
      · rw [e] at hu ⊢
        rw [d2] at hu
        rw [← Nat.add_assoc]
        exact c2.trans hu
    · intro v' w' k1 k2 _
      refine h v' w' ?_ k2
      show w'.ownsRow base tR 2 v' (l ++ ms).length (enC (l ++ ms))
      rw [List.length_append, enC_app]
      exact k1
theorem St2.kf {A B : World} {b0 T m cap X b : Nat} {xs xs1 : List Nd} (h : St2 A B b0 T m cap X xs xs1) (h0 : DX A b0 T m cap X xs) (hm : m < b) : KeepsFrom b A B := by
  refine ⟨h.tr.size, fun k o hk ho hc => (h.tr.block k (Array.getElem?_eq_some_iff.1 ho).1 (fun he => ?_)).trans ho⟩
  rcases List.mem_cons.1 he with rfl | he
  · obtain ⟨v, hX, _⟩ := h0.xr
    unfold BlkT at hX
    rw [ho] at hX
    cases hX
    cases hc
  · rcases List.mem_cons.1 he with rfl | he
    · have := h0.tb.tbl
      unfold BlkT at this
      rw [ho] at this
      cases this
      cases hc
    · rcases List.mem_cons.1 he with rfl | he
      · omega
      · obtain ⟨x, hx, rfl⟩ := List.mem_map.1 he
        obtain ⟨cs, hb⟩ := chn_ty xs none none h0.tb.chn x hx
        unfold BlkT at hb
        rw [ho] at hb
        cases hb
        cases hc
theorem results_cell {fn : Func} {t : Tmp} {ty : TypeId} (h : fn.results = #[.cell t ty]) (tmps : Array Value) (P : Program) (w : World) (a : Addr) (v : Value) (ha : tmps.getD t undef = .pointer (some a))
    (hi : ∀ w, (isAgg ty).run P w = .ok false w) (hc : w.cell? a = some v) : (results fn tmps).run P w = .ok v w := by
  have ha2 : tmps[t]?.getD undef = .pointer (some a) := by simpa using ha
  simp [results, h, ha2, go_sem, hi, hc]
theorem kf_set {W : World} {b : Nat} {p : Addr} {c : Array Value} {t : TypeId} (hp : W.heap[p.block]? = some (Obj.cells c t (0, 0))) (u : Value) : KeepsFrom b W (W.setCell p u) := by
  refine ⟨by simp, fun k o _ ho hc => (Below.heap_setCell W p u k (fun e => ?_)).trans ho⟩
  rw [e, hp] at ho
  cases ho
  cases hc
theorem kf_below {b : Nat} {A B : World} (h : Below A.heap.size A B) : KeepsFrom b A B := ⟨h.size, fun k _ _ ho _ => (h.block k (Array.getElem?_eq_some_iff.1 ho).1).trans ho⟩
/-- An Op in memory, whatever comes behind. -/
theorem TOps.at' {w W : World} {B : Nat} {v : Value} {ls : List (Int × List UInt8 × Int)} (h : TOps w B v ls) (hB : B ≤ w.heap.size) (hW : Below w.heap.size w W) (j : Nat) (hj : j < ls.length) :
    ∃ g o c, v = .slice (some ⟨g, o, none⟩) ls.length c ∧ ls.length ≤ c ∧ c ≤ 9223372036854775807 ∧ W.cell? ⟨g, o + j * 3, none⟩ = some (.int .u8 ls[j].1) ∧ W.cell? ⟨g, o + j * 3 + 1, none⟩ = some (strT ls[j].2.1) ∧ W.cell? ⟨g, o + j * 3 + 2, none⟩ = some (.int .i64 ls[j].2.2) ∧ (0 ≤ ls[j].1 ∧ ls[j].1 ≤ 255) ∧ ls[j].2.1.length ≤ 9223372036854775807 := by
  obtain ⟨A, c, rfl, h1, h2, h3⟩ := h
  obtain ⟨g, o, rfl, hg, hc⟩ := h3 (by omega)
  obtain ⟨e1, e2, e3, e4, e5⟩ := hc j hj
  exact ⟨g, o, c, rfl, h1, h2, (hW.cell (p := ⟨g, o + j * 3, none⟩) (by show g < w.heap.size; omega)).trans e1, (hW.cell (p := ⟨g, o + j * 3 + 1, none⟩) (by show g < w.heap.size; omega)).trans e2, (hW.cell (p := ⟨g, o + j * 3 + 2, none⟩) (by show g < w.heap.size; omega)).trans e3, e4, e5⟩
theorem takeHN {P : Program} {ops : Array Oper} {Q : Exit → Act → World → Prop} {a : Act} {w : World} {md : Region.Mode} {S : World → Prop} (i : Nat) (d : Tmp) {oi : Oper} {fuel : Nat} {listed : Array Bool} (hi : ops[i]? = some oi) (hd : oi.dst = some d)
    (hs : Region.noSelect ops = true) (hf : Region.free md ops listed i = true) (hr : (Region.ready md ops listed).contains i = true)
    (hQ : ∀ c (a : Act) w, Q (.panic c) (a.put oi.dst undef) w → Q (.panic c) a w) (hw : Region.wanted oi (yielded ops a.tmps) = false) (hS : S w)
    (h : wpAnyH P md ops Q S fuel (listed.setIfInBounds i true) (a.put (some d) undef) w) : wpAnyH P md ops Q S (fuel + 1) listed a w :=
  wpAnyH_take hi hs hf hr hQ (Or.inr ⟨hw, rfl⟩) hS (by rw [hd]; exact h)
theorem pt_inj {a b : Option Nat} (h : pt a = pt b) : a = b := by
  cases a <;> cases b <;> simp [pt] at h <;> simp [h]
/-- A table's entries are told by its memory. -/
theorem chn_uniq {w : World} : ∀ (xs ys : List Nd) (p : Option Nat), Chn w p xs none → Chn w p ys none → hd xs none = hd ys none → xs = ys
  | [], [], _, _, _, _ => rfl
  | [], _ :: _, _, _, _, h => by cases h
  | _ :: _, [], _, _, _, h => by cases h
  | x :: t, y :: s, p, h1, h2, h => by
    obtain ⟨a1, a2⟩ := h1
    obtain ⟨b1, b2⟩ := h2
    have hb : x.b = y.b := Option.some.inj h
    unfold BlkT at a1 b1
    rw [hb, b1] at a1
    have e : (ndC y p (hd s none)) = ndC x p (hd t none) := by
      injection a1 with a1
      injection a1 with a1 _ _
      simpa using a1
    have e2 : strT y.key = strT x.key ∧ Value.int .i64 y.v = .int .i64 x.v ∧ pt (hd s none) = pt (hd t none) := by
      simp only [ndC, vcs, List.cons_append, List.nil_append, List.cons.injEq] at e
      exact ⟨e.1, e.2.1, e.2.2.2.1⟩
    obtain ⟨q1, q2, q3⟩ := e2
    have hk : y.key = x.key := by simpa using q1
    have hv : y.v = x.v := by injection q2
    have ht := chn_uniq t s (some x.b) a2 (by rw [hb]; exact b2) (pt_inj q3).symm
    obtain ⟨xb, xk, xv⟩ := x
    obtain ⟨yb, yk, yv⟩ := y
    simp only at hb hk hv
    subst hb; subst hk; subst hv
    rw [ht]
theorem tb_uniq {w : World} {T m cap : Nat} {xs ys : List Nd} (h1 : Tb w T m cap xs) (h2 : Tb w T m cap ys) : xs = ys := by
  refine chn_uniq xs ys none h1.chn h2.chn (pt_inj ?_)
  have a := h1.c2
  have b := h2.c2
  rw [a] at b
  exact Option.some.inj b
/-- What a round of the loop over the entries must keep: the copies, whatever the Table turns to. -/
def GK (T m : Nat) (A B : World) : Prop := ∀ xs, Tb A T m 20 xs → ∃ xs', Tb B T m 20 xs' ∧ A.heap.size ≤ B.heap.size ∧ (∀ (k : Nat) (c : Array Value) (f : Nat × Nat), A.heap[k]? = some (Obj.cells c tE f) → k ∉ xs.map (·.b) → B.heap[k]? = some (Obj.cells c tE f)) ∧ ∀ x ∈ xs', x.b ∈ xs.map (·.b) ∨ A.heap.size ≤ x.b
theorem GK.trans {T m : Nat} {A B C : World} (h : GK T m A B) (k : GK T m B C) : GK T m A C := by
  intro xs a1
  obtain ⟨ys, a2, a3, a4, a5⟩ := h xs a1
  obtain ⟨zs, b2, b3, b4, b5⟩ := k ys a2
  refine ⟨zs, b2, by omega, fun g c f hg hn => b4 g c f (a4 g c f hg hn) (fun hm => ?_), fun x hx => ?_⟩
  · obtain ⟨y, hy, e⟩ := List.mem_map.1 hm
    have hlt := (Array.getElem?_eq_some_iff.1 hg).1
    rcases a5 y hy with h | h
    · exact hn (by rw [← e]; exact h)
    · omega
  · rcases b5 x hx with h | h
    · obtain ⟨y, hy, e⟩ := List.mem_map.1 h
      rcases a5 y hy with h2 | h2
      · exact .inl (by rw [← e]; exact h2)
      · exact .inr (by omega)
    · exact .inr (by omega)
theorem GK.of_below {T m : Nat} {A B : World} (hb : Below A.heap.size A B) : GK T m A B :=
  fun xs h => ⟨xs, h.keep hb, hb.size, fun k _ _ hg _ => (hb.block k (Array.getElem?_eq_some_iff.1 hg).1).trans hg, fun x hx => .inl (List.mem_map.2 ⟨x, hx, rfl⟩)⟩
theorem GK.of_st {T m b0 X : Nat} {A B : World} {xs xs' : List Nd} (h : St2 A B b0 T m 20 X xs xs') (h0 : DX A b0 T m 20 X xs) : GK T m A B := by
  intro ys hy
  obtain rfl := tb_uniq hy h0.tb
  refine ⟨xs', h.dx.tb, h.tr.size, fun k c f hg hn => (h.tr.block k (Array.getElem?_eq_some_iff.1 hg).1 (fun he => ?_)).trans hg, h.new⟩
  rcases List.mem_cons.1 he with rfl | he
  · obtain ⟨v, hX, _⟩ := h0.xr
    unfold BlkT at hX
    rw [hg] at hX
    cases hX
  · rcases List.mem_cons.1 he with rfl | he
    · have := h0.tb.tbl
      unfold BlkT at this
      rw [hg] at this
      cases this
    · rcases List.mem_cons.1 he with rfl | he
      · obtain ⟨D, ⟨es, clock, hb, _⟩, _⟩ := h0.tb.map
        rw [hg] at hb; cases hb
      · exact hn he
/-- A cell of another type is set. -/
theorem GK.of_set {T m : Nat} {A : World} {p : Addr} {c0 : Array Value} {t : TypeId} (hp : A.heap[p.block]? = some (Obj.cells c0 t (0, 0))) (h1 : t ≠ tT) (h2 : t ≠ tE) (u : Value) : GK T m A (A.setCell p u) := by
  intro xs h
  have hn := tbk_ne h hp h1 h2
  refine ⟨xs, h.eqs (fun k hk => Below.heap_setCell A p u k (fun e => hn (by rw [← e]; exact hk))), by simp, fun k c f hg _ => (Below.heap_setCell A p u k (fun e => ?_)).trans hg, fun x hx => .inl (List.mem_map.2 ⟨x, hx, rfl⟩)⟩
  rw [e, hp] at hg
  cases hg
  exact h2 rfl
theorem GK.of_put {T m : Nat} {A : World} {b : Nat} (hT : T < b) (hm : m < b) {l : Nat} {o o' : Obj} (hl : b ≤ l) (ho : A.heap[l]? = some o) (hc : o.isCells = false) : GK T m A (A.putObj l o') := by
  intro xs h
  have hne : ∀ x ∈ xs, x.b ≠ l := by
    intro x hx e
    obtain ⟨cs, hb⟩ := chn_ty xs none none h.chn x hx
    unfold BlkT at hb
    rw [e, ho] at hb
    cases hb
    cases hc
  refine ⟨xs, h.eqs (fun k hk => World.putObj_heap_other ?_), by simp [World.putObj], fun k c f hg _ => (World.putObj_heap_other ?_).trans hg, fun x hx => .inl (List.mem_map.2 ⟨x, hx, rfl⟩)⟩
  · rcases List.mem_cons.1 hk with rfl | hk
    · omega
    · rcases List.mem_cons.1 hk with rfl | hk
      · omega
      · obtain ⟨x, hx, rfl⟩ := List.mem_map.1 hk
        exact hne x hx
  · rintro rfl
    rw [ho] at hg
    cases hg
    cases hc
/-- The loop over the entries under way: k of them told. -/
structure GL (w A : World) (T m X tb xb : Nat) (vd : Value) (wb : Nat) (wv : Value) (wl : PL) (most : Int) (k : Nat) : Prop where
  gs : ∃ xs, GS w A T m X tb xb vd xs
  bw : BlkT A wb tRs [wv]
  ew : ER A w.heap.size wv wl
  bm : BlkT A (wb + 1) 3 [.int .i64 most]
  bn : BlkT A (wb + 1 + 1) 3 [.int .i64 (k : Int)]
section
variable {w A B : World} {T m X tb xb wb k : Nat} {vd wv : Value} {wl : PL} {most : Int} {xs xs1 : List Nd}
theorem GL.below (h : GL w A T m X tb xb vd wb wv wl most k) (hb : Below A.heap.size A B) : GL w B T m X tb xb vd wb wv wl most k := by
  obtain ⟨xs, hg⟩ := h.gs
  exact ⟨⟨xs, hg.below hb⟩, h.bw.below hb h.bw.lt, h.ew.below hb, h.bm.below hb h.bm.lt, h.bn.below hb h.bn.lt⟩
theorem GL.step (h : GL w A T m X tb xb vd wb wv wl most k) (hg : GS w A T m X tb xb vd xs) (hs : St2 A B w.heap.size T m 20 X xs xs1) : GL w B T m X tb xb vd wb wv wl most k :=
  ⟨⟨xs1, hg.step hs⟩, hs.box hg.dx h.bw (by decide) (by decide) (by decide), h.ew.kt (fun g c f hgc => hs.kt hg.dx hgc (by decide) (by decide) (by decide)), hs.box hg.dx h.bm (by decide) (by decide) (by decide), hs.box hg.dx h.bn (by decide) (by decide) (by decide)⟩
theorem GS.put (h : GS w A T m X tb xb vd xs) {b : Nat} (hT : T < b) (hm : m < b) (hw : w.heap.size ≤ b) {l : Nat} {o o' : Obj} (hl : b ≤ l) (ho : A.heap[l]? = some o) (hc : o.isCells = false) : GS w (A.putObj l o') T m X tb xb vd xs := by
  have hk := kc_putObj (b := 0) (o' := o') ho hc
  have hkt : ∀ {k : Nat} {t : TypeId} {cs : List Value}, BlkT A k t cs → BlkT (A.putObj l o') k t cs := fun hb => hk _ _ _ _ (Nat.zero_le _) hb
  obtain ⟨v0, hX, hE⟩ := h.dx.xr
  have hne : ∀ x ∈ xs, x.b ≠ l := by
    intro x hx e
    obtain ⟨cs, hb⟩ := chn_ty xs none none h.dx.tb.chn x hx
    unfold BlkT at hb
    rw [e, ho] at hb
    cases hb
    cases hc
  refine ⟨hkt h.bd, hkt h.br, hkt h.bt, hkt h.bx, ⟨h.dx.tb.eqs (fun k hk2 => World.putObj_heap_other ?_), h.dx.lo, ⟨v0, hkt hX, ownsRow_putObj hE o' ho hc⟩⟩, below_putObj h.low h.low.size (by omega)⟩
  rcases List.mem_cons.1 hk2 with rfl | hk2
  · omega
  · rcases List.mem_cons.1 hk2 with rfl | hk2
    · omega
    · obtain ⟨x, hx, rfl⟩ := List.mem_map.1 hk2
      exact hne x hx
theorem GL.put (h : GL w A T m X tb xb vd wb wv wl most k) {b : Nat} (hT : T < b) (hm : m < b) (hw : w.heap.size ≤ b) {l : Nat} {o o' : Obj} (hl : b ≤ l) (ho : A.heap[l]? = some o) (hc : o.isCells = false) : GL w (A.putObj l o') T m X tb xb vd wb wv wl most k := by
  have hk := kc_putObj (b := 0) (o' := o') ho hc
  obtain ⟨xs, hg⟩ := h.gs
  exact ⟨⟨xs, hg.put hT hm hw hl ho hc⟩, hk _ _ _ _ (Nat.zero_le _) h.bw, ownsRow_putObj h.ew o' ho hc, hk _ _ _ _ (Nat.zero_le _) h.bm, hk _ _ _ _ (Nat.zero_le _) h.bn⟩
theorem BlkT.ne {w : World} {b b' : Nat} {t t' : TypeId} {cs cs' : List Value} (h : BlkT w b t cs) (h' : BlkT w b' t' cs') (ht : t ≠ t') : b ≠ b' := by
  rintro rfl
  unfold BlkT at h h'
  rw [h] at h'
  cases h'
  exact ht rfl
/-- One more is counted. -/
theorem GL.count (h : GL w A T m X tb xb vd wb wv wl most k) (hlo : w.heap.size ≤ wb) : GL w (A.setCell ⟨wb + 1 + 1, 0, none⟩ (.int .i64 ((k : Int) + 1))) T m X tb xb vd wb wv wl most (k + 1) := by
  obtain ⟨xs, hg⟩ := h.gs
  have hn := tbk_ne hg.dx.tb h.bn (by decide) (by decide)
  obtain ⟨v0, hX, hE⟩ := hg.dx.xr
  have hXn : wb + 1 + 1 ≠ X := fun e => (h.bn.ne hX (by decide)) e
  have g1 := grown_set A ⟨wb + 1 + 1, 0, none⟩ (.int .i64 ((k : Int) + 1))
  have hrow : ∀ {v : Value} {l : PL}, ER A w.heap.size v l → ER (A.setCell ⟨wb + 1 + 1, 0, none⟩ (.int .i64 ((k : Int) + 1))) w.heap.size v l := fun hr =>
    World.ownsRow.kept hr g1 (.inr (apart_box (v := .int .i64 (k : Int)) (t := 3) hr (by exact h.bn) (by decide)))
  refine ⟨⟨xs, ⟨hg.bd.setOther (a := ⟨wb + 1 + 1, 0, none⟩) (h.bn.ne hg.bd (by decide)) _, hg.br.setOther (a := ⟨wb + 1 + 1, 0, none⟩) (h.bn.ne hg.br (by decide)) _, hg.bt.setOther (a := ⟨wb + 1 + 1, 0, none⟩) (h.bn.ne hg.bt (by decide)) _, hg.bx.setOther (a := ⟨wb + 1 + 1, 0, none⟩) (h.bn.ne hg.bx (by decide)) _, ?_, hg.low.setCell (p := ⟨wb + 1 + 1, 0, none⟩) (by show w.heap.size ≤ wb + 1 + 1; omega) _⟩⟩,
    h.bw.setOther (a := ⟨wb + 1 + 1, 0, none⟩) (h.bn.ne h.bw (by decide)) _, hrow h.ew, h.bm.setOther (a := ⟨wb + 1 + 1, 0, none⟩) (show wb + 1 + 1 ≠ wb + 1 by omega) _, ?_⟩
  · exact ⟨hg.dx.tb.eqs (fun g hk => Below.heap_setCell A _ _ g (fun e => hn (by have e' : g = wb + 1 + 1 := e; rw [← e']; exact hk))), hg.dx.lo, ⟨v0, hX.setOther (a := ⟨wb + 1 + 1, 0, none⟩) hXn _, hrow hE⟩⟩
  · have := h.bn.set 0 (.int .i64 ((k : Int) + 1))
    rw [Int.natCast_succ]
    exact this
end
end Go.Proofs.Ytipgjpmaflcpkaa
