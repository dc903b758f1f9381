/- The reference of table: rows of entries, and what appends to them. -/
import Derived.Test.YtipgjpmaflcpkaaTbApi
import Derived.StillTailTactics
import Derived.Laws.AppendOwnNone
import Derived.Maps.AppendAt
import Derived.Deep.RegionHeld3
import Derived.LoopTactic
set_option maxRecDepth 100000
namespace Go.Proofs.Ytipgjpmaflcpkaa
open Go.RowKit
abbrev tR : TypeId := 42
abbrev tRs : TypeId := 29
abbrev PL := List (List UInt8 × VT)
theorem info_re : (Try.prog.info? tR).map (fun i => (i.zero, i.size, i.bytes)) = some (some (.agg #[.string ⟨#[]⟩, .int .i64 0]), 2, 24) := by kernel_rfl
def enC : PL → List Value
  | [] => []
  | q :: t => strT q.1 :: .int .i64 q.2 :: enC t
theorem enC_length : ∀ l : PL, (enC l).length = l.length * 2
  | [] => rfl
  | q :: t => by show (enC t).length + 1 + 1 = _; rw [enC_length t, List.length_cons]; omega
theorem enC_app (r : PL) : ∀ l : PL, enC (l ++ r) = enC l ++ enC r
  | [] => rfl
  | q :: t => by show strT q.1 :: .int .i64 q.2 :: enC (t ++ r) = _; rw [enC_app r t]; rfl
theorem enC_at : ∀ (l : PL) (i : Nat) (h : i < l.length), (enC l)[i * 2]? = some (strT l[i].1) ∧ (enC l)[i * 2 + 1]? = some (.int .i64 l[i].2)
  | [], _, h => absurd h (by simp)
  | q :: t, 0, _ => ⟨rfl, rfl⟩
  | q :: t, i + 1, h => by
    obtain ⟨h1, h2⟩ := enC_at t i (by simpa using h)
    have e : (i + 1) * 2 = i * 2 + 1 + 1 := by omega
    rw [e]
    exact ⟨h1, h2⟩
theorem enC_one (l : PL) : ∀ u ∈ enC l, u.oneCell' = true := by
  induction l with
  | nil => intro u hu; simp [enC] at hu
  | cons q t ih =>
    intro u hu
    have : u = strT q.1 ∨ u = .int .i64 q.2 ∨ u ∈ enC t := by simpa [enC] using hu
    rcases this with rfl | rfl | hu
    · rfl
    · rfl
    · exact ih u hu
/-- The row v, its own, holds the entries l. -/
abbrev ER (w : World) (base : Nat) (v : Value) (l : PL) : Prop := w.ownsRow base tR 2 v l.length (enC l)
/-- The cells from block g's place o on hold the entries l. -/
def EsAt (w : World) (g o : Nat) (l : PL) : Prop := ∀ j (h : j < l.length), w.cell? ⟨g, o + j * 2, none⟩ = some (strT l[j].1) ∧ w.cell? ⟨g, o + j * 2 + 1, none⟩ = some (.int .i64 l[j].2)
/-- The slice v, below block B, holds the entries l. -/
def ES (w : World) (B : Nat) (v : Value) (l : PL) : Prop :=
  ∃ A c, v = .slice A l.length c ∧ (A = none → c = 0) ∧ l.length ≤ c ∧ c ≤ 9223372036854775807 ∧
    (0 < l.length → ∃ g o, A = some ⟨g, o, none⟩ ∧ g < B ∧ EsAt w g o l)
section
variable {w w' : World} {B base : Nat} {v : Value} {l : PL}
theorem ES.below (h : ES w B v l) {B' : Nat} (hb : Below B' w w') (hB : B ≤ B') : ES w' B v l := by
  obtain ⟨A, c, e, h0, h1, h2, h3⟩ := h
  refine ⟨A, c, e, h0, h1, h2, fun hl => ?_⟩
  obtain ⟨g, o, e2, hg, hc⟩ := h3 hl
  exact ⟨g, o, e2, hg, fun j hj => ⟨(hb.cell (p := ⟨g, o + j * 2, none⟩) (by show g < B'; omega)).trans (hc j hj).1, (hb.cell (p := ⟨g, o + j * 2 + 1, none⟩) (by show g < B'; omega)).trans (hc j hj).2⟩⟩
theorem ES.cell {n c : Nat} {g o : Nat} (h : ES w B (.slice (some ⟨g, o, none⟩) n c) l) (i : Nat) (hi : i < l.length) : w.cell? ⟨g, o + i * 2, none⟩ = some (strT l[i].1) ∧ w.cell? ⟨g, o + i * 2 + 1, none⟩ = some (.int .i64 l[i].2) ∧ g < B := by
  obtain ⟨A, c', e, _, _, _, h3⟩ := h
  obtain ⟨g', o', e2, hg, hc⟩ := h3 (by omega)
  injection e with e1 _ _
  rw [e2] at e1
  injection e1 with e1
  injection e1 with e1 e3 _
  subst e1; subst e3
  exact ⟨(hc i hi).1, (hc i hi).2, hg⟩
theorem ER.nil (w : World) (base : Nat) : ER w base (.slice none 0 0) [] := World.ownsRow_nil w base _ 2
theorem ER.parts (h : ER w base v l) : ∃ A c, v = .slice A l.length c ∧ l.length ≤ c ∧ c ≤ 9223372036854775807 ∧ (A = none → c = 0) ∧ (∀ g, v.ownBlock = some g → base ≤ g ∧ g < w.heap.size) ∧ (0 < l.length → ∃ g, A = some ⟨g, 0, none⟩) := by
  rcases h.2 with ⟨rfl, hz⟩ | ⟨g, cap, cur, rfl, hb, hg, h1, h2, _⟩
  · refine ⟨none, 0, by rw [hz], by omega, by omega, fun _ => rfl, fun g hg => by simp [Value.ownBlock] at hg, fun hl => by omega⟩
  · refine ⟨some ⟨g, 0, none⟩, cap, rfl, h1, by unfold maxLen at h2; omega, (fun e => by cases e), (fun k e => by cases e; exact ⟨hb, (Array.getElem?_eq_some_iff.1 hg).1⟩), fun _ => ⟨g, rfl⟩⟩
theorem ER.es (h : ER w base v l) : ES w w.heap.size v l := by
  obtain ⟨A, c, rfl, h1, h2, h0, hb, hg⟩ := h.parts
  refine ⟨A, c, rfl, h0, h1, h2, fun hl => ?_⟩
  obtain ⟨g, rfl⟩ := hg hl
  refine ⟨g, 0, rfl, (hb g rfl).2, fun j hj => ?_⟩
  obtain ⟨e1, e2⟩ := enC_at l j hj
  have k1 := World.ownsRow.cellAt h (j * 2) (by omega)
  have k2 := World.ownsRow.cellAt h (j * 2 + 1) (by omega)
  rw [Nat.zero_add]
  exact ⟨k1.trans e1, k2.trans e2⟩
theorem ER.below (h : ER w base v l) (hb : Below w.heap.size w w') : ER w' base v l := by
  obtain ⟨h1, h2 | ⟨g, cap, cur, rfl, hbg, hg, h3⟩⟩ := h
  · exact ⟨h1, .inl h2⟩
  · exact ⟨h1, .inr ⟨g, cap, cur, rfl, hbg, (hb.block g (Array.getElem?_eq_some_iff.1 hg).1).trans hg, h3⟩⟩
theorem ER.lower {base' : Nat} (h : ER w base v l) (hb : base' ≤ base) : ER w base' v l := by
  obtain ⟨h1, h2 | ⟨g, cap, cur, rfl, hbg, hg, h3⟩⟩ := h
  · exact ⟨h1, .inl h2⟩
  · exact ⟨h1, .inr ⟨g, cap, cur, rfl, by omega, hg, h3⟩⟩
/-- Where rows of its type are kept. -/
theorem ER.kt (h : ER w base v l) (hk : ∀ (g : Nat) (c : Array Value) (f : Nat × Nat), w.heap[g]? = some (Obj.cells c tR f) → w'.heap[g]? = some (Obj.cells c tR f)) : ER w' base v l := by
  obtain ⟨h1, h2 | ⟨g, cap, cur, rfl, hbg, hg, h3⟩⟩ := h
  · exact ⟨h1, .inl h2⟩
  · exact ⟨h1, .inr ⟨g, cap, cur, rfl, hbg, hk _ _ _ hg, h3⟩⟩
theorem ER.empty (w : World) : ER (w.alloc (.cells #[] tR)) w.heap.size (.slice (some ⟨w.heap.size, 0, none⟩) 0 0) [] :=
  ⟨by simp [enC], .inr ⟨w.heap.size, 0, #[], rfl, Nat.le_refl _, heap_alloc_new w _, by simp, by unfold maxLen; omega, by simp [enC]⟩⟩
theorem ER.belowBase (h : ER w base v l) (hg : w.grownBy w' v.ownBlock) (hb : base ≤ w.heap.size) : Below base w w' :=
  ⟨hg.os, hg.tape, hg.output, hg.size, fun k hk => hg.block k (by omega) (fun e => by
    obtain ⟨_, _, _, _, _, _, h2, _⟩ := h.parts
    have := (h2 k e.symm).1
    omega)⟩
theorem ES.take (h : ES w B v l) (k : Nat) (hk : k ≤ l.length) : ∃ A c, v = .slice A l.length c ∧ (∀ W, (Instr.slice tRs v none (some (.int .i64 (k : Int))) none).run Try.prog W = .ok (.slice A k c) W) ∧ (∀ W, ES W B v l → ES W B (.slice A k c) (l.take k)) := by
  obtain ⟨A, c, rfl, h0, h1, h2, h3⟩ := h
  refine ⟨A, c, rfl, fun W => ?_, fun W hW => ?_⟩
  · rw [run_slice_h W tRs A l.length c Try.underlying29 .i64 k (by omega) (by omega)]
    by_cases hz : c = 0 <;> simp [sliced, go_sem, hz]
  · obtain ⟨A', c', e, g0, g1, g2, g3⟩ := hW
    injection e with e1 e2 e3
    subst e1; subst e3
    have e4 : (l.take k).length = k := by rw [List.length_take]; omega
    refine ⟨A, c, by rw [e4], g0, by omega, g2, fun hl => ?_⟩
    obtain ⟨g, o, e5, hg, hc⟩ := g3 (by omega)
    refine ⟨g, o, e5, hg, fun j hj => ?_⟩
    rw [List.getElem_take]
    exact hc j (by omega)
theorem ES.drop (h : ES w B v l) (k : Nat) (K : Int) (hK : K = (k : Int)) (hk : k ≤ l.length) : ∃ V, (∀ W, (Instr.slice tRs v (some (.int .i64 K)) none none).run Try.prog W = .ok V W) ∧ (∀ W, ES W B v l → ES W B V (l.drop k)) := by
  subst hK
  obtain ⟨A, c, rfl, h0, h1, h2, h3⟩ := h
  clear h3
  refine ⟨sliced A k l.length c 2, fun W => ?_, fun W hW => ?_⟩
  · rw [run_slice_l W tRs A l.length c Try.underlying29 .i64 k (by omega) (by omega)]
    simp [go_sem]
  · obtain ⟨A', c', e, g0, g1, g2, g3⟩ := hW
    injection e with e1 e2 e3
    subst e1; subst e3
    have e4 : (l.drop k).length = l.length - k := by rw [List.length_drop]
    unfold sliced
    refine ⟨_, c - k, by rw [e4], ?_, by omega, by omega, fun hp => ?_⟩
    · intro hz
      by_cases hck : c = k
      · omega
      · rw [if_neg hck] at hz
        have := h0 (by simpa using hz)
        omega
    · obtain ⟨g, o, rfl, hg, hc⟩ := g3 (by omega)
      clear g3
      rw [if_neg (show ¬ c = k by omega)]
      refine ⟨g, o + k * 2, ?_, hg, fun j hj => ?_⟩
      · simp [Addr.add_mid]
      · rw [List.getElem_drop]
        have := hc (k + j) (show k + j < l.length by omega)
        rw [show o + (k + j) * 2 = o + k * 2 + j * 2 by omega] at this
        exact this
end
theorem enC_set : ∀ (l : PL) (i : Nat) (v : Int) (h : i < l.length), (enC l).set (i * 2 + 1) (.int .i64 v) = enC (l.set i (l[i].1, v))
  | [], _, _, h => absurd h (by simp)
  | q :: t, 0, v, _ => rfl
  | q :: t, i + 1, v, h => by
    have e : (i + 1) * 2 + 1 = i * 2 + 1 + 1 + 1 := by omega
    rw [e]
    show strT q.1 :: .int .i64 q.2 :: (enC t).set (i * 2 + 1) (.int .i64 v) = _
    rw [enC_set t i v (by simpa using h)]
    rfl
theorem ER.setAt {w : World} {base g cap : Nat} {l : PL} (h : ER w base (.slice (some ⟨g, 0, none⟩) l.length cap) l) (i : Nat) (v : Int) (hi : i < l.length) :
    ER (w.setCell ⟨g, i * 2 + 1, none⟩ (.int .i64 v)) base (.slice (some ⟨g, 0, none⟩) l.length cap) (l.set i (l[i].1, v)) := by
  show World.ownsRow _ _ _ _ _ (l.set i (l[i].1, v)).length _
  rw [List.length_set, ← enC_set l i v hi]
  exact (World.ownsRow.stored h (i * 2 + 1) (.int .i64 v)).1
theorem ER.free {w : World} {base g cap : Nat} {l : PL} (h : ER w base (.slice (some ⟨g, 0, none⟩) l.length cap) l) (i : Nat) : w.frozen? ⟨g, i, none⟩ = false := by
  rcases h.2 with ⟨h', _⟩ | ⟨g', cap', cur, e, _, hg, _⟩
  · cases h'
  · injection e with e1 _ _
    injection e1 with e1
    injection e1 with e1 _ _
    subst e1
    simp [World.frozen?, hg]
theorem ES.one (w : World) (k : List UInt8) (v : Int) : ES (w.alloc (.cells #[strT k, .int .i64 v] tR)) (w.heap.size + 1) (.slice (some ⟨w.heap.size, 0, none⟩) 1 1) [(k, v)] := by
  have hb : BlkT (w.alloc (.cells #[strT k, .int .i64 v] tR)) w.heap.size tR [strT k, .int .i64 v] := heap_alloc_new w _
  refine ⟨_, 1, rfl, (fun e => by cases e), by simp, by omega, fun _ => ⟨w.heap.size, 0, rfl, by omega, fun j hj => ?_⟩⟩
  obtain rfl : j = 0 := by simpa using hj
  exact ⟨hb.at rfl, hb.at rfl⟩
/-- Entries are appended to a row of its own. -/
theorem wpList_app_es {w : World} {ops : Array Oper} {rest : List Oper} {o : Oper} {a : Act} {Q : Exit → Act → World → Prop} (hgd : o.guard = none) (s x : Operand) (ho : o.op = .call { callee := .builtin .append, args := #[s, x], argTypes := #[tRs, tRs] })
    (base : Nat) (v : Value) (l ms : PL) (hs : a.eval s = v) (hown : ER w base v l) (B : Nat) (vx : Value) (hx : a.eval x = vx) (hsrc : ES w B vx ms)
    (hlen : l.length + ms.length ≤ 1000000) (hbase : base ≤ w.heap.size)
    (h : ∀ v' w', ER w' base v' (l ++ ms) → w.grownBy w' v.ownBlock → wpList Try.prog ops Q rest (a.put o.dst v') w') : wpList Try.prog ops Q (o :: rest) a w := by
  obtain ⟨A, c, rfl, h0, h1, h2, h3⟩ := hsrc
  obtain ⟨i0, hi, hz0, hz1, hz2⟩ := info_parts info_re
  cases A with
  | none =>
    obtain rfl := h0 rfl
    obtain rfl : ms = [] := List.eq_nil_of_length_eq_zero (by omega)
    exact wpList_append_own_none hgd s x tRs ho base tR i0 2 Try.underlying29 hi v l.length (enC l) hs hown hx (h v w (by simpa using hown) (World.grownBy.refl w _))
  | some ad =>
    refine wpList_append_own w hgd s x tRs ho base tR i0 _ 2 24 Try.underlying29 hi hz0 hz1 hz2 rfl (by decide) v l.length (enC l) hs hown ad ms.length c (enC ms) hx (enC_length ms) ?_ (enC_one ms) (by unfold maxLen; omega) (by omega) hbase ?_
    · intro j u hu
      have hj : j < ms.length * 2 := by
        have := (List.getElem?_eq_some_iff.1 hu).1
        rwa [enC_length] at this
      obtain ⟨g, o', e, _, hc⟩ := h3 (by omega)
      obtain rfl := Option.some.inj e
      clear h3
      rw [Addr.add_lit]
      obtain ⟨c1, c2⟩ := hc (j / 2) (by omega)
      obtain ⟨d1, d2⟩ := enC_at ms (j / 2) (by omega)
      rcases (show j = j / 2 * 2 ∨ j = j / 2 * 2 + 1 by omega) with e | e
      · rw [e] at hu ⊢
        rw [d1] at hu
        exact c1.trans hu
      · rw [e] at hu ⊢
        rw [d2] at hu
        rw [← Nat.add_assoc]
        exact c2.trans hu
    · intro v' w' k1 k2 _
      refine h v' w' ?_ k2
      show w'.ownsRow base tR 2 v' (l ++ ms).length (enC (l ++ ms))
      rw [List.length_append, enC_app]
      exact k1
/-- The same as one step of a region that draws its order. -/
theorem step_app_es {w : World} {ops : Array Oper} {o : Oper} {a : Act} {K : Act → World → Prop} {Q : Exit → Act → World → Prop} {E : Prop}
    (hgd : o.guard = none) (s x : Operand) (ho : o.op = .call { callee := .builtin .append, args := #[s, x], argTypes := #[tRs, tRs] })
    (base : Nat) (v : Value) (l ms : PL) (hs : a.eval s = v) (hown : ER w base v l) (B : Nat) (vx : Value) (hx : a.eval x = vx) (hsrc : ES w B vx ms)
    (hlen : l.length + ms.length ≤ 1000000) (hbase : base ≤ w.heap.size)
    (h : ∀ v' w', ER w' base v' (l ++ ms) → w.grownBy w' v.ownBlock → K (a.put o.dst v') w') : if Region.wanted o (yielded ops a.tmps) = true then Oper.wp Try.prog o a w K Q else E := by
  rw [if_pos (show Region.wanted o (yielded ops a.tmps) = true by simp [Region.wanted, hgd])]
  obtain ⟨A, c, rfl, h0, h1, h2, h3⟩ := hsrc
  obtain ⟨i0, hi, hz0, hz1, hz2⟩ := info_parts info_re
  cases A with
  | none =>
    obtain rfl := h0 rfl
    obtain rfl : ms = [] := List.eq_nil_of_length_eq_zero (by omega)
    have hrun := run_append_owned_none (P := Try.prog) (w := w) base tRs o.type tR i0 2 Try.underlying29 hi v l.length (enC l) hown
    unfold Oper.wp
    simp [execOp, ho, resolve, invoke, builtin, hs, hx, hrun, Result.andThen]
    exact h v w (by simpa using hown) (World.grownBy.refl w _)
  | some ad =>
    have hcells : ∀ j u, (enC ms)[j]? = some u → w.cell? (ad.add j) = some u := by
      intro j u hu
      have hj : j < ms.length * 2 := by
        have := (List.getElem?_eq_some_iff.1 hu).1
        rwa [enC_length] at this
      obtain ⟨g, o', e, _, hc⟩ := h3 (by omega)
      obtain rfl := Option.some.inj e
      clear h3
      rw [Addr.add_lit]
      obtain ⟨c1, c2⟩ := hc (j / 2) (by omega)
      obtain ⟨d1, d2⟩ := enC_at ms (j / 2) (by omega)
      rcases (show j = j / 2 * 2 ∨ j = j / 2 * 2 + 1 by omega) with e | e
      · rw [e] at hu ⊢
        rw [d1] at hu
        exact c1.trans hu
      · rw [e] at hu ⊢
        rw [d2] at hu
        rw [← Nat.add_assoc]
        exact c2.trans hu
    obtain ⟨v', w', hr, g1, g2, _, g3⟩ := run_append_own_at (P := Try.prog) w base tRs o.type tR i0 _ 2 24 Try.underlying29 hi hz0 hz1 hz2 rfl (by decide) v l.length (enC l) hown ad ms.length c (enC ms) (enC_length ms) hcells (enC_one ms) (by unfold maxLen; omega) (by omega) hbase
    unfold Oper.wp execOp
    simp only [ho, resolve, invoke, builtin, Sem.run_bind, Sem.run_pure, Result.andThen_ok, List.map_toArray, List.map_cons, List.map_nil, hs, hx, hr]
    refine h v' w' ?_ g2
    show w'.ownsRow base tR 2 v' (l ++ ms).length (enC (l ++ ms))
    rw [List.length_append, enC_app]
    exact g1
end Go.Proofs.Ytipgjpmaflcpkaa
