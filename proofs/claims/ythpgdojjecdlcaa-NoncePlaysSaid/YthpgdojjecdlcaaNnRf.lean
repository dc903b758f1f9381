/- The reference of nonce: rows of entries, and what appends to them (after TeRow). The reference of nonce: its Store in memory; old, Sweep. The reference of nonce: Nonce, find, Check. The reference of nonce: set, Spend, Use. -/
import Derived.Test.YthpgdojjecdlcaaNnOps7
import Derived.StillTailTactics
import Derived.Laws.AppendOwnNone
import Derived.Maps.AppendAt
import Derived.Deep.RegionHeld3
import Derived.LoopTactic
import Derived.BigQuiet
set_option maxRecDepth 100000
namespace Go.Proofs.Ythpgdojjecdlcaa
open Go.RowKit
abbrev tR : TypeId := 80
abbrev tRs : TypeId := 34
abbrev PL := List (List UInt8 × VT)
def reC (q : List UInt8 × VT) : List Value := [strT q.2.s, strT q.1, .int .u64 q.2.a, .bool q.2.sp, .int .u32 q.2.ct]
theorem info_re : (Try.prog.info? tR).map (fun i => (i.zero, i.size, i.bytes)) = some (some (.agg #[.string ⟨#[]⟩, .string ⟨#[]⟩, .int .u64 0, .bool false, .int .u32 0]), 5, 48) := by kernel_rfl
def enC : PL → List Value
  | [] => []
  | q :: t => reC q ++ enC t
theorem enC_length : ∀ l : PL, (enC l).length = l.length * 5
  | [] => rfl
  | q :: t => by show (reC q ++ enC t).length = _; rw [List.length_append, enC_length t, List.length_cons]; show 5 + _ = _; omega
theorem enC_app (r : PL) : ∀ l : PL, enC (l ++ r) = enC l ++ enC r
  | [] => rfl
  | q :: t => by show reC q ++ enC (t ++ r) = _; rw [enC_app r t, ← List.append_assoc]; rfl
theorem enC_at : ∀ (l : PL) (i : Nat) (h : i < l.length) (k : Nat), k < 5 → (enC l)[i * 5 + k]? = (reC l[i])[k]?
  | [], _, h, _, _ => absurd h (by simp)
  | q :: t, 0, _, k, hk => by
    show (reC q ++ enC t)[0 * 5 + k]? = _
    rw [Nat.zero_mul, Nat.zero_add, List.getElem?_append_left hk]; rfl
  | q :: t, i + 1, h, k, hk => by
    have h1 := enC_at t i (by simpa using h) k hk
    show (reC q ++ enC t)[(i + 1) * 5 + k]? = _
    rw [List.getElem?_append_right (by show 5 ≤ _; omega)]
    have e : (i + 1) * 5 + k - (reC q).length = i * 5 + k := by show (i + 1) * 5 + k - 5 = _; omega
    rw [e, h1]; rfl
theorem reC_one (q : List UInt8 × VT) : ∀ u ∈ reC q, u.oneCell' = true := by
  intro u hu
  simp [reC] at hu
  rcases hu with rfl | rfl | rfl | rfl | rfl <;> rfl
theorem enC_one (l : PL) : ∀ u ∈ enC l, u.oneCell' = true := by
  induction l with
  | nil => intro u hu; simp [enC] at hu
  | cons q t ih =>
    intro u hu
    rcases List.mem_append.1 (show u ∈ reC q ++ enC t from hu) with hu | hu
    · exact reC_one q u hu
    · exact ih u hu
/-- The row v, its own, holds the entries l. -/
abbrev ER (w : World) (base : Nat) (v : Value) (l : PL) : Prop := w.ownsRow base tR 5 v l.length (enC l)
/-- The cells from block g's place o on hold the entries l. -/
def EsAt (w : World) (g o : Nat) (l : PL) : Prop := ∀ j (h : j < l.length) k, k < 5 → w.cell? ⟨g, o + j * 5 + k, none⟩ = (reC l[j])[k]?
theorem EsAt.five {w : World} {g o : Nat} {l : PL} (h : EsAt w g o l) (j : Nat) (hj : j < l.length) : w.cell? ⟨g, o + j * 5, none⟩ = some (strT l[j].2.s) ∧ w.cell? ⟨g, o + j * 5 + 1, none⟩ = some (strT l[j].1) ∧ w.cell? ⟨g, o + j * 5 + 2, none⟩ = some (.int .u64 l[j].2.a) ∧ w.cell? ⟨g, o + j * 5 + 3, none⟩ = some (.bool l[j].2.sp) ∧ w.cell? ⟨g, o + j * 5 + 4, none⟩ = some (.int .u32 l[j].2.ct) :=
  ⟨h j hj 0 (by omega), h j hj 1 (by omega), h j hj 2 (by omega), h j hj 3 (by omega), h j hj 4 (by omega)⟩
/-- The slice v, below block B, holds the entries l. -/
def ES (w : World) (B : Nat) (v : Value) (l : PL) : Prop :=
  ∃ A c, v = .slice A l.length c ∧ (A = none → c = 0) ∧ l.length ≤ c ∧ c ≤ 9223372036854775807 ∧
    (0 < l.length → ∃ g o, A = some ⟨g, o, none⟩ ∧ g < B ∧ EsAt w g o l)
section
variable {w w' : World} {B base : Nat} {v : Value} {l : PL}
theorem ES.below (h : ES w B v l) {B' : Nat} (hb : Below B' w w') (hB : B ≤ B') : ES w' B v l := by
  obtain ⟨A, c, e, h0, h1, h2, h3⟩ := h
  refine ⟨A, c, e, h0, h1, h2, fun hl => ?_⟩
  obtain ⟨g, o, e2, hg, hc⟩ := h3 hl
  exact ⟨g, o, e2, hg, fun j hj k hk => (hb.cell (p := ⟨g, o + j * 5 + k, none⟩) (by show g < B'; omega)).trans (hc j hj k hk)⟩
theorem ES.cell {n c : Nat} {g o : Nat} (h : ES w B (.slice (some ⟨g, o, none⟩) n c) l) (hl : 0 < l.length) : EsAt w g o l ∧ g < B := by
  obtain ⟨A, c', e, _, _, _, h3⟩ := h
  obtain ⟨g', o', e2, hg, hc⟩ := h3 hl
  injection e with e1 _ _
  rw [e2] at e1
  injection e1 with e1
  injection e1 with e1 e3 _
  subst e1; subst e3
  exact ⟨hc, hg⟩
theorem ER.nil (w : World) (base : Nat) : ER w base (.slice none 0 0) [] := World.ownsRow_nil w base _ 5
theorem ER.parts (h : ER w base v l) : ∃ A c, v = .slice A l.length c ∧ l.length ≤ c ∧ c ≤ 9223372036854775807 ∧ (A = none → c = 0) ∧ (∀ g, v.ownBlock = some g → base ≤ g ∧ g < w.heap.size) ∧ (0 < l.length → ∃ g, A = some ⟨g, 0, none⟩) := by
  rcases h.2 with ⟨rfl, hz⟩ | ⟨g, cap, cur, rfl, hb, hg, h1, h2, _⟩
  · refine ⟨none, 0, by rw [hz], by omega, by omega, fun _ => rfl, fun g hg => by simp [Value.ownBlock] at hg, fun hl => by omega⟩
  · refine ⟨some ⟨g, 0, none⟩, cap, rfl, h1, by unfold maxLen at h2; omega, (fun e => by cases e), (fun k e => by cases e; exact ⟨hb, (Array.getElem?_eq_some_iff.1 hg).1⟩), fun _ => ⟨g, rfl⟩⟩
theorem ER.es (h : ER w base v l) : ES w w.heap.size v l := by
  obtain ⟨A, c, rfl, h1, h2, h0, hb, hg⟩ := h.parts
  refine ⟨A, c, rfl, h0, h1, h2, fun hl => ?_⟩
  obtain ⟨g, rfl⟩ := hg hl
  refine ⟨g, 0, rfl, (hb g rfl).2, fun j hj k hk => ?_⟩
  rw [Nat.zero_add]
  exact (World.ownsRow.cellAt h (j * 5 + k) (by omega)).trans (enC_at l j hj k hk)
theorem ER.below (h : ER w base v l) (hb : Below w.heap.size w w') : ER w' base v l := by
  obtain ⟨h1, h2 | ⟨g, cap, cur, rfl, hbg, hg, h3⟩⟩ := h
  · exact ⟨h1, .inl h2⟩
  · exact ⟨h1, .inr ⟨g, cap, cur, rfl, hbg, (hb.block g (Array.getElem?_eq_some_iff.1 hg).1).trans hg, h3⟩⟩
theorem ER.lower {base' : Nat} (h : ER w base v l) (hb : base' ≤ base) : ER w base' v l := by
  obtain ⟨h1, h2 | ⟨g, cap, cur, rfl, hbg, hg, h3⟩⟩ := h
  · exact ⟨h1, .inl h2⟩
  · exact ⟨h1, .inr ⟨g, cap, cur, rfl, by omega, hg, h3⟩⟩
/-- Where rows of its type are kept. -/
theorem ER.kt (h : ER w base v l) (hk : ∀ (g : Nat) (c : Array Value) (f : Nat × Nat), w.heap[g]? = some (Obj.cells c tR f) → w'.heap[g]? = some (Obj.cells c tR f)) : ER w' base v l := by
  obtain ⟨h1, h2 | ⟨g, cap, cur, rfl, hbg, hg, h3⟩⟩ := h
  · exact ⟨h1, .inl h2⟩
  · exact ⟨h1, .inr ⟨g, cap, cur, rfl, hbg, hk _ _ _ hg, h3⟩⟩
theorem ER.empty (w : World) : ER (w.alloc (.cells #[] tR)) w.heap.size (.slice (some ⟨w.heap.size, 0, none⟩) 0 0) [] :=
  ⟨by simp [enC], .inr ⟨w.heap.size, 0, #[], rfl, Nat.le_refl _, heap_alloc_new w _, by simp, by unfold maxLen; omega, by simp [enC]⟩⟩
theorem ER.belowBase (h : ER w base v l) (hg : w.grownBy w' v.ownBlock) (hb : base ≤ w.heap.size) : Below base w w' :=
  ⟨hg.os, hg.tape, hg.output, hg.size, fun k hk => hg.block k (by omega) (fun e => by
    obtain ⟨_, _, _, _, _, _, h2, _⟩ := h.parts
    have := (h2 k e.symm).1
    omega)⟩
theorem ES.drop (h : ES w B v l) (k : Nat) (K : Int) (hK : K = (k : Int)) (hk : k ≤ l.length) : ∃ V, (∀ W, (Instr.slice tRs v (some (.int .i64 K)) none none).run Try.prog W = .ok V W) ∧ (∀ W, ES W B v l → ES W B V (l.drop k)) := by
  subst hK
  obtain ⟨A, c, rfl, h0, h1, h2, h3⟩ := h
  clear h3
  refine ⟨sliced A k l.length c 5, fun W => ?_, fun W hW => ?_⟩
  · rw [run_slice_l W tRs A l.length c Try.underlying34 .i64 k (by omega) (by omega)]
    simp [go_sem]
  · obtain ⟨A', c', e, g0, g1, g2, g3⟩ := hW
    injection e with e1 e2 e3
    subst e1; subst e3
    have e4 : (l.drop k).length = l.length - k := by rw [List.length_drop]
    unfold sliced
    refine ⟨_, c - k, by rw [e4], ?_, by omega, by omega, fun hp => ?_⟩
    · intro hz
      by_cases hck : c = k
      · omega
      · rw [if_neg hck] at hz
        have := h0 (by simpa using hz)
        omega
    · obtain ⟨g, o, rfl, hg, hc⟩ := g3 (by omega)
      clear g3
      rw [if_neg (show ¬ c = k by omega)]
      refine ⟨g, o + k * 5, ?_, hg, fun j hj k' hk' => ?_⟩
      · simp [Addr.add_mid]
      · have e5 : (l.drop k)[j] = l[k + j]'(by omega) := List.getElem_drop ..
        rw [e5]
        have := hc (k + j) (show k + j < l.length by omega) k' hk'
        rw [show o + (k + j) * 5 + k' = o + k * 5 + j * 5 + k' by omega] at this
        exact this
end
theorem enC_set : ∀ (l : PL) (i : Nat) (q : List UInt8 × VT) (_h : i < l.length), (((((enC l).set (i * 5) (strT q.2.s)).set (i * 5 + 1) (strT q.1)).set (i * 5 + 2) (.int .u64 q.2.a)).set (i * 5 + 3) (.bool q.2.sp)).set (i * 5 + 4) (.int .u32 q.2.ct) = enC (l.set i q)
  | [], _, _, h => absurd h (by simp)
  | p :: t, 0, q, _ => rfl
  | p :: t, i + 1, q, h => by
    have ih := enC_set t i q (by simpa using h)
    show (((((reC p ++ enC t).set ((i + 1) * 5) _).set ((i + 1) * 5 + 1) _).set ((i + 1) * 5 + 2) _).set ((i + 1) * 5 + 3) _).set ((i + 1) * 5 + 4) _ = reC p ++ enC (t.set i q)
    rw [← ih]
    have e : ∀ (L : List Value) (k : Nat) (v : Value), k < 5 → (reC p ++ L).set ((i + 1) * 5 + k) v = reC p ++ L.set (i * 5 + k) v := fun L k v hk => by
      rw [List.set_append_right _ _ (by show 5 ≤ _; omega)]
      congr 2
      show (i + 1) * 5 + k - 5 = _
      omega
    have e0 := e (enC t) 0 (strT q.2.s) (by omega)
    simp only [Nat.add_zero] at e0
    rw [e0, e _ 1 _ (by omega), e _ 2 _ (by omega), e _ 3 _ (by omega), e _ 4 _ (by omega)]
theorem ER.setAt {w : World} {base g cap : Nat} {l : PL} (h : ER w base (.slice (some ⟨g, 0, none⟩) l.length cap) l) (i : Nat) (q : List UInt8 × VT) (hi : i < l.length) :
    ER (((((w.setCell ⟨g, i * 5, none⟩ (strT q.2.s)).setCell ⟨g, i * 5 + 1, none⟩ (strT q.1)).setCell ⟨g, i * 5 + 2, none⟩ (.int .u64 q.2.a)).setCell ⟨g, i * 5 + 3, none⟩ (.bool q.2.sp)).setCell ⟨g, i * 5 + 4, none⟩ (.int .u32 q.2.ct)) base (.slice (some ⟨g, 0, none⟩) l.length cap) (l.set i q) := by
  show World.ownsRow _ _ _ _ _ (l.set i q).length _
  rw [List.length_set, ← enC_set l i q hi]
  exact (World.ownsRow.stored (World.ownsRow.stored (World.ownsRow.stored (World.ownsRow.stored (World.ownsRow.stored h _ _).1 _ _).1 _ _).1 _ _).1 _ _).1
theorem ER.free {w : World} {base g cap : Nat} {l : PL} (h : ER w base (.slice (some ⟨g, 0, none⟩) l.length cap) l) (i : Nat) : w.frozen? ⟨g, i, none⟩ = false := by
  rcases h.2 with ⟨h', _⟩ | ⟨g', cap', cur, e, _, hg, _⟩
  · cases h'
  · injection e with e1 _ _
    injection e1 with e1
    injection e1 with e1 _ _
    subst e1
    simp [World.frozen?, hg]
theorem ES.one (w : World) (q : List UInt8 × VT) : ES (w.alloc (.cells #[strT q.2.s, strT q.1, .int .u64 q.2.a, .bool q.2.sp, .int .u32 q.2.ct] tR)) (w.heap.size + 1) (.slice (some ⟨w.heap.size, 0, none⟩) 1 1) [q] := by
  have hb : BlkT (w.alloc (.cells #[strT q.2.s, strT q.1, .int .u64 q.2.a, .bool q.2.sp, .int .u32 q.2.ct] tR)) w.heap.size tR (reC q) := heap_alloc_new w _
  refine ⟨_, 1, rfl, (fun e => by cases e), by simp, by omega, fun _ => ⟨w.heap.size, 0, rfl, by omega, fun j hj k hk => ?_⟩⟩
  obtain rfl : j = 0 := by simpa using hj
  rw [Nat.zero_mul, Nat.add_zero, Nat.zero_add]
  exact hb.blk.cell k
/-- Entries are appended to a row of its own. -/
theorem wpList_app_es {w : World} {ops : Array Oper} {rest : List Oper} {o : Oper} {a : Act} {Q : Exit → Act → World → Prop} (hgd : o.guard = none) (s x : Operand) (ho : o.op = .call { callee := .builtin .append, args := #[s, x], argTypes := #[tRs, tRs] })
    (base : Nat) (v : Value) (l ms : PL) (hs : a.eval s = v) (hown : ER w base v l) (B : Nat) (vx : Value) (hx : a.eval x = vx) (hsrc : ES w B vx ms)
    (hlen : l.length + ms.length ≤ 1000000) (hbase : base ≤ w.heap.size)
    (h : ∀ v' w', ER w' base v' (l ++ ms) → w.grownBy w' v.ownBlock → wpList Try.prog ops Q rest (a.put o.dst v') w') : wpList Try.prog ops Q (o :: rest) a w := by
  obtain ⟨A, c, rfl, h0, h1, h2, h3⟩ := hsrc
  obtain ⟨i0, hi, hz0, hz1, hz2⟩ := info_parts info_re
  cases A with
  | none =>
    obtain rfl := h0 rfl
    obtain rfl : ms = [] := List.eq_nil_of_length_eq_zero (by omega)
    exact wpList_append_own_none hgd s x tRs ho base tR i0 5 Try.underlying34 hi v l.length (enC l) hs hown hx (h v w (by simpa using hown) (World.grownBy.refl w _))
  | some ad =>
    refine wpList_append_own w hgd s x tRs ho base tR i0 _ 5 48 Try.underlying34 hi hz0 hz1 hz2 rfl (by decide) v l.length (enC l) hs hown ad ms.length c (enC ms) hx (enC_length ms) ?_ (enC_one ms) (by unfold maxLen; omega) (by omega) hbase ?_
    · intro j u hu
      have hj : j < ms.length * 5 := by
        have := (List.getElem?_eq_some_iff.1 hu).1
        rwa [enC_length] at this
      obtain ⟨g, o', e, _, hc⟩ := h3 (by omega)
      obtain rfl := Option.some.inj e
      clear h3
      rw [Addr.add_lit]
      have k1 := hc (j / 5) (by omega) (j % 5) (by omega)
      have k2 := enC_at ms (j / 5) (by omega) (j % 5) (by omega)
      rw [show o' + j / 5 * 5 + j % 5 = o' + j by omega] at k1
      rw [show j / 5 * 5 + j % 5 = j by omega, hu] at k2
      exact k1.trans k2.symm
    · intro v' w' k1 k2 _
      refine h v' w' ?_ k2
      show w'.ownsRow base tR 5 v' (l ++ ms).length (enC (l ++ ms))
      rw [List.length_append, enC_app]
      exact k1
/-- The same as one step of a region that draws its order. -/
theorem step_app_es {w : World} {ops : Array Oper} {o : Oper} {a : Act} {K : Act → World → Prop} {Q : Exit → Act → World → Prop} {E : Prop}
    (hgd : o.guard = none) (s x : Operand) (ho : o.op = .call { callee := .builtin .append, args := #[s, x], argTypes := #[tRs, tRs] })
    (base : Nat) (v : Value) (l ms : PL) (hs : a.eval s = v) (hown : ER w base v l) (B : Nat) (vx : Value) (hx : a.eval x = vx) (hsrc : ES w B vx ms)
    (hlen : l.length + ms.length ≤ 1000000) (hbase : base ≤ w.heap.size)
    (h : ∀ v' w', ER w' base v' (l ++ ms) → w.grownBy w' v.ownBlock → K (a.put o.dst v') w') : if Region.wanted o (yielded ops a.tmps) = true then Oper.wp Try.prog o a w K Q else E := by
  rw [if_pos (show Region.wanted o (yielded ops a.tmps) = true by simp [Region.wanted, hgd])]
  obtain ⟨A, c, rfl, h0, h1, h2, h3⟩ := hsrc
  obtain ⟨i0, hi, hz0, hz1, hz2⟩ := info_parts info_re
  cases A with
  | none =>
    obtain rfl := h0 rfl
    obtain rfl : ms = [] := List.eq_nil_of_length_eq_zero (by omega)
    have hrun := run_append_owned_none (P := Try.prog) (w := w) base tRs o.type tR i0 5 Try.underlying34 hi v l.length (enC l) hown
    unfold Oper.wp
    simp [execOp, ho, resolve, invoke, builtin, hs, hx, hrun, Result.andThen]
    exact h v w (by simpa using hown) (World.grownBy.refl w _)
  | some ad =>
    have hcells : ∀ j u, (enC ms)[j]? = some u → w.cell? (ad.add j) = some u := by
      intro j u hu
      have hj : j < ms.length * 5 := by
        have := (List.getElem?_eq_some_iff.1 hu).1
        rwa [enC_length] at this
      obtain ⟨g, o', e, _, hc⟩ := h3 (by omega)
      obtain rfl := Option.some.inj e
      clear h3
      rw [Addr.add_lit]
      have k1 := hc (j / 5) (by omega) (j % 5) (by omega)
      have k2 := enC_at ms (j / 5) (by omega) (j % 5) (by omega)
      rw [show o' + j / 5 * 5 + j % 5 = o' + j by omega] at k1
      rw [show j / 5 * 5 + j % 5 = j by omega, hu] at k2
      exact k1.trans k2.symm
    obtain ⟨v', w', hr, g1, g2, _, g3⟩ := run_append_own_at (P := Try.prog) w base tRs o.type tR i0 _ 5 48 Try.underlying34 hi hz0 hz1 hz2 rfl (by decide) v l.length (enC l) hown ad ms.length c (enC ms) (enC_length ms) hcells (enC_one ms) (by unfold maxLen; omega) (by omega) hbase
    unfold Oper.wp execOp
    simp only [ho, resolve, invoke, builtin, Sem.run_bind, Sem.run_pure, Result.andThen_ok, List.map_toArray, List.map_cons, List.map_nil, hs, hx, hr]
    refine h v' w' ?_ g2
    show w'.ownsRow base tR 5 v' (l ++ ms).length (enC (l ++ ms))
    rw [List.length_append, enC_app]
    exact g1
end Go.Proofs.Ythpgdojjecdlcaa
set_option maxRecDepth 100000
namespace Go.Proofs.Ythpgdojjecdlcaa
open Go.RowKit Go.Shelf
abbrev tX : TypeId := 36
def rxC (K : Nat) (f : NF) (v : Value) : List Value := [.int .i64 (K : Int), u64v f.wd, v, u64v f.se, u64v f.la, u64v f.mr, .bool f.md]
/-- The reference's Store at block X; its entries lie in a row of its own from base on. -/
def XR (w : World) (base X K : Nat) (f : NF) (l : PL) : Prop := ∃ v, BlkT w X tX (rxC K f v) ∧ ER w base v l
abbrev eRv (q : List UInt8 × VT) : Value := .agg #[strT q.2.s, strT q.1, .int .u64 q.2.a, .bool q.2.sp, .int .u32 q.2.ct]
section
variable {w w1 w' : World} {base X K : Nat} {f f' : NF} {l l' : PL} {v0 : Value}
theorem XR.lt (h : XR w base X K f l) : X < w.heap.size := by obtain ⟨v, h, _⟩ := h; exact h.lt
theorem XR.below (h : XR w base X K f l) (hb : Below w.heap.size w w') : XR w' base X K f l := by
  obtain ⟨v, h1, h2⟩ := h
  exact ⟨v, h1.below hb h1.lt, h2.below hb⟩
/-- A new row is stored into the Store, and its numbers are new. -/
theorem XR.store {v' : Value} (hX : BlkT w' X tX (rxC K f' v')) (hv : ER w1 w.heap.size v' l') (ht : Trn [X] w1 w') (hXw : X < w.heap.size) (hbase : base ≤ w.heap.size) : XR w' base X K f' l' := by
  refine ⟨v', hX, ER.lower ?_ hbase⟩
  obtain ⟨h1, h2 | ⟨g, cap, cur, rfl, hbg, hg, h3⟩⟩ := hv
  · exact ⟨h1, .inl h2⟩
  · exact ⟨h1, .inr ⟨g, cap, cur, rfl, hbg, (ht.block g (Array.getElem?_eq_some_iff.1 hg).1 (fun e => by rw [List.mem_singleton] at e; omega)).trans hg, h3⟩⟩
theorem old_any (h : BlkT w X tX (rxC K f v0)) (q : List UInt8 × VT) (now : Int) (n0 : 0 ≤ now) (n1 : now < 18446744073709551616) (a0 : 0 ≤ q.2.a) :
    Calls Try.prog 45 #[tP X, eRv q, u64v now] w fun e w' => e = .returned (.bool (goneB f now q.2)) ∧ Below w.heap.size w w' := by
  obtain ⟨k, s, a, sp, ct⟩ := q
  unfold eRv goneB oldB mkdB
  simp only at a0 ⊢
  obtain ⟨W, hW⟩ : ∃ W, W = w.alloc (.cells #[strT s, strT k, .int .u64 a, .bool sp, .int .u32 ct] tR) := ⟨_, rfl⟩
  have hB : Below w.heap.size w W := by rw [hW]; exact (Below.refl _ w).alloc (Nat.le_refl _) _
  have hP : BlkT W w.heap.size tR [strT s, strT k, .int .u64 a, .bool sp, .int .u32 ct] := by rw [hW]; exact heap_alloc_new w _
  have hXW := h.below hB h.lt
  have c1 : (w.alloc (.cells #[strT s, strT k, .int .u64 a, .bool sp, .int .u32 ct] tR)).cell? ⟨w.heap.size, 2, none⟩ = some (.int .u64 a) := by rw [← hW]; exact hP.at rfl
  have c2 : (w.alloc (.cells #[strT s, strT k, .int .u64 a, .bool sp, .int .u32 ct] tR)).cell? ⟨X, 1, none⟩ = some (u64v f.wd) := by rw [← hW]; exact hXW.at rfl
  have c3 : (w.alloc (.cells #[strT s, strT k, .int .u64 a, .bool sp, .int .u32 ct] tR)).cell? ⟨X, 5, none⟩ = some (u64v f.mr) := by rw [← hW]; exact hXW.at rfl
  have c4 : (w.alloc (.cells #[strT s, strT k, .int .u64 a, .bool sp, .int .u32 ct] tR)).cell? ⟨X, 6, none⟩ = some (.bool f.md) := by rw [← hW]; exact hXW.at rfl
  rw [hW] at hB
  have HB := Lib.hid hB
  clear h hP hB hW hXW
  obtain ⟨wd, se, la, mk, md⟩ := f
  simp only at c2 c3 c4 ⊢
  by_cases h1 : a < now
  · have e1 : decide (a < now) = true := decide_eq_true h1
    have hs : 0 ≤ now - a ∧ now - a < 18446744073709551616 := by omega
    by_cases h2 : wd < now - a
    · have e2 : decide (wd < now - a) = true := decide_eq_true h2
      have hr : (decide (a < now ∧ ¬ now - a ≤ wd) || (md && decide (a ≤ mk))) = true := by rw [decide_eq_true (p := a < now ∧ ¬ now - a ≤ wd) ⟨h1, by omega⟩]; rfl
      have HR := Lib.hid hr
      clear h1 h2 hr
      go_enter Try.func45, Try.ntmps45
      go_wp2_with fail
      go_quiet (fail)
      go_wp2_with fail
      go_ret
      exact ⟨by first | rfl | (rw [HR.out]; rfl), below_drewN HB.out _⟩
    · have e2 : decide (wd < now - a) = false := decide_eq_false h2
      have hr : (decide (a < now ∧ ¬ now - a ≤ wd) || (md && decide (a ≤ mk))) = (md && decide (a ≤ mk)) := by rw [decide_eq_false (p := a < now ∧ ¬ now - a ≤ wd) (by omega)]; rfl
      have HR := Lib.hid hr
      rw [HR.out]
      clear h1 h2 hr
      cases md with
      | false =>
        go_enter Try.func45, Try.ntmps45
        go_wp2_with fail
        go_quiet (fail)
        go_wp2_with fail
        go_ret
        exact ⟨rfl, below_drewN HB.out _⟩
      | true =>
        go_enter Try.func45, Try.ntmps45
        go_wp2_with fail
        go_quiet (fail)
        go_wp2_with fail
        go_ret
        exact ⟨by simp, below_drewN HB.out _⟩
  · have e1 : decide (a < now) = false := decide_eq_false h1
    have hr : (decide (a < now ∧ ¬ now - a ≤ wd) || (md && decide (a ≤ mk))) = (md && decide (a ≤ mk)) := by rw [decide_eq_false (p := a < now ∧ ¬ now - a ≤ wd) (by omega)]; rfl
    have HR := Lib.hid hr
    rw [HR.out]
    clear h1 hr
    cases md with
    | false =>
      go_enter Try.func45, Try.ntmps45
      go_wp2_with fail
      go_quiet (fail)
      go_wp2_with fail
      go_ret
      exact ⟨rfl, below_drewN HB.out _⟩
    | true =>
      go_enter Try.func45, Try.ntmps45
      go_wp2_with fail
      go_quiet (fail)
      go_wp2_with fail
      go_ret
      exact ⟨by simp, below_drewN HB.out _⟩
theorem sw_take_succ (f : NF) (now : Int) (l : PL) (j : Nat) (h : j < l.length) :
    (swL f now (l.take (j + 1)) = if goneB f now l[j].2 = true then swL f now (l.take j) else swL f now (l.take j) ++ [l[j]]) ∧ (swN f now (l.take (j + 1)) = if goneB f now l[j].2 = true then swN f now (l.take j) + 1 else swN f now (l.take j)) := by
  unfold swL swN
  rw [List.take_succ_eq_append_getElem h, List.filter_append, List.filter_append]
  cases hg : goneB f now l[j].2 with
  | true => simp [hg]
  | false => simp [hg]
theorem sw_len_le (f : NF) (now : Int) (l : PL) : (swL f now l).length ≤ l.length := List.length_filter_le _ _
set_option maxHeartbeats 2000000 in
theorem rsweep_X (h : XR w base X K f l) (now : Int) (n0 : 0 ≤ now) (n1 : now < 18446744073709551616) (hl : l.length ≤ 4096) (hok : okL l) (hbase : base ≤ w.heap.size) :
    Calls Try.prog 26 #[tP X, u64v now] w fun e w' => e = .returned (.int .i64 (swN f now l)) ∧ XR w' base X K f (swL f now l) ∧ Trn [X] w w' := by
  have HX0 := Lib.hid h
  obtain ⟨v, hX, hE⟩ := h
  have HES := Lib.hid hE.es
  obtain ⟨A, c, rfl, h1, h2, _, _⟩ := hE.parts
  have c2 : w.cell? ⟨X, 2, none⟩ = some (.slice A l.length c) := hX.at rfl
  have HX := Lib.hid hX
  clear hX hE
  go_enter Try.func26, Try.ntmps26
  go_wp2_with fail
  go_loopw [5, 6, 16] (fun s5 s6 i wr => ∃ j : Nat, j ≤ l.length ∧ i = .int .i64 (j : Int) ∧ s6 = .int .i64 (swN f now (l.take j)) ∧ ER wr w.heap.size s5 (swL f now (l.take j)) ∧ Below w.heap.size w wr) (fun _ _ i _ => l.length - (intOf i).toNat)
  case atStart => exact ⟨0, by omega, rfl, rfl, ER.nil _ _, Below.refl _ _⟩
  case round =>
    obtain ⟨j, hj, rfl, rfl, hE, hB⟩ := hrel
    have HE := Lib.hid hE
    have HB := Lib.hid hB
    by_cases hlt : j < l.length
    · obtain ⟨s1, s2⟩ := sw_take_succ f now l j hlt
      have hsl := sw_len_le f now (l.take j)
      rw [List.length_take] at hsl
      have hnn : 0 ≤ swN f now (l.take j) ∧ swN f now (l.take j) ≤ (j : Int) := by
        have := sw_len f now (l.take j)
        rw [List.length_take] at this
        exact ⟨by unfold swN; omega, by omega⟩
      obtain ⟨g, o, rfl, hg, hc⟩ : ∃ g o, A = some ⟨g, o, none⟩ ∧ g < w.heap.size ∧ EsAt w g o l := by
        obtain ⟨A', c', e, _, _, _, h3⟩ := HES.out
        obtain ⟨g, o, rfl, hg, hc⟩ := h3 (by omega)
        cases e
        exact ⟨g, o, rfl, hg, hc⟩
      obtain ⟨e0, e1, e2, e3, e4⟩ := hc.five j hlt
      have hokj := hok _ (List.getElem_mem hlt)
      obtain ⟨q, hq⟩ : ∃ q, q = l[j] := ⟨_, rfl⟩
      rw [← hq] at e0 e1 e2 e3 e4 s1 s2 hokj
      have d0 : wr.cell? ⟨g, o + j * 5, none⟩ = some (strT q.2.s) := (hB.cell (p := ⟨g, o + j * 5, none⟩) hg).trans e0
      have d1 : wr.cell? ⟨g, o + j * 5 + 1, none⟩ = some (strT q.1) := (hB.cell (p := ⟨g, o + j * 5 + 1, none⟩) hg).trans e1
      have d2 : wr.cell? ⟨g, o + j * 5 + 2, none⟩ = some (.int .u64 q.2.a) := (hB.cell (p := ⟨g, o + j * 5 + 2, none⟩) hg).trans e2
      have d3 : wr.cell? ⟨g, o + j * 5 + 3, none⟩ = some (.bool q.2.sp) := (hB.cell (p := ⟨g, o + j * 5 + 3, none⟩) hg).trans e3
      have d4 : wr.cell? ⟨g, o + j * 5 + 4, none⟩ = some (.int .u32 q.2.ct) := (hB.cell (p := ⟨g, o + j * 5 + 4, none⟩) hg).trans e4
      obtain ⟨W, hW⟩ : ∃ W, W = wr.alloc (.cells #[strT q.2.s, strT q.1, .int .u64 q.2.a, .bool q.2.sp, .int .u32 q.2.ct] tR) := ⟨_, rfl⟩
      have hBW : Below wr.heap.size wr W := by rw [hW]; exact (Below.refl _ wr).alloc (Nat.le_refl _) _
      have hP : BlkT W wr.heap.size tR (reC q) := by rw [hW]; exact heap_alloc_new wr _
      have HO := Lib.hid (old_any ((HX.out.below hB HX.out.lt).below hBW (by have := HX.out.lt; have := hB.size; omega)) q now n0 n1 hokj.1)
      have S1 := Lib.hid s1; have S2 := Lib.hid s2
      have HBW := Lib.hid hBW; have HP := Lib.hid hP
      obtain ⟨cnt, hcnt⟩ : ∃ cnt, cnt = swN f now (l.take j) := ⟨_, rfl⟩
      obtain ⟨kept, hkept⟩ : ∃ kept, kept = swL f now (l.take j) := ⟨_, rfl⟩
      rw [← hcnt] at S2 hnn ⊢
      rw [← hkept] at S1 HE hsl
      obtain ⟨As, cs, rfl, _, _⟩ := enRow_form HE.out
      clear e0 e1 e2 e3 e4 hc hq hE hB s1 s2 hBW hP hcnt hkept hokj
      unfold eRv at HO
      have CALL : Hid (∀ W', Below W.heap.size W W' → Below wr.heap.size wr W' ∧ BlkT W' wr.heap.size tR (reC q)) := Lib.hid (fun W' hb => ⟨HBW.out.trans (hb.mono HBW.out.size), HP.out.below hb HP.out.lt⟩)
      cases hg2 : goneB f now q.2 with
      | true =>
        rw [hg2, if_pos rfl] at S1 S2
        rw [hg2] at HO
        clear hg2
        go_wp2_with fail
        rw [← hW]
        refine HO.out.mono ?_
        rintro e w3 ⟨rfl, hb3⟩
        obtain ⟨hb4, _⟩ := CALL.out w3 hb3
        have HB4 := Lib.hid (HB.out.trans (hb4.mono HB.out.size))
        have HE4 := Lib.hid (ER.below HE.out hb4)
        clear hb3 hb4 HO CALL hW d0 d1 d2 d3 d4
        go_wp2_with fail
        go_roundw
        case rel => exact ⟨j + 1, by omega, by go_num, by rw [S2.out], by rw [S1.out]; exact HE4.out, HB4.out⟩
        case measure => simp [intOf]; omega
      | false =>
        rw [hg2, if_neg (by simp)] at S1 S2
        rw [hg2] at HO
        clear hg2
        go_wp2_with fail
        rw [← hW]
        refine HO.out.mono ?_
        rintro e w3 ⟨rfl, hb3⟩
        obtain ⟨hb4, hp4⟩ := CALL.out w3 hb3
        have HB4 := Lib.hid (HB.out.trans (hb4.mono HB.out.size))
        have HE4 := Lib.hid (ER.below HE.out hb4)
        have p0 : w3.cell? ⟨wr.heap.size, 0, none⟩ = some (strT q.2.s) := hp4.at rfl
        have p1 : w3.cell? ⟨wr.heap.size, 1, none⟩ = some (strT q.1) := hp4.at rfl
        have p2 : w3.cell? ⟨wr.heap.size, 2, none⟩ = some (.int .u64 q.2.a) := hp4.at rfl
        have p3 : w3.cell? ⟨wr.heap.size, 3, none⟩ = some (.bool q.2.sp) := hp4.at rfl
        have p4 : w3.cell? ⟨wr.heap.size, 4, none⟩ = some (.int .u32 q.2.ct) := hp4.at rfl
        have hba : Below w3.heap.size w3 (w3.alloc (.cells #[strT q.2.s, strT q.1, .int .u64 q.2.a, .bool q.2.sp, .int .u32 q.2.ct] tR)) := (Below.refl _ _).alloc (Nat.le_refl _) _
        have HBA := Lib.hid (HB4.out.trans (hba.mono HB4.out.size))
        have HEA := Lib.hid (ER.below HE4.out hba)
        have HKL : Hid (kept.length + [q].length ≤ 1000000) := Lib.hid (by simp; omega)
        clear hb3 hb4 HO CALL hW d0 d1 d2 d3 d4 hp4 hba
        go_wp2_with (at_builtin; go_loud ((with_reducible refine wpList_app_es ?g1 (.tmp 26) (.tmp 28) ?g2 w.heap.size (.slice As kept.length cs) kept [q] ?g3 ?g4 (w3.heap.size + 1) (.slice (some ⟨w3.heap.size, 0, none⟩) 1 1) ?g5 ?g6 ?g7 ?g8 ?_); (case g1 => rfl); (case g2 => rfl); (case g3 => rfl); (case g4 => exact HEA.out); (case g5 => rfl); (case g6 => exact ES.one w3 q); (case g7 => exact HKL.out); (case g8 => exact HBA.out.size); intro v1 w5 hv hg5; have HV5 := Lib.hid hv; have HB5 := Lib.hid (HBA.out.trans (HEA.out.belowBase hg5 HBA.out.size)); clear hv hg5))
        go_roundw
        case rel => exact ⟨j + 1, by omega, by go_num, by rw [S2.out], by rw [S1.out]; exact HV5.out, HB5.out⟩
        case measure => simp [intOf]; omega
    · obtain rfl : j = l.length := by omega
      rw [List.take_length] at HE ⊢
      obtain ⟨As, cs, rfl, _, _⟩ := enRow_form HE.out
      have hx2 := HX.out.below hB HX.out.lt
      have z2 := hx2.free 2
      have y2 : wr.cell? ⟨X, 2, none⟩ = some (.slice A l.length c) := hx2.at rfl
      have HX2 := Lib.hid hx2
      clear hE hB hx2
      go_wp2_with fail
      go_ret
      have ht := (Trn.of_below (S := [X]) HB.out).set (p := ⟨X, 2, none⟩) (by simp) (.slice As (swL f now l).length cs)
      refine ⟨rfl, XR.store (v' := .slice As (swL f now l).length cs) (w1 := wr) ?_ HE.out ?_ HX.out.lt hbase, ht⟩
      · exact HX2.out.set 2 _
      · exact (Trn.refl [X] wr).set (p := ⟨X, 2, none⟩) (by simp) _
end
end Go.Proofs.Ythpgdojjecdlcaa
set_option maxRecDepth 100000
namespace Go.Proofs.Ythpgdojjecdlcaa
open Go.RowKit Go.Shelf
set_option maxHeartbeats 1000000 in
theorem rnonce_any (s : List UInt8) (w : World) (hs : s.length ≤ 100000) :
    Calls Try.prog 46 #[strT s] w fun e w' => e = .returned (.bool (noncB s)) ∧ Below w.heap.size w w' := by
  go_enter Try.func46, Try.ntmps46
  go_wp2_with fail
  go_loopw [3] (fun i wr => ∃ k : Nat, k ≤ s.length ∧ i = .int .i64 (k : Int) ∧ (s.take k).all chB = true ∧ Below w.heap.size w wr) (fun i _ => s.length - (intOf i).toNat)
  case atStart => exact ⟨0, by omega, rfl, rfl, Below.refl _ _⟩
  case round =>
    obtain ⟨k, hk, rfl, hall, hB⟩ := hrel
    have HB := Lib.hid hB
    have HA := Lib.hid hall
    clear hB hall
    by_cases hlt : k < s.length
    · obtain ⟨c, hc⟩ : ∃ c, c = s.getD k 0 := ⟨_, rfl⟩
      have hix := fun W => str_index s k hlt W
      have HN := Lib.hid (all_take_succ s k hlt)
      rw [← hc] at hix HN
      clear hc
      have hb := bn_range c
      have ebn : bn c = (c.toNat : Int) := rfl
      have HE := Lib.hid ebn; clear ebn
      by_cases h1 : bn c < 33
      · have HF : Hid (s.all chB = false) := Lib.hid (all_of_take s (k + 1) (by rw [HN.out]; have := HE.out; unfold chB; rw [decide_eq_false (by omega)]; simp))
        have d1 : decide (bn c < 33) = true := decide_eq_true h1
        go_wp2_with fail
        go_ret
        exact ⟨by unfold noncB; rw [HF.out]; rfl, HB.out⟩
      · have d1 : decide (bn c < 33) = false := decide_eq_false h1
        by_cases h2 : 126 < bn c
        · have HF : Hid (s.all chB = false) := Lib.hid (all_of_take s (k + 1) (by rw [HN.out]; have := HE.out; unfold chB; rw [decide_eq_false (p := c.toNat ≤ 126) (by omega)]; simp))
          have d2 : decide (126 < bn c) = true := decide_eq_true h2
          go_wp2_with fail
          go_ret
          exact ⟨by unfold noncB; rw [HF.out]; rfl, HB.out⟩
        · have d2 : decide (126 < bn c) = false := decide_eq_false h2
          by_cases h3 : bn c = 44
          · have HF : Hid (s.all chB = false) := Lib.hid (all_of_take s (k + 1) (by rw [HN.out]; have := HE.out; unfold chB; rw [show (c.toNat == 44) = true from by rw [beq_iff_eq]; omega]; simp))
            have d3 : (bn c == 44) = true := beq_iff_eq.2 h3
            clear h3
            go_wp2_with fail
            go_ret
            exact ⟨by unfold noncB; rw [HF.out]; rfl, HB.out⟩
          · have d3 : (bn c == 44) = false := beq_eq_false_iff_ne.2 h3
            have HA2 : Hid ((s.take (k + 1)).all chB = true) := Lib.hid (by
              have := HE.out
              rw [HN.out, HA.out]
              unfold chB
              rw [decide_eq_true (p := 33 ≤ c.toNat) (by omega), decide_eq_true (p := c.toNat ≤ 126) (by omega), show (c.toNat == 44) = false from by rw [beq_eq_false_iff_ne]; omega]
              rfl)
            clear h3
            go_wp2_with fail
            go_roundw
            case rel => exact ⟨k + 1, by omega, by go_num, HA2.out, HB.out⟩
            case measure => simp [intOf]; omega
    · obtain rfl : k = s.length := by omega
      rw [List.take_length] at HA
      by_cases h0 : s = []
      · subst h0
        go_wp2_with fail
        go_ret
        exact ⟨rfl, HB.out⟩
      · have hp : 0 < s.length := List.length_pos_iff.2 h0
        have he : s.isEmpty = false := by cases s with
          | nil => exact absurd rfl h0
          | cons => rfl
        have d1 : decide ((1 : Int) ≤ (s.length : Int)) = true := decide_eq_true (by omega)
        by_cases h64 : s.length ≤ 64
        · have HR : Hid (noncB s = true) := Lib.hid (by unfold noncB; rw [HA.out, he, decide_eq_true h64]; rfl)
          have d64 : decide ((s.length : Int) ≤ 64) = true := decide_eq_true (by omega)
          go_wp2_with fail
          go_ret
          exact ⟨by rw [HR.out]; rfl, HB.out⟩
        · have HR : Hid (noncB s = false) := Lib.hid (by unfold noncB; rw [decide_eq_false h64]; simp)
          have d64 : decide ((s.length : Int) ≤ 64) = false := decide_eq_false (by omega)
          go_wp2_with fail
          go_ret
          exact ⟨by rw [HR.out]; rfl, HB.out⟩
/-- Where a nonce stands; the length: nowhere. -/
def fiX : PL → List UInt8 → Nat
  | [], _ => 0
  | q :: t, s => if q.2.s = s then 0 else fiX t s + 1
theorem fiX_le : ∀ (l : PL) (s : List UInt8), fiX l s ≤ l.length
  | [], _ => Nat.le_refl _
  | q :: t, s => by
    show (if q.2.s = s then 0 else fiX t s + 1) ≤ t.length + 1
    have := fiX_le t s
    split <;> omega
theorem fiX_at : ∀ (l : PL) (s : List UInt8) (h : fiX l s < l.length), l[fiX l s].2.s = s
  | [], _, h => absurd h (by simp [fiX])
  | q :: t, s, h => by
    by_cases hq : q.2.s = s
    · have e : fiX (q :: t) s = 0 := if_pos hq
      simp only [e, List.getElem_cons_zero]
      exact hq
    · have e : fiX (q :: t) s = fiX t s + 1 := if_neg hq
      simp only [e, List.getElem_cons_succ]
      exact fiX_at t s (by rw [e] at h; simpa using h)
theorem fiX_ne : ∀ (l : PL) (s : List UInt8) (j : Nat) (h : j < l.length), j < fiX l s → l[j].2.s ≠ s
  | [], _, _, h, _ => absurd h (by simp)
  | q :: t, s, j, h, hj => by
    by_cases hq : q.2.s = s
    · rw [show fiX (q :: t) s = 0 from if_pos hq] at hj; omega
    · rw [show fiX (q :: t) s = fiX t s + 1 from if_neg hq] at hj
      cases j with
      | zero => exact hq
      | succ i => exact fiX_ne t s i (by simpa using h) (by omega)
/-- Entries as a Store has them: each under its own draw, none twice. -/
structure WF (l : PL) : Prop where
  kn : (l.map (·.1)).Nodup
  ky : ∀ q ∈ l, q.1 = drL q.2.s
  ct : ∀ q ∈ l, 0 ≤ q.2.ct ∧ q.2.ct ≤ 4294967295
theorem fiN_hit {f : NF} {l : PL} {s : List UInt8} {now : Int} (h : WF l) (hi : fiX l s < l.length) : l[fiX l s].1 = drL s ∧ fiN f l s now = if now < l[fiX l s].2.a ∨ goneB f now l[fiX l s].2 = true then (none, 9) else (some l[fiX l s].2, 0) := by
  have h1 := fiX_at l s hi
  have h2 := h.ky _ (List.getElem_mem hi)
  rw [h1] at h2
  refine ⟨h2, ?_⟩
  have hg : getL l (drL s) = some l[fiX l s].2 := getL_of l h.kn (by
    have : l[fiX l s] = (drL s, l[fiX l s].2) := Prod.ext h2 rfl
    rw [← this]; exact List.getElem_mem hi)
  unfold fiN
  rw [hg]
  simp only
  rw [if_neg (by simpa using h1)]
theorem fiN_miss {f : NF} {l : PL} {s : List UInt8} {now : Int} (hi : ¬ fiX l s < l.length) : fiN f l s now = (none, 6) := by
  unfold fiN
  cases hg : getL l (drL s) with
  | none => rfl
  | some e =>
    simp only
    rw [if_pos ?_]
    intro he
    obtain ⟨j, hj, hje⟩ := List.getElem_of_mem (getL_mem l hg)
    have := fiX_ne l s j hj (by omega)
    rw [hje] at this
    exact this he
/-- Where find finds a nonce; 0: it doesn't. -/
def riN (f : NF) (l : PL) (s : List UInt8) (now : Int) : Int := if (fiN f l s now).2 = 0 then (fiX l s : Int) else 0
section
variable {w w1 w' : World} {base X K : Nat} {f f' : NF} {l l' : PL}
set_option maxHeartbeats 2000000 in
theorem rfind_X (h : XR w base X K f l) (s : List UInt8) (now : Int) (n0 : 0 ≤ now) (n1 : now < 18446744073709551616) (hl : l.length ≤ 4096) (hok : okL l) (hwf : WF l) (hwd : 0 ≤ f.wd) :
    Calls Try.prog 43 #[tP X, strT s, u64v now] w fun e w' => e = .returned (.tuple #[.int .i64 (riN f l s now), .int .i64 (fiN f l s now).2]) ∧ Below w.heap.size w w' := by
  obtain ⟨v, hX, hE⟩ := h
  have HES := Lib.hid hE.es
  obtain ⟨A, c, rfl, h1, h2, _, _⟩ := hE.parts
  have c2 : w.cell? ⟨X, 2, none⟩ = some (.slice A l.length c) := hX.at rfl
  have HX := Lib.hid hX
  clear hX hE
  obtain ⟨rI, hrI⟩ : ∃ rI, rI = riN f l s now := ⟨_, rfl⟩
  obtain ⟨rC, hrC⟩ : ∃ rC, rC = (fiN f l s now).2 := ⟨_, rfl⟩
  rw [← hrI, ← hrC]
  have HRI := Lib.hid hrI; have HRC := Lib.hid hrC
  clear hrI hrC
  go_enter Try.func43, Try.ntmps43
  go_wp2_with fail
  go_loopw [17] (fun i wr => ∃ j : Nat, j ≤ fiX l s ∧ j ≤ l.length ∧ i = .int .i64 (j : Int) ∧ Below w.heap.size w wr) (fun i _ => l.length - (intOf i).toNat)
  case atStart => exact ⟨0, by omega, by omega, rfl, Below.refl _ _⟩
  case round =>
    obtain ⟨j, hj, hjl, rfl, hB⟩ := hrel
    have HB := Lib.hid hB
    by_cases hlt : j < l.length
    · obtain ⟨g, o, rfl, hg, hc⟩ : ∃ g o, A = some ⟨g, o, none⟩ ∧ g < w.heap.size ∧ EsAt w g o l := by
        obtain ⟨A', c', e, _, _, _, h3⟩ := HES.out
        obtain ⟨g, o, rfl, hg, hc⟩ := h3 (by omega)
        cases e
        exact ⟨g, o, rfl, hg, hc⟩
      obtain ⟨e0, e1, e2, e3, e4⟩ := hc.five j hlt
      have hokj := hok _ (List.getElem_mem hlt)
      have HJ : Hid ((l[j].2.s = s → fiX l s = j) ∧ (l[j].2.s ≠ s → j + 1 ≤ fiX l s)) := by
        refine Lib.hid ⟨fun he => ?_, fun he => ?_⟩
        · rcases Nat.lt_or_ge j (fiX l s) with h | h
          · exact absurd he (fiX_ne l s j hlt h)
          · omega
        · rcases Nat.lt_or_ge j (fiX l s) with h | h
          · omega
          · have e : fiX l s = j := by omega
            have := fiX_at l s (by omega)
            simp only [e] at this
            exact absurd this he
      have HFN : Hid (l[j].2.s = s → fiN f l s now = if now < l[j].2.a ∨ goneB f now l[j].2 = true then (none, 9) else (some l[j].2, 0)) := Lib.hid (fun he => by
        have e : fiX l s = j := HJ.out.1 he
        have := (fiN_hit (f := f) (now := now) hwf (s := s) (by omega)).2
        simp only [e] at this
        exact this)
      obtain ⟨q, hq⟩ : ∃ q, q = l[j] := ⟨_, rfl⟩
      rw [← hq] at e0 e1 e2 e3 e4 HJ HFN hokj
      have d0 : wr.cell? ⟨g, o + j * 5, none⟩ = some (strT q.2.s) := (hB.cell (p := ⟨g, o + j * 5, none⟩) hg).trans e0
      have d1 : wr.cell? ⟨g, o + j * 5 + 1, none⟩ = some (strT q.1) := (hB.cell (p := ⟨g, o + j * 5 + 1, none⟩) hg).trans e1
      have d2 : wr.cell? ⟨g, o + j * 5 + 2, none⟩ = some (.int .u64 q.2.a) := (hB.cell (p := ⟨g, o + j * 5 + 2, none⟩) hg).trans e2
      have d3 : wr.cell? ⟨g, o + j * 5 + 3, none⟩ = some (.bool q.2.sp) := (hB.cell (p := ⟨g, o + j * 5 + 3, none⟩) hg).trans e3
      have d4 : wr.cell? ⟨g, o + j * 5 + 4, none⟩ = some (.int .u32 q.2.ct) := (hB.cell (p := ⟨g, o + j * 5 + 4, none⟩) hg).trans e4
      obtain ⟨W, hW⟩ : ∃ W, W = wr.alloc (.cells #[strT q.2.s, strT q.1, .int .u64 q.2.a, .bool q.2.sp, .int .u32 q.2.ct] tR) := ⟨_, rfl⟩
      have hBW : Below wr.heap.size wr W := by rw [hW]; exact (Below.refl _ wr).alloc (Nat.le_refl _) _
      have hP : BlkT W wr.heap.size tR (reC q) := by rw [hW]; exact heap_alloc_new wr _
      have hX1 := (HX.out.below hB HX.out.lt).below hBW (by have := HX.out.lt; have := hB.size; omega)
      have x1 : (wr.alloc (.cells #[strT q.2.s, strT q.1, .int .u64 q.2.a, .bool q.2.sp, .int .u32 q.2.ct] tR)).cell? ⟨X, 1, none⟩ = some (u64v f.wd) := by rw [← hW]; exact hX1.at rfl
      have x5 : (wr.alloc (.cells #[strT q.2.s, strT q.1, .int .u64 q.2.a, .bool q.2.sp, .int .u32 q.2.ct] tR)).cell? ⟨X, 5, none⟩ = some (u64v f.mr) := by rw [← hW]; exact hX1.at rfl
      have x6 : (wr.alloc (.cells #[strT q.2.s, strT q.1, .int .u64 q.2.a, .bool q.2.sp, .int .u32 q.2.ct] tR)).cell? ⟨X, 6, none⟩ = some (.bool f.md) := by rw [← hW]; exact hX1.at rfl
      have y2 : (wr.alloc (.cells #[strT q.2.s, strT q.1, .int .u64 q.2.a, .bool q.2.sp, .int .u32 q.2.ct] tR)).cell? ⟨wr.heap.size, 2, none⟩ = some (.int .u64 q.2.a) := by rw [← hW]; exact hP.at rfl
      have HBW := Lib.hid (HB.out.trans (hBW.mono HB.out.size))
      rw [hW] at HBW
      clear e0 e1 e2 e3 e4 hc hq hBW hP hX1 hW hB
      obtain ⟨qk, ⟨qs, qa, qsp, qct⟩⟩ := q
      obtain ⟨wd, se, la, mk, md⟩ := f
      simp only at d0 d1 d2 d3 d4 x1 x5 x6 y2 HJ HFN HBW hokj hwd
      by_cases he : qs = s
      · have hfi := HJ.out.1 he
        have hfn := HFN.out he
        have HRJ : Hid ((rC = 0 → rI = (j : Int)) ∧ (rC ≠ 0 → rI = 0)) := Lib.hid ⟨fun h => by rw [HRI.out]; unfold riN; rw [← HRC.out, if_pos h, hfi], fun h => by rw [HRI.out]; unfold riN; rw [← HRC.out, if_neg h]⟩
        have hrc : rC = if now < qa ∨ goneB ⟨wd, se, la, mk, md⟩ now ⟨qs, qa, qsp, qct⟩ = true then 9 else 0 := by rw [HRC.out, hfn]; split <;> rfl
        have HC := Lib.hid hrc
        clear HJ HFN hfi hfn hj HRI HRC hrc
        subst he
        by_cases k1 : now < qa
        · have e1 : decide (now < qa) = true := decide_eq_true k1
          have r9 : rC = 9 := by rw [HC.out, if_pos (.inl k1)]
          have r0 : rI = 0 := HRJ.out.2 (by rw [r9]; decide)
          subst r9; subst r0
          clear k1
          go_wp2_with fail
          go_quiet (fail)
          go_wp2_with fail
          go_ret2
          exact ⟨rfl, below_drewN HBW.out _⟩
        · have e1 : decide (now < qa) = false := decide_eq_false k1
          have hs : 0 ≤ now - qa ∧ now - qa < 18446744073709551616 := by omega
          by_cases k2 : wd < now - qa
          · have e2 : decide (wd < now - qa) = true := decide_eq_true k2
            have r9 : rC = 9 := by
              have hx : goneB ⟨wd, se, la, mk, md⟩ now ⟨qs, qa, qsp, qct⟩ = true := by
                have hd : decide (qa < now ∧ ¬ now - qa ≤ wd) = true := decide_eq_true ⟨by omega, by omega⟩
                unfold goneB oldB
                simp only [hd, Bool.true_or]
              rw [HC.out, if_pos (.inr hx)]
            have r0 : rI = 0 := HRJ.out.2 (by rw [r9]; decide)
            subst r9; subst r0
            clear k2 k1
            go_wp2_with fail
            go_quiet (fail)
            go_wp2_with fail
            go_ret2
            exact ⟨rfl, below_drewN HBW.out _⟩
          · have e2 : decide (wd < now - qa) = false := decide_eq_false k2
            have ho : oldB wd now ⟨qs, qa, qsp, qct⟩ = false := by unfold oldB; rw [decide_eq_false]; show ¬ (qa < now ∧ ¬ now - qa ≤ wd); omega
            cases md with
            | false =>
              have r9 : rC = 0 := by rw [HC.out, if_neg]; unfold goneB mkdB; rw [ho]; first | (simp; done) | (simp; omega)
              have r0 : rI = (j : Int) := HRJ.out.1 r9
              subst r9; subst r0
              clear k2 k1
              go_wp2_with fail
              go_quiet (fail)
              go_wp2_with fail
              go_ret2
              exact ⟨rfl, below_drewN HBW.out _⟩
            | true =>
              by_cases k3 : qa ≤ mk
              · have e3 : decide (qa ≤ mk) = true := decide_eq_true k3
                have hx : goneB ⟨wd, se, la, mk, true⟩ now ⟨qs, qa, qsp, qct⟩ = true := by unfold goneB mkdB; simp only; rw [ho]; simp [k3]
                have r9 : rC = 9 := by rw [HC.out, if_pos (.inr hx)]
                clear hx
                have r0 : rI = 0 := HRJ.out.2 (by rw [r9]; decide)
                subst r9; subst r0
                clear k2 k1 k3
                go_wp2_with fail
                go_quiet (fail)
                go_wp2_with fail
                go_ret2
                exact ⟨rfl, below_drewN HBW.out _⟩
              · have e3 : decide (qa ≤ mk) = false := decide_eq_false k3
                have r9 : rC = 0 := by rw [HC.out, if_neg]; unfold goneB mkdB; rw [ho]; first | (simp; done) | (simp; omega)
                have r0 : rI = (j : Int) := HRJ.out.1 r9
                subst r9; subst r0
                clear k2 k1 k3
                go_wp2_with fail
                go_quiet (fail)
                go_wp2_with fail
                go_ret2
                exact ⟨rfl, below_drewN HBW.out _⟩
      · have hfi := HJ.out.2 he
        have hbe : (qs == s) = false := beq_eq_false_iff_ne.2 he
        clear HJ HFN he
        go_wp2_with fail
        exact ⟨⟨j + 1, hfi, by omega, by go_num, HBW.out⟩, by simp [intOf]; omega⟩
    · have hjx : j = l.length := by omega
      have hn := fiX_le l s
      have r6 : rC = 6 := by rw [HRC.out, fiN_miss (by omega)]
      have r0 : rI = 0 := by rw [HRI.out]; unfold riN; rw [← HRC.out, r6]; rfl
      subst r6; subst r0
      clear hB
      go_wp2_with fail
      go_ret2
      exact ⟨rfl, HB.out⟩
theorem rcheck_X (h : XR w base X K f l) (s : List UInt8) (now : Int) (n0 : 0 ≤ now) (n1 : now < 18446744073709551616) (hl : l.length ≤ 4096) (hok : okL l) (hwf : WF l) (hwd : 0 ≤ f.wd) :
    Calls Try.prog 27 #[tP X, strT s, u64v now] w fun e w' => e = .returned (.int .i64 (fiN f l s now).2) ∧ Below w.heap.size w w' := by
  have HF := Lib.hid (rfind_X h s now n0 n1 hl hok hwf hwd)
  clear h
  go_enter Try.func27, Try.ntmps27
  go_wp2_with fail
  refine HF.out.mono ?_
  rintro e w1 ⟨rfl, hb⟩
  have HB := Lib.hid hb
  clear hb HF
  go_wp2_with fail
  go_ret
  exact ⟨rfl, HB.out⟩
end
end Go.Proofs.Ythpgdojjecdlcaa
set_option maxRecDepth 100000
namespace Go.Proofs.Ythpgdojjecdlcaa
open Go.RowKit Go.Shelf
theorem setL_set {l : PL} {k : List UInt8} {v : VT} (hn : (l.map (·.1)).Nodup) (i : Nat) (hi : i < l.length) (hk : l[i].1 = k) : setL l k v = (0, l.set i (k, v)) := by
  have hh : hasL l k = true := by
    unfold hasL
    rw [List.any_eq_true]
    exact ⟨_, List.getElem_mem hi, by simp [hk]⟩
  unfold setL
  rw [hh, if_pos rfl]
  congr 1
  refine List.ext_getElem (by simp) fun j h1 h2 => ?_
  rw [List.getElem_map, List.getElem_set]
  have hj : j < l.length := by simpa using h1
  by_cases e : i = j
  · subst e
    rw [if_pos rfl, hk]
    simp
  · rw [if_neg e]
    have hne : l[j].1 ≠ k := by
      intro h
      have hp := List.pairwise_iff_getElem.1 hn
      rcases Nat.lt_or_ge i j with h4 | h4
      · exact hp i j (by simpa using hi) (by simpa using hj) h4 (by rw [List.getElem_map, List.getElem_map, hk, h])
      · exact hp j i (by simpa using hj) (by simpa using hi) (by omega) (by rw [List.getElem_map, List.getElem_map, hk, h])
    rw [if_neg (by simpa using hne)]
section
variable {w w1 w' : World} {base X K : Nat} {f f' : NF} {l l' : PL} {v0 : Value}
theorem XR.st3 {v1 : Value} {B : Nat} (hX : BlkT w X tX (rxC K f v0)) (hb : Below w.heap.size w w1) (hv : ER w1 B v1 l) (hB : w.heap.size ≤ B) :
    BlkT (w1.setCell ⟨X, 2, none⟩ v1) X tX (rxC K f v1) ∧ ER (w1.setCell ⟨X, 2, none⟩ v1) B v1 l ∧ Trn [X] w (w1.setCell ⟨X, 2, none⟩ v1) := by
  have hx1 := hX.below hb hX.lt
  have hlt := hX.lt
  refine ⟨hx1.set 2 v1, World.ownsRow.kept hv (grown_set w1 ⟨X, 2, none⟩ v1) ?_, (Trn.of_below hb).set (by simp) _⟩
  obtain ⟨_, _, _, _, _, _, h2, _⟩ := hv.parts
  cases hc : v1.ownBlock with
  | none => exact .inl rfl
  | some k =>
    refine .inr (fun e => ?_)
    have h3 := h2 k hc
    have : k = X := Option.some.inj e
    omega
set_option maxHeartbeats 2000000 in
theorem rset_X (h : XR w base X K f l) (i : Nat) (hi : i < l.length) (q : List UInt8 × VT) (hl : l.length ≤ 4096) (hbase : base ≤ w.heap.size) :
    Calls Try.prog 44 #[tP X, .int .i64 (i : Int), eRv q] w fun e w' => e = .returned (.tuple #[]) ∧ XR w' base X K f (l.set i q) ∧ Trn [X] w w' := by
  obtain ⟨v, hX, hE⟩ := h
  obtain ⟨A, c, rfl, h1, h2, _, _⟩ := hE.parts
  obtain ⟨W, hW⟩ : ∃ W, W = w.alloc (.cells #[strT q.2.s, strT q.1, .int .u64 q.2.a, .bool q.2.sp, .int .u32 q.2.ct] tR) := ⟨_, rfl⟩
  have hBW : Below w.heap.size w W := by rw [hW]; exact (Below.refl _ w).alloc (Nat.le_refl _) _
  have hP : BlkT W w.heap.size tR (reC q) := by rw [hW]; exact heap_alloc_new w _
  have hXW := hX.below hBW hX.lt
  have hBA : Below W.heap.size W (W.alloc (.cells #[] tR)) := (Below.refl _ _).alloc (Nat.le_refl _) _
  have hXA := hXW.below hBA hXW.lt
  have c2 : ((w.alloc (.cells #[strT q.2.s, strT q.1, .int .u64 q.2.a, .bool q.2.sp, .int .u32 q.2.ct] tR)).alloc (.cells #[] tR)).cell? ⟨X, 2, none⟩ = some (.slice A l.length c) := by rw [← hW]; exact hXA.at rfl
  have HX := Lib.hid hXW
  have HP := Lib.hid hP
  have HBW := Lib.hid hBW
  have HBA := Lib.hid hBA
  have HEA := Lib.hid ((hE.below hBW).below hBA).es
  have HEM := Lib.hid (ER.empty W)
  have hsz : W.heap.size = w.heap.size + 1 := by rw [hW]; simp
  have HSZ := Lib.hid hsz
  have hi1 : (i : Int) < (l.length : Int) := by omega
  have HXlt := Lib.hid hX.lt
  rw [hW] at HEA HEM HBA
  clear hX hE hP hBW hXW hBA hXA hsz
  have hWz : (w.alloc (.cells #[strT q.2.s, strT q.1, .int .u64 q.2.a, .bool q.2.sp, .int .u32 q.2.ct] tR)).heap.size = w.heap.size + 1 := by simp
  rw [hWz] at HEM HBA
  go_enter Try.func44, Try.ntmps44
  go_wp2_with (at_builtin; go_loud ((with_reducible refine wpList_app_es ?g1 (.tmp 7) (.tmp 11) ?g2 (w.heap.size + 1) (.slice (some ⟨w.heap.size + 1, 0, none⟩) 0 0) [] l ?g3 ?g4 (w.heap.size + 2) (.slice A l.length c) ?g5 ?g6 ?g7 ?g8 ?_); (case g1 => rfl); (case g2 => rfl); (case g3 => rfl); (case g4 => exact HEM.out); (case g5 => rfl); (case g6 => exact (by have := HEA.out; simpa using this)); (case g7 => simp; omega); (case g8 => simp); intro v1 w2 hv hg; have HB2 := Lib.hid (HBA.out.trans (HEM.out.belowBase hg (by simp))); rw [List.nil_append] at hv; obtain ⟨A2, cp2, rfl, _, _, _, _, hfm⟩ := hv.parts; obtain ⟨g2, rfl⟩ := hfm (by omega); clear hfm; have hb2 : Below W.heap.size W w2 := (by rw [hW, hWz]; exact HB2.out); have HST := Lib.hid (XR.st3 HX.out hb2 hv (Nat.le_of_eq HSZ.out)); have c4 := (HX.out.below hb2 HX.out.lt).at (o := 2) rfl; have f4 := (HX.out.below hb2 HX.out.lt).free 2; have HP2 := Lib.hid (HP.out.below hb2 HP.out.lt); clear hv hg hb2))
  obtain ⟨W3, hW3⟩ : ∃ W3, W3 = w2.setCell ⟨X, 2, none⟩ (.slice (some ⟨g2, 0, none⟩) l.length cp2) := ⟨_, rfl⟩
  rw [← hW3] at HST
  have HP3 := Lib.hid (show BlkT W3 w.heap.size tR (reC q) by (rw [hW3]; exact HP2.out.setOther (a := ⟨X, 2, none⟩) (by have := HXlt.out; show X ≠ w.heap.size; omega) _))
  rw [← hW3]
  clear c2 c4 f4 hW3 hWz hW HEA HEM HBA HB2
  have x2 : W3.cell? ⟨X, 2, none⟩ = some (.slice (some ⟨g2, 0, none⟩) l.length cp2) := HST.out.1.at rfl
  have p0 : W3.cell? ⟨w.heap.size, 0, none⟩ = some (strT q.2.s) := HP3.out.at rfl
  have p1 : W3.cell? ⟨w.heap.size, 1, none⟩ = some (strT q.1) := HP3.out.at rfl
  have p2 : W3.cell? ⟨w.heap.size, 2, none⟩ = some (.int .u64 q.2.a) := HP3.out.at rfl
  have p3 : W3.cell? ⟨w.heap.size, 3, none⟩ = some (.bool q.2.sp) := HP3.out.at rfl
  have p4 : W3.cell? ⟨w.heap.size, 4, none⟩ = some (.int .u32 q.2.ct) := HP3.out.at rfl
  obtain ⟨e0, e1, e2, e3, e4⟩ := ((ER.es HST.out.2.1).cell (by omega)).1.five i hi
  simp only [Nat.zero_add] at e0 e1 e2 e3 e4
  have z0 := ER.free HST.out.2.1 (i * 5)
  have z1 := ER.free HST.out.2.1 (i * 5 + 1)
  have z2 := ER.free HST.out.2.1 (i * 5 + 2)
  have z3 := ER.free HST.out.2.1 (i * 5 + 3)
  have z4 := ER.free HST.out.2.1 (i * 5 + 4)
  go_still_tail 7, (by kernel_rfl)
  change wpList _ _ _ _ _ W3.drew
  go_wp2_with fail
  go_end0
  obtain ⟨q1, q2, q3⟩ := HST.out
  have hgb : w.heap.size + 1 ≤ g2 := by
    obtain ⟨_, _, _, _, _, _, h, _⟩ := q2.parts
    exact (h g2 rfl).1
  have hxw := HXlt.out
  have hgX : g2 ≠ X := by omega
  have h5 := ER.lower (ER.setAt q2 i q hi) (show base ≤ w.heap.size + 1 by omega)
  have hx5 := ((((q1.setOther (a := ⟨g2, i * 5, none⟩) hgX (strT q.2.s)).setOther (a := ⟨g2, i * 5 + 1, none⟩) hgX (strT q.1)).setOther (a := ⟨g2, i * 5 + 2, none⟩) hgX (.int .u64 q.2.a)).setOther (a := ⟨g2, i * 5 + 3, none⟩) hgX (.bool q.2.sp)).setOther (a := ⟨g2, i * 5 + 4, none⟩) hgX (.int .u32 q.2.ct)
  have t1 : Trn [X, g2] w W3 := (Trn.of_below (S := [X, g2]) HBW.out).trans (q3.mono (S' := [X, g2]) (fun k hk => by rw [List.mem_singleton] at hk; rw [hk]; exact List.mem_cons_self ..))
  have hm : g2 ∈ [X, g2] := List.mem_cons_of_mem _ (List.mem_cons_self ..)
  have t2 := ((((t1.set (p := ⟨g2, i * 5, none⟩) hm (strT q.2.s)).set (p := ⟨g2, i * 5 + 1, none⟩) hm (strT q.1)).set (p := ⟨g2, i * 5 + 2, none⟩) hm (.int .u64 q.2.a)).set (p := ⟨g2, i * 5 + 3, none⟩) hm (.bool q.2.sp)).set (p := ⟨g2, i * 5 + 4, none⟩) hm (.int .u32 q.2.ct)
  have t3 := t2.less (S' := [X]) (fun k hk => by
    rcases List.mem_cons.1 hk with rfl | hk
    · exact .inl (List.mem_cons_self ..)
    · rw [List.mem_singleton] at hk; exact .inr (by omega))
  refine ⟨rfl, XR.below ⟨_, hx5, ?_⟩ (Below.refl _ _).drew, t3.drew⟩
  have e6 : (l.set i q).length = l.length := List.length_set
  unfold ER at h5 ⊢
  exact h5
end
end Go.Proofs.Ythpgdojjecdlcaa
