/- box's reference: a symbolic Box of it in memory; the steps of a drawn region that append terms. box's reference: what Tag tells and leaves. -/
import Derived.Test.YtlnjpmpddomjiaaGreatDoorGmTmB
import Derived.Test.YtlnjpmpddomjiaaGreatDoorGmBxRef2
import Derived.Test.YtlnjpmpddomjiaaGreatDoorGmBeJn
set_option maxRecDepth 100000
namespace Go.Proofs.YtlnjpmpddomjiaaGreatDoor
open Go.RowKit
section
variable {ops : Array Oper} {Q : Exit → Act → World → Prop} {K : Act → World → Prop} {a : Act} {w : World} {i : Nat} {o : Oper}
theorem wpOp_valueT {P : Program} (d : Tmp) (hi : ops[i]? = some o) (hd : o.dst = some d) (hw : Region.wanted o (yielded ops a.tmps) = true) (v : Value) (w' : World) (hr : (execOp a.eval o).run P w = .ok (.value v) w') (h : K (a.put (some d) v) w') : wpOp P ops Q i K a w :=
  wpOp_of_wp hi hw (by unfold Oper.wp; rw [hr]; rw [← hd] at h; exact h)
theorem wpOp_storeT {P : Program} {w' : World} (hi : ops[i]? = some o) (hd : o.dst = none) (hw : Region.wanted o (yielded ops a.tmps) = true)
    (hr : (execOp a.eval o).run P w = .ok .skip w') (h : K a w') : wpOp P ops Q i K a w :=
  wpOp_of_wp hi hw (by unfold Oper.wp; rw [hr]; show K (a.put o.dst undef) w'; rw [hd]; exact h)
theorem wpOp_appTm {tS tE : TypeId} (hT : TmT tS tE) (d : Tmp) (hi : ops[i]? = some o) (hd : o.dst = some d) (hgd : o.guard = none) (s x : Operand) (ho : o.op = .call { callee := .builtin .append, args := #[s, x], argTypes := #[tS, tS] })
    (base : Nat) (v : Value) (xs : List TmL) (hs : a.eval s = v) (hown : OwnM tE w base v xs) (gb : Nat) (q : TmL) (hx : a.eval x = .slice (some ⟨gb, 0, none⟩) 1 1)
    (hnew : w.heap[gb]? = some (.cells q.cells.toArray tE (0, 0))) (hn : xs.length ≤ 100000) (hbase : base ≤ w.heap.size)
    (h : ∀ g cap w', OwnM tE w' base (.slice (some ⟨g, 0, none⟩) (xs.length + 1) cap) (xs ++ [q]) → w.grownBy w' v.ownBlock → (v.ownBlock = some g ∨ g = w.heap.size) → K (a.put (some d) (.slice (some ⟨g, 0, none⟩) (xs.length + 1) cap)) w') : wpOp Tryz.prog ops Q i K a w := by
  refine wpOp_of_wp hi (by simp [Region.wanted, hgd]) ?_
  obtain ⟨i0, hi, hz0, hz1, hz2⟩ := info_parts hT.i
  refine wp_append_lies w s x tS ho base tE i0 _ 6 112 hT.u hi hz0 hz1 hz2 rfl (by decide) v xs.length (tms xs) hs hown ⟨gb, 0, none⟩ 1 1 q.cells hx rfl (news_tm hnew) (tmc_one q) (by omega) (by unfold maxLen; omega) (by omega) hbase w.heap.size rfl ?_
  intro g cap w' h1 h2 h3 _
  rw [hd]
  refine h g cap w' ?_ h2 h3
  unfold OwnM
  rw [List.length_append, tms_snoc]
  exact h1
theorem wpOp_appTms {tS tE : TypeId} (hT : TmT tS tE) (d : Tmp) (hi : ops[i]? = some o) (hd : o.dst = some d) (hgd : o.guard = none) (s x : Operand) (ho : o.op = .call { callee := .builtin .append, args := #[s, x], argTypes := #[tS, tS] })
    (base : Nat) (v : Value) (xs ms : List TmL) (hs : a.eval s = v) (hown : OwnM tE w base v xs) (B : Nat) (vx : Value) (hx : a.eval x = vx) (hsrc : TmIn w B vx ms) (hnil : ms = [] → vx = .slice none 0 0) (hlen : xs.length + ms.length ≤ 100000) (hbase : base ≤ w.heap.size)
    (h : ∀ v' w', OwnM tE w' base v' (xs ++ ms) → w.grownBy w' v.ownBlock → (v'.ownBlock = v.ownBlock ∨ v'.ownBlock = some w.heap.size) → K (a.put (some d) v') w') : wpOp Tryz.prog ops Q i K a w := by
  refine wpOp_of_wp hi (by simp [Region.wanted, hgd]) ?_
  obtain ⟨i0, hi, hz0, hz1, hz2⟩ := info_parts hT.i
  by_cases h0 : ms = []
  · rw [hnil h0] at hx
    have hrun := run_append_owned_none (P := Tryz.prog) (w := w) base tS o.type tE i0 6 hT.u hi v xs.length (tms xs) hown
    unfold Oper.wp
    simp [execOp, ho, resolve, invoke, builtin, hs, hx, hrun, Result.andThen]
    show K (a.put o.dst v) w
    rw [hd]
    exact h v w (by rw [h0, List.append_nil]; exact hown) (World.grownBy.refl w _) (.inl rfl)
  · obtain ⟨A, c, rfl, h1, h2, h3⟩ := id hsrc
    have hp : 0 < ms.length := List.length_pos_iff.2 h0
    obtain ⟨g0, o0, rfl, -, -⟩ := h3 hp
    refine wp_append_lies w s x tS ho base tE i0 _ 6 112 hT.u hi hz0 hz1 hz2 rfl (by decide) v xs.length (tms xs) hs hown ⟨g0, o0, none⟩ ms.length c (tms ms) hx (by rw [tms_len]; omega) hsrc.adds (tms_one ms) hp (by unfold maxLen; omega) (by omega) hbase w.heap.size rfl ?_
    intro g cap w' g1 g2 g3 _
    rw [hd]
    refine h _ w' ?_ g2 (by rcases g3 with e | e; exact .inl e.symm; exact .inr (by rw [e]; rfl))
    unfold OwnM
    rw [List.length_append, tms_app]
    exact g1
end
/-- A term of the reference in rows of its own. -/
structure TmO (w : World) (base : Nat) (q : TmL) (t : TmV) : Prop where
  kind : q.kind = t.kind
  key : OwnB w base (.slice q.KA q.km q.kc) t.key
  text : OwnB w base (.slice q.TA q.tm q.tc) t.text
  rounds : q.rounds = t.rounds
  lst : ∃ ns : List Nat, t.lst = ns.map Int.ofNat ∧ ns.length ≤ 5000 ∧ OwnJ w base (.slice q.LA q.lm q.lc) ns
  mask : OwnB w base (.slice q.MA q.mm q.mc) t.mask
theorem JIn.isL {w : World} {B : Nat} {v : Value} {ns : List Nat} (h : JIn w B v ns) : IsL w B v (ns.map Int.ofNat) := by
  obtain ⟨A, c, rfl, h1, h2, h3⟩ := h
  refine ⟨A, c, by rw [List.length_map], by rw [List.length_map]; exact h1, h2, fun hp => ?_⟩
  rw [List.length_map] at hp
  obtain ⟨g, rfl, hg, h4⟩ := h3 hp
  refine ⟨g, 0, rfl, hg, fun j hj => ?_⟩
  rw [List.length_map] at hj
  rw [Nat.zero_add, h4 j hj, List.getElem_map]; rfl
theorem TmO.s {w : World} {base : Nat} {q : TmL} {t : TmV} (h : TmO w base q t) : TmS w w.heap.size q t := by
  obtain ⟨h1, h2, h3, h4, ⟨ns, l1, l2, l3⟩, h6⟩ := h
  exact ⟨h1, h2.sl, h3.sl, h4, by rw [l1]; exact l3.jIn.isL, h6.sl⟩
theorem TmO.below {w w' : World} {base : Nat} {q : TmL} {t : TmV} (h : TmO w base q t) (hb : Below w.heap.size w w') : TmO w' base q t :=
  ⟨h.kind, h.key.below hb, h.text.below hb, h.rounds, by obtain ⟨ns, a, b, c⟩ := h.lst; exact ⟨ns, a, b, c.below hb⟩, h.mask.below hb⟩
theorem OwnB.trsT {S : List Nat} {w w' : World} {base : Nat} {v : Value} {l : List UInt8} (h : OwnB w base v l) (ht : Trs S w w') (hb : ∀ k, v.ownBlock = some k → k ∉ S) : OwnB w' base v l := by
  obtain ⟨h1, h2 | ⟨g, cap, cur, rfl, hb', hg, h3⟩⟩ := h
  · exact ⟨h1, .inl h2⟩
  · exact ⟨h1, .inr ⟨g, cap, cur, rfl, hb', (ht.block g (Array.getElem?_eq_some_iff.1 hg).1 (hb g rfl)).trans hg, h3⟩⟩
theorem OwnJ.trsT {S : List Nat} {w w' : World} {base : Nat} {v : Value} {l : List Nat} (h : OwnJ w base v l) (ht : Trs S w w') (hb : ∀ k, v.ownBlock = some k → k ∉ S) : OwnJ w' base v l := by
  obtain ⟨h1, h2 | ⟨g, cap, cur, rfl, hb', hg, h3⟩⟩ := h
  · exact ⟨h1, .inl h2⟩
  · exact ⟨h1, .inr ⟨g, cap, cur, rfl, hb', (ht.block g (Array.getElem?_eq_some_iff.1 hg).1 (hb g rfl)).trans hg, h3⟩⟩
/-- Its own blocks. -/
def TmL.blocks (q : TmL) : List Value := [.slice q.KA q.km q.kc, .slice q.TA q.tm q.tc, .slice q.LA q.lm q.lc, .slice q.MA q.mm q.mc]
theorem TmO.trs {S : List Nat} {w w' : World} {base : Nat} {q : TmL} {t : TmV} (h : TmO w base q t) (ht : Trs S w w') (hn : ∀ v ∈ q.blocks, ∀ k, v.ownBlock = some k → k ∉ S) : TmO w' base q t :=
  ⟨h.kind, h.key.trsT ht (hn _ (by simp [TmL.blocks])), h.text.trsT ht (hn _ (by simp [TmL.blocks])), h.rounds, by obtain ⟨ns, a, b, c⟩ := h.lst; exact ⟨ns, a, b, c.trsT ht (hn _ (by simp [TmL.blocks]))⟩, h.mask.trsT ht (hn _ (by simp [TmL.blocks]))⟩
/-- Apart from a block. -/
def TmN (x : Nat) (q : TmL) : Prop := ∀ v ∈ q.blocks, v.ownBlock ≠ some x
theorem TmO.trs1 {x : Nat} {w w' : World} {base : Nat} {q : TmL} {t : TmV} (h : TmO w base q t) (ht : Trs [x] w w') (hn : TmN x q) : TmO w' base q t :=
  h.trs ht (fun v hv k hk hx => hn v hv (by rw [hk, List.mem_singleton.1 hx]))
/-- A Box of the reference at block x: its terms say ts. -/
structure XB (w : World) (base x : Nat) (V : Value) (sym full : Bool) (T : List TmL) (ts : List TmV) : Prop where
  blk : Blk w x [.bool sym, V, .bool full]
  own : OwnM tTm w base V T
  len : T.length = ts.length
  tm : ∀ i (h1 : i < T.length) (h2 : i < ts.length), TmO w base T[i] ts[i]
  bx : base ≤ x
  nb : V.ownBlock ≠ some x
  nk : ∀ q ∈ T, TmN x q
  le : ts.length ≤ 4096
  nil : T = [] → V = .slice none 0 0
theorem XB.below {w w' : World} {base x : Nat} {V : Value} {sym full : Bool} {T : List TmL} {ts : List TmV} (h : XB w base x V sym full T ts) (hb : Below w.heap.size w w') : XB w' base x V sym full T ts :=
  ⟨h.blk.below hb h.blk.lt, h.own.below hb, h.len, fun i h1 h2 => (h.tm i h1 h2).below hb, h.bx, h.nb, h.nk, h.le, h.nil⟩
end Go.Proofs.YtlnjpmpddomjiaaGreatDoor
set_option maxRecDepth 100000
namespace Go.Proofs.YtlnjpmpddomjiaaGreatDoor
open Go.RowKit
attribute [local go_sem] Oper.semAt_some
/-- What Tag tells, and what it leaves. -/
def tagT (ts : List TmV) (t : TmV) : List UInt8 := if t ∈ ts then fro ++ len4 (ts.idxOf t + 1) else if 4096 ≤ ts.length then List.replicate 32 0 else fro ++ len4 (ts.length + 1)
def esT (ts : List TmV) (t : TmV) : List TmV := if t ∈ ts then ts else if 4096 ≤ ts.length then ts else ts ++ [t]
def fullT (full : Bool) (ts : List TmV) (t : TmV) : Bool := if t ∈ ts then full else if 4096 ≤ ts.length then true else full
theorem idx_first {ts : List TmV} {t : TmV} : ∀ (k : Nat) (h : k < ts.length), ts[k] = t → (∀ j (hj : j < ts.length), j < k → ts[j] ≠ t) → ts.idxOf t = k := by
  intro k h he hno
  have hm : t ∈ ts := he ▸ List.getElem_mem h
  have h1 := List.idxOf_lt_length_of_mem hm
  have h2 : ts[ts.idxOf t] = t := List.getElem_idxOf h1
  rcases Nat.lt_trichotomy (ts.idxOf t) k with h3 | h3 | h3
  · exact absurd h2 (hno _ h1 h3)
  · exact h3
  · have := List.not_of_lt_findIdx (p := fun y => y == t) (xs := ts) (i := k) h3
    simp [he] at this
end Go.Proofs.YtlnjpmpddomjiaaGreatDoor
