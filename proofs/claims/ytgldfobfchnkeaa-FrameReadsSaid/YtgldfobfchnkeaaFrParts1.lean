/- FrameParts: what lies in memory; the first loop. -/
import Derived.Test.YtgldfobfchnkeaaFrPartsM
import Derived.Test.YtgldfobfchnkeaaFrAwake
import Derived.Test.YtgldfobfchnkeaaSls
import Derived.Deep.DeepCutAuto
import Derived.Deep.CutBlock
import Derived.Deep.AppendLies
namespace Go.Proofs.Ytgldfobfchnkeaa
open Go.RowKit

theorem info_rf : (Try.prog.info? 33).map (fun i => (i.zero, i.size, i.bytes)) = some (some (.agg #[.int .u8 0, .slice none 0 0]), 2, 32) := by kernel_rfl
theorem packs_len {F : List (UInt8 × List UInt8)} (h : ∀ x ∈ F, x.2.length ≤ 300) : (packs F).length ≤ 303 * F.length := by
  induction F with
  | nil => simp [packs]
  | cons x F ih =>
    obtain ⟨k, b⟩ := x
    have h1 := ih (fun y hy => h y (List.mem_cons_of_mem _ hy))
    have h2 : b.length ≤ 300 := h (k, b) (by simp)
    rw [packs_cons, List.length_append, frm_length, List.length_cons]
    omega
/-- Bytes of the call's own, frames of the call's own whose bodies are its own: nothing of them lies in one block. -/
structure Par (w1 : World) (va vw : Value) (ws : List Told) (W : World) : Prop where
  a : OwnB W w1.heap.size va (packs (keys ws))
  r : W.ownsRow w1.heap.size 33 2 vw ws.length (fcells ws)
  o : ∀ x ∈ ws, OwnB W w1.heap.size x.2.1 x.2.2 ∧ (x.2.1.ownBlock = none ∨ x.2.1.ownBlock ≠ va.ownBlock)
  b : Below w1.heap.size w1 W
theorem Par.below {w1 W W' : World} {va vw : Value} {ws : List Told} (h : Par w1 va vw ws W) (hb : Below W.heap.size W W') : Par w1 va vw ws W' :=
  ⟨h.a.below hb, h.r.kept (grown_of_below hb none) (by by_cases e : vw.ownBlock = none; exact .inl e; exact .inr e), fun x hx => ⟨(h.o x hx).1.below hb, (h.o x hx).2⟩, h.b.trans (hb.mono h.b.size)⟩
/-- The first loop's invariant. -/
def Inv1 (w1 : World) (k : Nat) (s5 s6 : Value) (wr : World) : Prop :=
  ∃ ws : List Told, Par w1 s5 s6 ws wr ∧ ws.length = k ∧ Good (keys ws) ∧ (∀ x ∈ ws, x.2.2.length ≤ 300) ∧ k ≤ 6
/-- What there is in a round ahead of its two appends: the bytes p, and the frame in block g. -/
structure Mid (w1 : World) (va vw : Value) (ws : List Told) (g : Nat) (k : UInt8) (vb1 vp : Value) (lb P : List UInt8) (n : Nat) (xs : List Value) (W : World) : Prop where
  a : OwnB W w1.heap.size va P
  r : W.ownsRow w1.heap.size 33 2 vw n xs
  o : ∀ x ∈ ws, OwnB W w1.heap.size x.2.1 x.2.2 ∧ (x.2.1.ownBlock = none ∨ x.2.1.ownBlock ≠ va.ownBlock)
  n : OwnB W w1.heap.size vb1 lb ∧ (vb1.ownBlock = none ∨ vb1.ownBlock ≠ va.ownBlock)
  p : OwnB W w1.heap.size vp (frm k lb) ∧ (vp.ownBlock = none ∨ vp.ownBlock ≠ va.ownBlock)
  c : W.heap[g]? = some (.cells #[vb k, vb1] 33 (0, 0))
  l : ∀ j, vw.ownBlock = some j → j ≠ g
  b : Below w1.heap.size w1 W
section
variable {w1 W W' : World} {va va' vw vw' vb1 vp : Value} {ws : List Told} {g n m : Nat} {k : UInt8} {lb P Q : List UInt8} {xs ys : List Value}
theorem Mid.below (h : Mid w1 va vw ws g k vb1 vp lb P n xs W) (hb : Below W.heap.size W W') : Mid w1 va vw ws g k vb1 vp lb P n xs W' :=
  ⟨h.a.below hb, h.r.kept (grown_of_below hb none) (by by_cases e : vw.ownBlock = none; exact .inl e; exact .inr e), fun x hx => ⟨(h.o x hx).1.below hb, (h.o x hx).2⟩, ⟨h.n.1.below hb, h.n.2⟩, ⟨h.p.1.below hb, h.p.2⟩,
    (hb.block g (Array.getElem?_eq_some_iff.1 h.c).1).trans h.c, h.l, h.b.trans (hb.mono h.b.size)⟩
theorem Mid.alloc (h : Mid w1 va vw ws g k vb1 vp lb P n xs W) (o : Obj) : Mid w1 va vw ws g k vb1 vp lb P n xs (W.alloc o) := h.below ((Below.refl _ _).alloc (Nat.le_refl _) _)
theorem Mid.drew (h : Mid w1 va vw ws g k vb1 vp lb P n xs W) : Mid w1 va vw ws g k vb1 vp lb P n xs W.drew := h.below (Below.refl _ _).drew
theorem Mid.base (h : Mid w1 va vw ws g k vb1 vp lb P n xs W) : w1.heap.size ≤ W.heap.size := h.b.size
/-- Behind the append of the bytes. -/
theorem Mid.appA (h : Mid w1 va vw ws g k vb1 vp lb P n xs W) (ha : OwnB W' w1.heap.size va' Q) (hg : W.grownBy W' va.ownBlock) (ho : va'.ownBlock = va.ownBlock ∨ va'.ownBlock = some W.heap.size) : Mid w1 va' vw ws g k vb1 vp lb Q n xs W' := by
  have key : ∀ {x : Value} {l : List UInt8}, OwnB W w1.heap.size x l → (x.ownBlock = none ∨ x.ownBlock ≠ va.ownBlock) → OwnB W' w1.heap.size x l ∧ (x.ownBlock = none ∨ x.ownBlock ≠ va'.ownBlock) := by
    intro x l hx hn
    refine ⟨hx.kept hg hn, ?_⟩
    rcases hn with hn | hn
    · exact .inl hn
    · rcases ho with e | e
      · exact .inr (by rw [e]; exact hn)
      · by_cases hx0 : x.ownBlock = none
        · exact .inl hx0
        · right
          rw [e]
          intro e2
          have := (hx.lt _ e2).2
          omega
  refine ⟨ha, h.r.kept hg (apart_rows h.r h.a (by decide)), fun x hx => key (h.o x hx).1 (h.o x hx).2, key h.n.1 h.n.2, key h.p.1 h.p.2, ?_, h.l, h.b.trans (h.a.belowBase hg h.base)⟩
  refine (hg.block g (Array.getElem?_eq_some_iff.1 h.c).1 (fun e => ?_)).trans h.c
  rcases h.a.2 with ⟨rfl, _⟩ | ⟨g1, _, _, rfl, _, hg1, _⟩
  · simp [Value.ownBlock] at e
  · have : g = g1 := by simpa [Value.ownBlock] using e
    subst this
    rw [h.c] at hg1
    injection hg1 with h1
    injection h1 with _ h1 _
    exact absurd h1 (by decide)
/-- Behind the append of the frame. -/
theorem Mid.appW (h : Mid w1 va vw ws g k vb1 vp lb P n xs W) (hr : W'.ownsRow w1.heap.size 33 2 vw' m ys) (hg : W.grownBy W' vw.ownBlock) (ho : vw'.ownBlock = vw.ownBlock ∨ vw'.ownBlock = some W.heap.size) : Mid w1 va vw' ws g k vb1 vp lb P m ys W' := by
  refine ⟨h.a.kept hg (apart_rows h.a h.r (by decide)), hr, fun x hx => ⟨(h.o x hx).1.kept hg (apart_rows (h.o x hx).1 h.r (by decide)), (h.o x hx).2⟩, ⟨h.n.1.kept hg (apart_rows h.n.1 h.r (by decide)), h.n.2⟩, ⟨h.p.1.kept hg (apart_rows h.p.1 h.r (by decide)), h.p.2⟩, ?_, ?_, ?_⟩
  · exact (hg.block g (Array.getElem?_eq_some_iff.1 h.c).1 (fun e => h.l g e.symm rfl)).trans h.c
  · intro j e
    rcases ho with e1 | e1
    · exact h.l j (by rw [← e1, e])
    · rw [e1] at e
      have := Option.some.inj e
      have := (Array.getElem?_eq_some_iff.1 h.c).1
      omega
  · exact h.b.trans ((Below.refl _ _).grown hg h.base (fun j e => (World.ownsRow.lt h.r j e).1))
end
theorem Mid.par {w1 W : World} {va vw vb1 vp : Value} {ws : List Told} {g : Nat} {k : UInt8} {lb : List UInt8} (h : Mid w1 va vw ws g k vb1 vp lb (packs (keys ws) ++ frm k lb) (ws.length + 1) (fcells ws ++ [vb k, vb1]) W) : Par w1 va vw (ws ++ [(k, vb1, lb)]) W := by
  have hk : keys (ws ++ [(k, vb1, lb)]) = keys ws ++ [(k, lb)] := by unfold keys; simp
  refine ⟨by rw [hk, packs_snoc]; exact h.a, by rw [fcells_snoc, List.length_append]; exact h.r, fun x hx => ?_, h.b⟩
  rcases List.mem_append.1 hx with hx | hx
  · exact h.o x hx
  · rw [List.mem_singleton] at hx
    subst hx
    exact h.n
section
variable {w : World} {ops : Array Oper} {o : Oper} {a : Act} {K : Act → World → Prop} {Q : Exit → Act → World → Prop} {E : Prop}
/-- append of one frame, as one step of a region that draws. -/
theorem step_appR (hgd : o.guard = none) (s x : Operand) (ho : o.op = .call { callee := .builtin .append, args := #[s, x], argTypes := #[63, 63] })
    (base : Nat) (v : Value) (n : Nat) (xs : List Value) (hs : a.eval s = v) (hown : w.ownsRow base 33 2 v n xs) (gb : Nat) (k : UInt8) (A : Option Addr) (m c : Nat) (hx : a.eval x = .slice (some ⟨gb, 0, none⟩) 1 1)
    (hnew : w.heap[gb]? = some (.cells #[vb k, .slice A m c] 33 (0, 0))) (hn : n ≤ 1000) (hbase : base ≤ w.heap.size)
    (h : ∀ g cap w', w'.ownsRow base 33 2 (.slice (some ⟨g, 0, none⟩) (n + 1) cap) (n + 1) (xs ++ [vb k, .slice A m c]) → w.grownBy w' v.ownBlock → ((Value.slice (some ⟨g, 0, none⟩) (n + 1) cap).ownBlock = v.ownBlock ∨ (Value.slice (some ⟨g, 0, none⟩) (n + 1) cap).ownBlock = some w.heap.size) → K (a.put o.dst (.slice (some ⟨g, 0, none⟩) (n + 1) cap)) w') :
    if Region.wanted o (yielded ops a.tmps) = true then Oper.wp Try.prog o a w K Q else E := by
  obtain ⟨i0, hi, hz0, hz1, hz2⟩ := info_parts info_rf
  refine step_append_lies w hgd s x 63 ho base 33 i0 (.agg #[.int .u8 0, .slice none 0 0]) 2 32 Try.underlying63 hi hz0 hz1 hz2 rfl (by decide) v n xs hs hown ⟨gb, 0, none⟩ 1 1 [vb k, .slice A m c] hx rfl (World.news_of_block hnew) (by simp [Value.oneCell']) (by omega) (by unfold maxLen; omega) (by omega) hbase w.heap.size rfl ?_
  intro g cap w' h1 h2 h3 _
  exact h g cap w' h1 h2 (by rcases h3 with e | e; exact .inl (by rw [e]; rfl); exact .inr (by rw [e]; rfl))
end
end Go.Proofs.Ytgldfobfchnkeaa
