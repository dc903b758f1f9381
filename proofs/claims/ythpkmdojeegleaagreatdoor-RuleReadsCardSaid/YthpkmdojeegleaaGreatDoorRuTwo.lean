/- Two rows of rules that grow side by side, and a rule's block. RuleSays' walk: its first loop. -/
import Derived.Test.YthpkmdojeegleaaGreatDoorRuSt
import Derived.Test.YthpkmdojeegleaaGreatDoorReg
import Derived.Deep.AppendLies
import Derived.Test.YthpkmdojeegleaaGreatDoorRuFe
import Derived.Test.YthpkmdojeegleaaGreatDoorRuRi
import Derived.Test.YthpkmdojeegleaaGreatDoorRuWh
import Derived.Test.YthpkmdojeegleaaGreatDoorRuAwk
set_option maxRecDepth 100000
namespace Go.Proofs.YthpkmdojeegleaaGreatDoor
open Go.RowKit Go.Shelf
/-- Two own rows, and a block with a rule. -/
structure TwoR (B : Nat) (v u : Value) (xs ys : List RuL) (bx : Nat) (r : RuL) (w A : World) : Prop where
  own1 : OwnR 41 A B v xs
  own2 : OwnR 33 A B u ys
  ne : v.ownBlock = none ∨ v.ownBlock ≠ u.ownBlock
  bl : Blk A bx (rcl r)
  n1 : v.ownBlock ≠ some bx
  n2 : u.ownBlock ≠ some bx
  low : Below B w A
  bw : B ≤ w.heap.size
section
variable {B : Nat} {v u v' : Value} {xs ys : List RuL} {bx : Nat} {r q : RuL} {w A A' : World}
theorem TwoR.ne2 (h : TwoR B v u xs ys bx r w A) : u.ownBlock = none ∨ u.ownBlock ≠ v.ownBlock := by
  rcases h.ne with e | e
  · cases hu : u.ownBlock with
    | none => exact .inl rfl
    | some k => rw [e]; exact .inr (by simp)
  · exact .inr (Ne.symm e)
theorem TwoR.below (h : TwoR B v u xs ys bx r w A) (hb : Below A.heap.size A A') : TwoR B v u xs ys bx r w A' :=
  ⟨h.own1.below hb, h.own2.below hb, h.ne, h.bl.below hb h.bl.lt, h.n1, h.n2, h.low.trans (hb.mono (Nat.le_trans h.bw h.low.size)), h.bw⟩
theorem TwoR.put1 (h : TwoR B v u xs ys bx r w A) (hg : A.grownBy A' v.ownBlock) (ho : OwnR 41 A' B v' (xs ++ [q])) (hv : v'.ownBlock = v.ownBlock ∨ v'.ownBlock = some A.heap.size) : TwoR B v' u (xs ++ [q]) ys bx r w A' where
  own1 := ho
  own2 := World.ownsRow.kept h.own2 hg h.ne2
  ne := by
    rcases hv with e | e
    · rw [e]; exact h.ne
    · rw [e]
      refine .inr (fun e2 => ?_)
      have := (h.own2.lt _ e2.symm).2
      omega
  bl := h.bl.grown hg (fun e => h.n1 e.symm)
  n1 := by
    rcases hv with e | e
    · rw [e]; exact h.n1
    · rw [e]; intro e2; have := h.bl.lt; injection e2; omega
  n2 := h.n2
  low := h.low.grown hg (Nat.le_trans h.bw h.low.size) (fun k hk => (h.own1.lt k hk).1)
  bw := h.bw
theorem TwoR.put2 (h : TwoR B v u xs ys bx r w A) (hg : A.grownBy A' u.ownBlock) (ho : OwnR 33 A' B v' (ys ++ [q])) (hv : v'.ownBlock = u.ownBlock ∨ v'.ownBlock = some A.heap.size) : TwoR B v v' xs (ys ++ [q]) bx r w A' where
  own1 := World.ownsRow.kept h.own1 hg h.ne
  own2 := ho
  ne := by
    rcases hv with e | e
    · rw [e]; exact h.ne
    · rw [e]
      cases hq : v.ownBlock with
      | none => exact .inl rfl
      | some k =>
        refine .inr (fun e2 => ?_)
        have := (h.own1.lt k hq).2
        injection e2
        omega
  bl := h.bl.grown hg (fun e => h.n2 e.symm)
  n1 := h.n1
  n2 := by
    rcases hv with e | e
    · rw [e]; exact h.n2
    · rw [e]; intro e2; have := h.bl.lt; injection e2; omega
  low := h.low.grown hg (Nat.le_trans h.bw h.low.size) (fun k hk => (h.own2.lt k hk).1)
  bw := h.bw
end
section
variable {ops : Array Oper} {Q : Exit → Act → World → Prop} {K : Act → World → Prop} {a : Act} {w : World} {i : Nat} {o : Oper}
theorem wpOp_appR1 (hi : ops[i]? = some o) (hgd : o.guard = none) (s x : Operand) (ho : o.op = .call { callee := .builtin .append, args := #[s, x], argTypes := #[38, 38] })
    (base : Nat) (v : Value) (xs : List RuL) (hs : a.eval s = v) (hown : OwnR 41 w base v xs) (gb : Nat) (r : RuL) (hx : a.eval x = .slice (some ⟨gb, 0, none⟩) 1 1)
    (hnew : Blk w gb (rcl r)) (hn : xs.length ≤ 100000) (hbase : base ≤ w.heap.size)
    (h : ∀ v' w', OwnR 41 w' base v' (xs ++ [r]) → w.grownBy w' v.ownBlock → (v'.ownBlock = v.ownBlock ∨ v'.ownBlock = some w.heap.size) → K (a.put o.dst v') w') : wpOp Tryz.prog ops Q i K a w := by
  have hw : Region.wanted o (yielded ops a.tmps) = true := by simp [Region.wanted, hgd]
  obtain ⟨i0, hi0, hz0, hz1, hz2⟩ := info_parts info_ru
  obtain ⟨tt, hnew⟩ := hnew
  have := step_append_lies (P := Tryz.prog) w (ops := ops) (o := o) (a := a) (K := K) (Q := Q) (E := True) hgd s x 38 ho base 41 i0 zagg 6 72 Tryz.underlying38 hi0 hz0 hz1 hz2 rfl (by decide) v xs.length (rcs xs) hs hown ⟨gb, 0, none⟩ 1 1 (rcl r) hx rfl (World.news_of_block hnew) (by simp [rcl, Value.oneCell']) (by omega) (by unfold maxLen; omega) (by omega) hbase w.heap.size rfl (fun g cap w' h1 h2 h3 _ => h _ w' (by unfold OwnR; rw [List.length_append, rcs_snoc]; exact h1) h2 (by rcases h3 with e | e; exact .inl (by rw [e]; rfl); exact .inr (by rw [e]; rfl)))
  rw [if_pos hw] at this
  exact wpOp_of_wp hi hw this
theorem wpOp_appR2 (hi : ops[i]? = some o) (hgd : o.guard = none) (s x : Operand) (ho : o.op = .call { callee := .builtin .append, args := #[s, x], argTypes := #[28, 28] })
    (base : Nat) (v : Value) (xs : List RuL) (hs : a.eval s = v) (hown : OwnR 33 w base v xs) (gb : Nat) (r : RuL) (hx : a.eval x = .slice (some ⟨gb, 0, none⟩) 1 1)
    (hnew : Blk w gb (rcl r)) (hn : xs.length ≤ 100000) (hbase : base ≤ w.heap.size)
    (h : ∀ v' w', OwnR 33 w' base v' (xs ++ [r]) → w.grownBy w' v.ownBlock → (v'.ownBlock = v.ownBlock ∨ v'.ownBlock = some w.heap.size) → K (a.put o.dst v') w') : wpOp Tryz.prog ops Q i K a w := by
  have hw : Region.wanted o (yielded ops a.tmps) = true := by simp [Region.wanted, hgd]
  obtain ⟨i0, hi0, hz0, hz1, hz2⟩ := info_parts info_rr
  obtain ⟨tt, hnew⟩ := hnew
  have := step_append_lies (P := Tryz.prog) w (ops := ops) (o := o) (a := a) (K := K) (Q := Q) (E := True) hgd s x 28 ho base 33 i0 zagg 6 72 Tryz.underlying28 hi0 hz0 hz1 hz2 rfl (by decide) v xs.length (rcs xs) hs hown ⟨gb, 0, none⟩ 1 1 (rcl r) hx rfl (World.news_of_block hnew) (by simp [rcl, Value.oneCell']) (by omega) (by unfold maxLen; omega) (by omega) hbase w.heap.size rfl (fun g cap w' h1 h2 h3 _ => h _ w' (by unfold OwnR; rw [List.length_append, rcs_snoc]; exact h1) h2 (by rcases h3 with e | e; exact .inl (by rw [e]; rfl); exact .inr (by rw [e]; rfl)))
  rw [if_pos hw] at this
  exact wpOp_of_wp hi hw this
end
end Go.Proofs.YthpkmdojeegleaaGreatDoor
set_option maxRecDepth 100000
namespace Go.Proofs.YthpkmdojeegleaaGreatDoor
open Go.RowKit Go.Shelf
attribute [local go_sem] Oper.semAt_some
/-- What is kept of the rules that came in. -/
def Kept (m : Nat) (xs : List RuL) : Prop := xs.length ≤ m ∧ ∀ r ∈ xs, validB r = true ∧ r.role.length ≤ 40 ∧ r.ten.length ≤ 40 ∧ r.host.length ≤ 40
/-- The two rows. -/
structure Two (B m : Nat) (v u : Value) (xs : List RuL) (w A : World) : Prop where
  own1 : OwnR 41 A B v xs
  own2 : OwnR 33 A B u xs
  ne : v.ownBlock = none ∨ v.ownBlock ≠ u.ownBlock
  low : Below B w A
  bw : B ≤ w.heap.size
  kept : Kept m xs
section
variable {B m m' : Nat} {v u : Value} {xs : List RuL} {w A A' : World} {r : RuL}
theorem Two.below (h : Two B m v u xs w A) (hb : Below A.heap.size A A') : Two B m v u xs w A' :=
  ⟨h.own1.below hb, h.own2.below hb, h.ne, h.low.trans (hb.mono (Nat.le_trans h.bw h.low.size)), h.bw, h.kept⟩
theorem Two.more (h : Two B m v u xs w A) (hm : m ≤ m') : Two B m' v u xs w A :=
  ⟨h.own1, h.own2, h.ne, h.low, h.bw, ⟨Nat.le_trans h.kept.1 hm, h.kept.2⟩⟩
theorem Two.box (h : Two B m v u xs w A) (cs : List Value) (t : TypeId) (hc : cs = rcl r) : TwoR B v u xs xs A.heap.size r w (A.alloc (.cells cs.toArray t)) := by
  subst hc
  have hb := (Below.refl A.heap.size A).alloc (Nat.le_refl _) (.cells (rcl r).toArray t)
  exact ⟨h.own1.below hb, h.own2.below hb, h.ne, Blk.new A _ _, fun e => by have := (h.own1.lt _ e).2; omega, fun e => by have := (h.own2.lt _ e).2; omega, h.low.trans (hb.mono (Nat.le_trans h.bw h.low.size)), h.bw⟩
theorem TwoR.two {bx : Nat} (h : TwoR B v u xs xs bx r w A) (hk : Kept m xs) : Two B m v u xs w A := ⟨h.own1, h.own2, h.ne, h.low, h.bw, hk⟩
theorem Kept.snoc (h : Kept m xs) (hr : validB r = true ∧ r.role.length ≤ 40 ∧ r.ten.length ≤ 40 ∧ r.host.length ≤ 40) : Kept (m + 1) (xs ++ [r]) :=
  ⟨by rw [List.length_append]; have := h.1; simp; omega, fun x hx => by
    rw [List.mem_append, List.mem_singleton] at hx
    rcases hx with hx | rfl
    · exact h.2 x hx
    · exact hr⟩
/-- The box written anew. -/
theorem TwoR.store {bx : Nat} {q : RuL} (h : TwoR B v u xs xs bx r w A) (hB : B ≤ bx) : TwoR B v u xs xs bx q w ((((((A.setCell ⟨bx, 0, none⟩ (.bool q.allow)).setCell ⟨bx, 1, none⟩ (str q.role)).setCell ⟨bx, 2, none⟩ (str q.ten)).setCell ⟨bx, 3, none⟩ (str q.host)).setCell ⟨bx, 4, none⟩ (.int .i64 q.frm)).setCell ⟨bx, 5, none⟩ (.int .i64 q.til)) := by
  have hs : ∀ (W : World) (o : Nat) (x : Value), OwnR 41 W B v xs ∧ OwnR 33 W B u xs → OwnR 41 (W.setCell ⟨bx, o, none⟩ x) B v xs ∧ OwnR 33 (W.setCell ⟨bx, o, none⟩ x) B u xs := fun W o x hW =>
    ⟨World.ownsRow.kept hW.1 (grown_set W ⟨bx, o, none⟩ x) (.inr h.n1), World.ownsRow.kept hW.2 (grown_set W ⟨bx, o, none⟩ x) (.inr h.n2)⟩
  have h6 := hs _ 5 (.int .i64 q.til) (hs _ 4 (.int .i64 q.frm) (hs _ 3 (str q.host) (hs _ 2 (str q.ten) (hs _ 1 (str q.role) (hs _ 0 (.bool q.allow) ⟨h.own1, h.own2⟩)))))
  have hb := (((((h.bl.set 0 (.bool q.allow)).set 1 (str q.role)).set 2 (str q.ten)).set 3 (str q.host)).set 4 (.int .i64 q.frm)).set 5 (.int .i64 q.til)
  exact ⟨h6.1, h6.2, h.ne, hb, h.n1, h.n2, (((((h.low.setCell (p := ⟨bx, 0, none⟩) hB (.bool q.allow)).setCell (p := ⟨bx, 1, none⟩) hB (str q.role)).setCell (p := ⟨bx, 2, none⟩) hB (str q.ten)).setCell (p := ⟨bx, 3, none⟩) hB (str q.host)).setCell (p := ⟨bx, 4, none⟩) hB (.int .i64 q.frm)).setCell (p := ⟨bx, 5, none⟩) hB (.int .i64 q.til), h.bw⟩
end
end Go.Proofs.YthpkmdojeegleaaGreatDoor
