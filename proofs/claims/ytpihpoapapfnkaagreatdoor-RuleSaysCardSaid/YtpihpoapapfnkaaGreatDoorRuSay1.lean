/- RuleSays' walk: its first loop. -/
import Derived.Test.YtpihpoapapfnkaaGreatDoorRuTw
import Derived.Test.YtpihpoapapfnkaaGreatDoorRuFe
import Derived.Test.YtpihpoapapfnkaaGreatDoorRuRi
import Derived.Test.YtpihpoapapfnkaaGreatDoorRuWhR
import Derived.Test.YtpihpoapapfnkaaGreatDoorRuAwk
set_option maxRecDepth 100000
namespace Go.Proofs.YtpihpoapapfnkaaGreatDoor
open Go.RowKit Go.Shelf
attribute [local go_sem] Oper.semAt_some
/-- What is kept of the rules that came in. -/
def Kept (m : Nat) (xs : List RuL) : Prop := xs.length ≤ m ∧ ∀ r ∈ xs, validB r = true ∧ r.role.length ≤ 40 ∧ r.ten.length ≤ 40 ∧ r.host.length ≤ 40
/-- The two rows. -/
structure Two (B m : Nat) (v u : Value) (xs : List RuL) (w A : World) : Prop where
  own1 : OwnR 41 A B v xs
  own2 : OwnR 33 A B u xs
  ne : v.ownBlock = none ∨ v.ownBlock ≠ u.ownBlock
  low : Below B w A
  bw : B ≤ w.heap.size
  kept : Kept m xs
section
variable {B m m' : Nat} {v u : Value} {xs : List RuL} {w A A' : World} {r : RuL}
theorem Two.below (h : Two B m v u xs w A) (hb : Below A.heap.size A A') : Two B m v u xs w A' :=
  ⟨h.own1.below hb, h.own2.below hb, h.ne, h.low.trans (hb.mono (Nat.le_trans h.bw h.low.size)), h.bw, h.kept⟩
theorem Two.more (h : Two B m v u xs w A) (hm : m ≤ m') : Two B m' v u xs w A :=
  ⟨h.own1, h.own2, h.ne, h.low, h.bw, ⟨Nat.le_trans h.kept.1 hm, h.kept.2⟩⟩
theorem Two.box (h : Two B m v u xs w A) (cs : List Value) (t : TypeId) (hc : cs = rcl r) : TwoR B v u xs xs A.heap.size r w (A.alloc (.cells cs.toArray t)) := by
  subst hc
  have hb := (Below.refl A.heap.size A).alloc (Nat.le_refl _) (.cells (rcl r).toArray t)
  exact ⟨h.own1.below hb, h.own2.below hb, h.ne, Blk.new A _ _, fun e => by have := (h.own1.lt _ e).2; omega, fun e => by have := (h.own2.lt _ e).2; omega, h.low.trans (hb.mono (Nat.le_trans h.bw h.low.size)), h.bw⟩
theorem TwoR.two {bx : Nat} (h : TwoR B v u xs xs bx r w A) (hk : Kept m xs) : Two B m v u xs w A := ⟨h.own1, h.own2, h.ne, h.low, h.bw, hk⟩
theorem Kept.snoc (h : Kept m xs) (hr : validB r = true ∧ r.role.length ≤ 40 ∧ r.ten.length ≤ 40 ∧ r.host.length ≤ 40) : Kept (m + 1) (xs ++ [r]) :=
  ⟨by rw [List.length_append]; have := h.1; simp; omega, fun x hx => by
    rw [List.mem_append, List.mem_singleton] at hx
    rcases hx with hx | rfl
    · exact h.2 x hx
    · exact hr⟩
/-- The box written anew. -/
theorem TwoR.store {bx : Nat} {q : RuL} (h : TwoR B v u xs xs bx r w A) (hB : B ≤ bx) : TwoR B v u xs xs bx q w ((((((A.setCell ⟨bx, 0, none⟩ (.bool q.allow)).setCell ⟨bx, 1, none⟩ (str q.role)).setCell ⟨bx, 2, none⟩ (str q.ten)).setCell ⟨bx, 3, none⟩ (str q.host)).setCell ⟨bx, 4, none⟩ (.int .i64 q.frm)).setCell ⟨bx, 5, none⟩ (.int .i64 q.til)) := by
  have hs : ∀ (W : World) (o : Nat) (x : Value), OwnR 41 W B v xs ∧ OwnR 33 W B u xs → OwnR 41 (W.setCell ⟨bx, o, none⟩ x) B v xs ∧ OwnR 33 (W.setCell ⟨bx, o, none⟩ x) B u xs := fun W o x hW =>
    ⟨World.ownsRow.kept hW.1 (grown_set W ⟨bx, o, none⟩ x) (.inr h.n1), World.ownsRow.kept hW.2 (grown_set W ⟨bx, o, none⟩ x) (.inr h.n2)⟩
  have h6 := hs _ 5 (.int .i64 q.til) (hs _ 4 (.int .i64 q.frm) (hs _ 3 (str q.host) (hs _ 2 (str q.ten) (hs _ 1 (str q.role) (hs _ 0 (.bool q.allow) ⟨h.own1, h.own2⟩)))))
  have hb := (((((h.bl.set 0 (.bool q.allow)).set 1 (str q.role)).set 2 (str q.ten)).set 3 (str q.host)).set 4 (.int .i64 q.frm)).set 5 (.int .i64 q.til)
  exact ⟨h6.1, h6.2, h.ne, hb, h.n1, h.n2, (((((h.low.setCell (p := ⟨bx, 0, none⟩) hB (.bool q.allow)).setCell (p := ⟨bx, 1, none⟩) hB (str q.role)).setCell (p := ⟨bx, 2, none⟩) hB (str q.ten)).setCell (p := ⟨bx, 3, none⟩) hB (str q.host)).setCell (p := ⟨bx, 4, none⟩) hB (.int .i64 q.frm)).setCell (p := ⟨bx, 5, none⟩) hB (.int .i64 q.til), h.bw⟩
end
end Go.Proofs.YtpihpoapapfnkaaGreatDoor
