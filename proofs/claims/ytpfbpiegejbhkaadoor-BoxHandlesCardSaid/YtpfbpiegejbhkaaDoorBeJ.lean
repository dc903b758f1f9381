/- Rows of whole numbers of the call's own. -/
import Derived.Test.YtpfbpiegejbhkaaDoorBeHs
set_option maxRecDepth 100000
namespace Go.Proofs.YtpfbpiegejbhkaaDoor
open Go.RowKit
def jv (n : Nat) : Value := .int .i64 (n : Int)
theorem info_j : (Tryd.prog.info? 3).map (fun i => (i.zero, i.size, i.bytes)) = some (some (.int .i64 0), 1, 8) := by kernel_rfl
/-- The slice v of ints is the call's own, and holds ls. -/
def OwnJ (w : World) (base : Nat) (v : Value) (ls : List Nat) : Prop := w.ownsRow base 3 1 v ls.length (ls.map jv)
theorem OwnJ.nil (w : World) (base : Nat) : OwnJ w base (.slice none 0 0) [] := World.ownsRow_nil w base _ 1
theorem OwnJ.below {w w' : World} {base : Nat} {v : Value} {ls : List Nat} (h : OwnJ w base v ls) (hb : Below w.heap.size w w') : OwnJ w' base v ls :=
  World.ownsRow.kept h (grown_of_below hb none) (by cases hv : v.ownBlock <;> simp)
theorem OwnJ.lt {w : World} {base : Nat} {v : Value} {ls : List Nat} (h : OwnJ w base v ls) : ∀ k, v.ownBlock = some k → base ≤ k ∧ k < w.heap.size := World.ownsRow.lt h
theorem OwnJ.le {w : World} {base base' : Nat} {v : Value} {ls : List Nat} (h : OwnJ w base v ls) (hb : base' ≤ base) : OwnJ w base' v ls :=
  ⟨h.1, h.2.imp id (fun ⟨g, cap, cur, e, h1, r⟩ => ⟨g, cap, cur, e, Nat.le_trans hb h1, r⟩)⟩
/-- The ints lie below block B. -/
def JIn (w : World) (B : Nat) (v : Value) (ls : List Nat) : Prop :=
  ∃ A c, v = .slice A ls.length c ∧ ls.length ≤ c ∧ c ≤ 9223372036854775807 ∧ (0 < ls.length → ∃ g, A = some ⟨g, 0, none⟩ ∧ g < B ∧ ∀ j (hj : j < ls.length), w.cell? ⟨g, j, none⟩ = some (jv ls[j]))
theorem OwnJ.jIn {w : World} {base : Nat} {v : Value} {ls : List Nat} (h : OwnJ w base v ls) : JIn w w.heap.size v ls := by
  obtain ⟨h1, h2 | ⟨g, cap, cur, rfl, hb, hg, hc, hm, hs, ht⟩⟩ := h
  · have hx : ls = [] := List.eq_nil_of_length_eq_zero h2.2
    subst hx
    exact ⟨none, 0, h2.1, by simp, by omega, fun h => by simp at h⟩
  · refine ⟨_, cap, rfl, hc, by unfold maxLen at hm; omega, fun _ => ⟨g, rfl, (Array.getElem?_eq_some_iff.1 hg).1, fun j hj => ?_⟩⟩
    have hj' : j < cur.size := by omega
    have e : cur[j]? = some (jv ls[j]) := by
      have := congrArg (fun x : List Value => x[j]?) ht
      simp only [List.getElem?_map, List.getElem?_eq_getElem hj, List.getElem?_take, Option.map_some] at this
      rw [if_pos (by omega)] at this
      simpa using this
    simp [World.cell?, hg, e]
theorem JIn.below {w w' : World} {B B' : Nat} {v : Value} {ls : List Nat} (h : JIn w B v ls) (hb : Below B' w w') (hB : B ≤ B') : JIn w' B v ls := by
  obtain ⟨A, c, e, h1, h2, h⟩ := h
  refine ⟨A, c, e, h1, h2, fun hl => ?_⟩
  obtain ⟨g, hg, hlt, h3⟩ := h hl
  exact ⟨g, hg, hlt, fun j hj => (hb.cell (p := ⟨g, j, none⟩) (by show g < B'; omega)).trans (h3 j hj)⟩
theorem JIn.more {w : World} {B B' : Nat} {v : Value} {ls : List Nat} (h : JIn w B v ls) (hB : B ≤ B') : JIn w B' v ls := by
  obtain ⟨A, c, e, h1, h2, h⟩ := h
  refine ⟨A, c, e, h1, h2, fun hl => ?_⟩
  obtain ⟨g, hg, hlt, h3⟩ := h hl
  exact ⟨g, hg, by omega, h3⟩
section
variable {w : World} {ops : Array Oper} {rest : List Oper} {o : Oper} {a : Act} {Q : Exit → Act → World → Prop}
theorem wpList_appJ (hgd : o.guard = none) (s x : Operand) (ho : o.op = .call { callee := .builtin .append, args := #[s, x], argTypes := #[63, 63] })
    (base : Nat) (v : Value) (l : List Nat) (y : Nat) (hs : a.eval s = v) (hown : OwnJ w base v l) (sb c : Nat) (hx : a.eval x = .slice (some ⟨sb, 0, none⟩) 1 c) (hsrc : w.cell? ⟨sb, 0, none⟩ = some (jv y))
    (hlen : l.length ≤ 1000000) (hbase : base ≤ w.heap.size)
    (h : ∀ v' w', OwnJ w' base v' (l ++ [y]) → w.grownBy w' v.ownBlock → wpList Tryd.prog ops Q rest (a.put o.dst v') w') : wpList Tryd.prog ops Q (o :: rest) a w := by
  obtain ⟨i0, hi, hz0, hz1, hz2⟩ := info_parts info_j
  refine wpList_append_own w hgd s x 63 ho base 3 i0 (.int .i64 0) 1 8 Tryd.underlying63 hi hz0 hz1 hz2 rfl (by decide) v l.length (l.map jv) hs hown ⟨sb, 0, none⟩ 1 c [jv y] hx rfl ?_ (by simp [jv, Value.oneCell']) (by unfold maxLen; omega) (by omega) hbase ?_
  · intro j u hu
    match j, hu with
    | 0, hu => cases hu; exact hsrc
    | j + 1, hu => simp at hu
  · intro v' w' h1 h2 _
    refine h v' w' ?_ h2
    unfold OwnJ
    rw [List.length_append, List.map_append]
    exact h1
end
end Go.Proofs.YtpfbpiegejbhkaaDoor
