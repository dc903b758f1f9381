/- Slices of texts of the call's own (the first part of Pieces). -/
import Derived.Test.YtoehkhbppmgfkaaGreatDoorSl
import Derived.Deep.RegionLaw
namespace Go.Proofs.YtoehkhbppmgfkaaGreatDoor
open Go.RowKit

theorem info_s : (Tryz.prog.info? 9).map (fun i => (i.zero, i.size, i.bytes)) = some (some (str []), 1, 16) := by kernel_rfl
/-- The slice v of texts is the call's own (its block lies from base on, or it is nil), and holds ls. -/
def OwnT (w : World) (base : Nat) (v : Value) (ls : List (List UInt8)) : Prop := w.ownsRow base 9 1 v ls.length (ls.map str)
theorem OwnT.nil (w : World) (base : Nat) : OwnT w base (.slice none 0 0) [] := World.ownsRow_nil w base _ 1
theorem OwnT.kept {w w' : World} {base : Nat} {v : Value} {ls : List (List UInt8)} {row : Option Nat} (h : OwnT w base v ls) (hg : w.grownBy w' row) (hne : v.ownBlock = none ∨ v.ownBlock ≠ row) : OwnT w' base v ls := World.ownsRow.kept h hg hne
theorem OwnT.below {w w' : World} {base : Nat} {v : Value} {ls : List (List UInt8)} (h : OwnT w base v ls) (hb : Below w.heap.size w w') : OwnT w' base v ls :=
  h.kept (grown_of_below hb none) (by cases hv : v.ownBlock <;> simp)
theorem OwnT.lt {w : World} {base : Nat} {v : Value} {ls : List (List UInt8)} (h : OwnT w base v ls) : ∀ k, v.ownBlock = some k → base ≤ k ∧ k < w.heap.size := World.ownsRow.lt h
theorem OwnT.belowBase {w w' : World} {base : Nat} {v : Value} {ls : List (List UInt8)} (h : OwnT w base v ls) (hg : w.grownBy w' v.ownBlock) (hb : base ≤ w.heap.size) : Below base w w' :=
  (Below.refl _ _).grown hg hb (fun k hk => (h.lt k hk).1)
theorem OwnT.form {w : World} {base : Nat} {v : Value} {ls : List (List UInt8)} (h : OwnT w base v ls) :
    (v = .slice none 0 0 ∧ ls = []) ∨ ∃ g cap, v = .slice (some ⟨g, 0, none⟩) ls.length cap ∧ base ≤ g ∧ g < w.heap.size ∧ ls.length ≤ cap ∧ cap ≤ maxLen ∧ ∀ j (hj : j < ls.length), w.cell? ⟨g, j, none⟩ = some (str ls[j]) := by
  obtain ⟨h1, h2 | ⟨g, cap, cur, rfl, hb, hg, hc, hm, hs, ht⟩⟩ := h
  · exact .inl ⟨h2.1, List.eq_nil_of_length_eq_zero h2.2⟩
  · refine .inr ⟨g, cap, rfl, hb, (Array.getElem?_eq_some_iff.1 hg).1, hc, hm, fun j hj => ?_⟩
    have hj' : j < cur.size := by omega
    have e : cur[j]? = some (str ls[j]) := by
      have := congrArg (fun x : List Value => x[j]?) ht
      simp only [List.getElem?_map, List.getElem?_eq_getElem hj, List.getElem?_take, Option.map_some] at this
      rw [if_pos (by omega)] at this
      simpa using this
    simp [World.cell?, hg, e]
section
variable {w : World} {ops : Array Oper} {rest : List Oper} {o : Oper} {a : Act} {K : Act → World → Prop} {Q : Exit → Act → World → Prop} {E : Prop}
theorem wpList_appT (hgd : o.guard = none) (s x : Operand) (ho : o.op = .call { callee := .builtin .append, args := #[s, x], argTypes := #[52, 52] })
    (base : Nat) (v : Value) (l : List (List UInt8)) (y : List UInt8) (hs : a.eval s = v) (hown : OwnT w base v l) (sb c : Nat) (hx : a.eval x = .slice (some ⟨sb, 0, none⟩) 1 c) (hsrc : w.cell? ⟨sb, 0, none⟩ = some (str y))
    (hlen : l.length ≤ 1000000) (hbase : base ≤ w.heap.size)
    (h : ∀ v' w', OwnT w' base v' (l ++ [y]) → w.grownBy w' v.ownBlock → wpList Tryz.prog ops Q rest (a.put o.dst v') w') : wpList Tryz.prog ops Q (o :: rest) a w := by
  obtain ⟨i0, hi, hz0, hz1, hz2⟩ := info_parts info_s
  refine wpList_append_own w hgd s x 52 ho base 9 i0 (str []) 1 16 Tryz.underlying52 hi hz0 hz1 hz2 rfl (by decide) v l.length (l.map str) hs hown ⟨sb, 0, none⟩ 1 c [str y] hx rfl ?_ (by simp [Value.oneCell']) (by unfold maxLen; omega) (by omega) hbase ?_
  · intro j u hu
    match j, hu with
    | 0, hu => cases hu; exact hsrc
    | j + 1, hu => simp at hu
  · intro v' w' h1 h2 _
    refine h v' w' ?_ h2
    unfold OwnT
    rw [List.length_append, List.map_append]
    exact h1
theorem step_appT (hgd : o.guard = none) (s x : Operand) (ho : o.op = .call { callee := .builtin .append, args := #[s, x], argTypes := #[52, 52] })
    (base : Nat) (v : Value) (l : List (List UInt8)) (y : List UInt8) (hs : a.eval s = v) (hown : OwnT w base v l) (sb c : Nat) (hx : a.eval x = .slice (some ⟨sb, 0, none⟩) 1 c) (hsrc : w.cell? ⟨sb, 0, none⟩ = some (str y))
    (hlen : l.length ≤ 1000000) (hbase : base ≤ w.heap.size)
    (h : ∀ v' w', OwnT w' base v' (l ++ [y]) → w.grownBy w' v.ownBlock → K (a.put o.dst v') w') : if Region.wanted o (yielded ops a.tmps) = true then Oper.wp Tryz.prog o a w K Q else E := by
  rw [if_pos (show Region.wanted o (yielded ops a.tmps) = true by simp [Region.wanted, hgd])]
  obtain ⟨i0, hi, hz0, hz1, hz2⟩ := info_parts info_s
  refine wp_append_own w s x 52 ho base 9 i0 (str []) 1 16 Tryz.underlying52 hi hz0 hz1 hz2 rfl (by decide) v l.length (l.map str) hs hown ⟨sb, 0, none⟩ 1 c [str y] hx rfl ?_ (by simp [Value.oneCell']) (by unfold maxLen; omega) (by omega) hbase ?_
  · intro j u hu
    match j, hu with
    | 0, hu => cases hu; exact hsrc
    | j + 1, hu => simp at hu
  · intro v' w' h1 h2 _
    refine h v' w' ?_ h2
    unfold OwnT
    rw [List.length_append, List.map_append]
    exact h1
end
end Go.Proofs.YtoehkhbppmgfkaaGreatDoor
