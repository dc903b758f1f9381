/- Slices of bytes of the call's own: made, appended to (XApp without the texts on SHA-256). -/
import Derived.Test.YteadncmhcbdicaaDoorRows
import Derived.Test.YteadncmhcbdicaaDoorMem
import Derived.Lib.Hide
import Derived.IntWalk
import Derived.Laws.CopyOwn
namespace Go.Proofs.YteadncmhcbdicaaDoor
open Go.RowKit

theorem info_b : (Tryd.prog.info? 5).map (fun i => (i.zero, i.size, i.bytes)) = some (some (.int .u8 0), 1, 1) := by kernel_rfl
theorem info_b1 : (Tryd.prog.info? 5).map (·.size) = some 1 := by kernel_rfl
/-- The slice v of bytes is the call's own (its block lies from base on, or it is nil), and holds l. -/
def OwnB (w : World) (base : Nat) (v : Value) (l : List UInt8) : Prop := w.ownsRow base 5 1 v l.length (l.map vb)
theorem OwnB.nil (w : World) (base : Nat) : OwnB w base (.slice none 0 0) [] := World.ownsRow_nil w base _ 1
theorem OwnB.parts {w : World} {base : Nat} {v : Value} {l : List UInt8} (h : OwnB w base v l) :
    (v = .slice none 0 0 ∧ l = []) ∨ ∃ g cap, v = .slice (some ⟨g, 0, none⟩) l.length cap ∧ base ≤ g ∧ g < w.heap.size ∧ l.length ≤ cap ∧ cap ≤ maxLen ∧ Bs w g 0 l ∧ (∀ j, w.frozen? ⟨g, j, none⟩ = false) := by
  obtain ⟨h1, h2 | ⟨g, cap, cur, rfl, hb, hg, hc, hm, hs, ht⟩⟩ := h
  · exact .inl ⟨h2.1, List.eq_nil_of_length_eq_zero h2.2⟩
  · refine .inr ⟨g, cap, rfl, hb, (Array.getElem?_eq_some_iff.1 hg).1, hc, hm, fun j hj => ?_, fun j => by simp [World.frozen?, hg]⟩
    have hj' : j < cur.size := by omega
    have e : cur[j]? = some (vb l[j]) := by
      have := congrArg (fun x : List Value => x[j]?) ht
      simp only [List.getElem?_map, List.getElem?_eq_getElem hj, List.getElem?_take, Option.map_some] at this
      rw [if_pos (by omega)] at this
      simpa using this
    simp [World.cell?, hg, e]
theorem OwnB.form {w : World} {base : Nat} {v : Value} {l : List UInt8} (h : OwnB w base v l) (hl : 0 < l.length) :
    ∃ g cap, v = .slice (some ⟨g, 0, none⟩) l.length cap ∧ base ≤ g ∧ g < w.heap.size ∧ l.length ≤ cap ∧ cap ≤ maxLen ∧ Bs w g 0 l ∧ (∀ j, w.frozen? ⟨g, j, none⟩ = false) := by
  rcases h.parts with ⟨_, rfl⟩ | h
  · simp at hl
  · exact h
theorem OwnB.kept {w w' : World} {base : Nat} {v : Value} {l : List UInt8} {row : Option Nat} (h : OwnB w base v l) (hg : w.grownBy w' row) (hne : v.ownBlock = none ∨ v.ownBlock ≠ row) : OwnB w' base v l := World.ownsRow.kept h hg hne
theorem OwnB.below {w w' : World} {base : Nat} {v : Value} {l : List UInt8} (h : OwnB w base v l) (hb : Below w.heap.size w w') : OwnB w' base v l :=
  h.kept (grown_of_below hb none) (by cases hv : v.ownBlock <;> simp)
theorem OwnB.lower {w : World} {base base' : Nat} {v : Value} {l : List UInt8} (h : OwnB w base v l) (hb : base' ≤ base) : OwnB w base' v l := by
  obtain ⟨h1, h2 | ⟨g, cap, cur, rfl, hb', hg⟩⟩ := h
  · exact ⟨h1, .inl h2⟩
  · exact ⟨h1, .inr ⟨g, cap, cur, rfl, by omega, hg⟩⟩
theorem OwnB.lt {w : World} {base : Nat} {v : Value} {l : List UInt8} (h : OwnB w base v l) : ∀ k, v.ownBlock = some k → base ≤ k ∧ k < w.heap.size := World.ownsRow.lt h
/-- What an append leaves below base is as it was. -/
theorem OwnB.belowBase {w w' : World} {base : Nat} {v : Value} {l : List UInt8} (h : OwnB w base v l) (hg : w.grownBy w' v.ownBlock) (hb : base ≤ w.heap.size) : Below base w w' :=
  (Below.refl _ _).grown hg hb (fun k hk => (h.lt k hk).1)

/-- The row of a new slice of bytes. -/
def noughts (n : Nat) : Array Value := (List.replicate n (vb 0)).toArray
theorem noughts_size (n : Nat) : (noughts n).size = n := by unfold noughts; simp
theorem noughts_at (n i : Nat) (h : i < n) : (noughts n)[i]? = some (vb 0) := by unfold noughts; simp [h]
theorem make_bytes (L C : Nat) (h : L ≤ C) (hC : C ≤ 1099511627776) (W : World) :
    (Instr.makeSlice 26 (.int .i64 (L : Int)) (.int .i64 (C : Int))).run Tryd.prog W = .ok (.slice (some ⟨W.heap.size, 0, none⟩) L C) (W.alloc (.cells (noughts C) 5)) := by
  obtain ⟨i0, hi, hz0, hz1, hz2⟩ := info_parts info_b
  have hr := run_make (P := Tryd.prog) W 26 5 i0 (.int .u8 0) Tryd.underlying26 hi hz0 .i64 .i64 L C (by omega) (by omega) (by rw [hz2]; omega) (by omega)
  simp only [Int.toNat_natCast, hz1, Nat.mul_one, Value.cells] at hr
  rw [hr]
  have e : madeCells #[Value.int .u8 0] C = noughts C := by
    apply Array.toList_inj.1
    rw [toList_madeCells_one]; rfl
  rw [e]
theorem noughts_list (n : Nat) : (noughts n).toList = List.replicate n (vb 0) := rfl
attribute [irreducible] noughts
/-- A whole row known by its heap's entry is owned. -/
theorem OwnB.of_heap {w : World} {base g cap n : Nat} {cur : Array Value} {l : List UInt8} (hb : base ≤ g) (hg : w.heap[g]? = some (.cells cur 5 (0, 0))) (hc : cur.size = cap) (hm : cap ≤ maxLen) (hn : l.length = n) (hl : cur.toList.take n = l.map vb) (hnc : n ≤ cap) :
    OwnB w base (.slice (some ⟨g, 0, none⟩) n cap) l := by
  subst hn
  exact ⟨by simp, .inr ⟨g, cap, cur, rfl, hb, hg, hnc, hm, by simp [hc], by simpa using hl⟩⟩

section
variable {w : World} {ops : Array Oper} {rest : List Oper} {o : Oper} {a : Act} {Q : Exit → Act → World → Prop}
theorem wpList_app (hgd : o.guard = none) (s x : Operand) (ho : o.op = .call { callee := .builtin .append, args := #[s, x], argTypes := #[26, 26] })
    (base : Nat) (v : Value) (l ms : List UInt8) (hs : a.eval s = v) (hown : OwnB w base v l) (sb so m c : Nat) (hx : a.eval x = .slice (some ⟨sb, so, none⟩) m c) (hm : ms.length = m) (hsrc : Bs w sb so ms)
    (hlen : l.length + m ≤ 1099511627776) (hbase : base ≤ w.heap.size)
    (h : ∀ v' w', OwnB w' base v' (l ++ ms) → w.grownBy w' v.ownBlock → wpList Tryd.prog ops Q rest (a.put o.dst v') w') : wpList Tryd.prog ops Q (o :: rest) a w := by
  obtain ⟨i0, hi, hz0, hz1, hz2⟩ := info_parts info_b
  refine wpList_append_own w hgd s x 26 ho base 5 i0 (.int .u8 0) 1 1 Tryd.underlying26 hi hz0 hz1 hz2 rfl (by decide) v l.length (l.map vb) hs hown ⟨sb, so, none⟩ m c (ms.map vb) hx (by simp [hm]) ?_ ?_ (by unfold maxLen; omega) (by omega) hbase ?_
  · intro j u hu
    rw [Addr.add_mid]
    rw [List.getElem?_map] at hu
    by_cases hj : j < ms.length
    · rw [List.getElem?_eq_getElem hj] at hu; cases hu; exact hsrc j hj
    · rw [List.getElem?_eq_none (by omega)] at hu; cases hu
  · intro u hu; rw [List.mem_map] at hu; obtain ⟨b, _, rfl⟩ := hu; rfl
  · intro v' w' h1 h2 _
    refine h v' w' ?_ h2
    unfold OwnB
    rw [List.length_append, hm, List.map_append]
    exact h1
/-- copy: the row of the destination is written from off on. -/
theorem wpList_copy_to {P : Program} (hgd : o.guard = none) (d s : Operand) (dT sT : TypeId)
    (ho : o.op = .call { callee := .builtin .copy, args := #[d, s], argTypes := #[dT, sT] }) (elem : TypeId) (hu : P.underlying dT = some (.slice elem)) (hsz : (P.info? elem).map (·.size) = some 1)
    (dp sp : Option Addr) (dLen dCap sLen sCap : Nat) (hd : a.eval d = .slice dp dLen dCap) (hs : a.eval s = .slice sp sLen sCap)
    (g off : Nat) (cs : List Value) (hn : cs.length = Nat.min sLen dLen)
    (hpos : 0 < cs.length → dp = some ⟨g, off, none⟩ ∧ ∃ sb so, sp = some ⟨sb, so, none⟩ ∧ w.rangeAt sb so cs)
    (ht : w.there g off cs.length) (h1 : ∀ v ∈ cs, v.oneCell' = true)
    (h : wpList P ops Q rest (a.put o.dst (goInt cs.length)) (w.setCells g off cs)) : wpList P ops Q (o :: rest) a w := by
  by_cases h0 : cs.length = 0
  · obtain rfl : cs = [] := List.eq_nil_of_length_eq_zero h0
    exact wpList_copy_nothing hgd d s dT sT ho elem hu hsz dp sp dLen dCap sLen sCap hd hs (by simpa using hn.symm) h
  · obtain ⟨rfl, sb, so, rfl, hsrc⟩ := hpos (by omega)
    refine wpList_plain hgd fun K hK => ?_
    have hrun := run_copy_cells (P := P) w dT sT o.type elem g off dLen dCap ⟨sb, so, none⟩ sLen sCap cs hu hsz hn (fun j v hv => by rw [Addr.add_mid]; exact hsrc j v hv) (fun j hj => (ht j hj).1) (fun j hj => (ht j hj).2) h1
    unfold Oper.wp
    simp [execOp, ho, resolve, invoke, builtin, hd, hs, hrun, Result.andThen]
    exact hK _ _ h
end
theorem oneCell_bytes (l : List UInt8) : ∀ v ∈ l.map vb, v.oneCell' = true := by
  intro v hv; rw [List.mem_map] at hv; obtain ⟨x, _, rfl⟩ := hv; rfl
theorem Bs.rangeAt {w : World} {b o : Nat} {l : List UInt8} (h : Bs w b o l) : w.rangeAt b o (l.map vb) := by
  intro j v hv
  rw [List.getElem?_map] at hv
  by_cases hj : j < l.length
  · rw [List.getElem?_eq_getElem hj] at hv; cases hv; exact h j hj
  · rw [List.getElem?_eq_none (by omega)] at hv; cases hv
theorem Bs.of_rangeAt {w : World} {b o : Nat} {l : List UInt8} (h : w.rangeAt b o (l.map vb)) : Bs w b o l := fun j hj => h j _ (by rw [List.getElem?_map, List.getElem?_eq_getElem hj]; rfl)
end Go.Proofs.YteadncmhcbdicaaDoor
