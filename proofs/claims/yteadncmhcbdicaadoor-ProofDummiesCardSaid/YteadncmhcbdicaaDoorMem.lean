/- Blocks of memory known whole, slices of bytes, and what is kept. Nothing of the program is imported. -/
import Derived.Test.YteadncmhcbdicaaDoorBits
import Derived.Maps.AppendAt
import Derived.Deep.MidRow
import Derived.Deep.Draws
namespace Go.Proofs.YteadncmhcbdicaaDoor
open Go.RowKit

/-- Block b is a row of the cells cs, none of them barred from being written. -/
def Blk (w : World) (b : Nat) (cs : List Value) : Prop := ∃ t, w.heap[b]? = some (.cells cs.toArray t (0, 0))
section
variable {w w' : World} {b : Nat} {cs : List Value}
theorem Blk.cell (h : Blk w b cs) (o : Nat) : w.cell? ⟨b, o, none⟩ = cs[o]? := by obtain ⟨t, h⟩ := h; simp [World.cell?, h]
theorem Blk.at (h : Blk w b cs) {o : Nat} {v : Value} (hv : cs[o]? = some v) : w.cell? ⟨b, o, none⟩ = some v := (h.cell o).trans hv
theorem Blk.free (h : Blk w b cs) (o : Nat) : w.frozen? ⟨b, o, none⟩ = false := by obtain ⟨t, h⟩ := h; simp [World.frozen?, h]
theorem Blk.lt (h : Blk w b cs) : b < w.heap.size := by
  obtain ⟨t, h⟩ := h; exact (Array.getElem?_eq_some_iff.1 h).1
theorem Blk.set (h : Blk w b cs) (o : Nat) (v : Value) : Blk (w.setCell ⟨b, o, none⟩ v) b (cs.set o v) := by
  obtain ⟨t, h⟩ := h; refine ⟨t, ?_⟩; simp only [World.setCell]; rw [Array.getElem?_modify, if_pos rfl, h]; simp
theorem Blk.setOther (h : Blk w b cs) {a : Addr} (ha : a.block ≠ b) (v : Value) : Blk (w.setCell a v) b cs := by
  obtain ⟨t, h⟩ := h; exact ⟨t, (Below.heap_setCell w a v b (Ne.symm ha)).trans h⟩
theorem Blk.alloc (h : Blk w b cs) (o : Obj) : Blk (w.alloc o) b cs := by
  have hl := h.lt; obtain ⟨t, h⟩ := h; exact ⟨t, (Below.heap_alloc w o b hl).trans h⟩
theorem Blk.new (w : World) (cs : List Value) (t : TypeId) : Blk (w.alloc (.cells cs.toArray t)) w.heap.size cs := ⟨t, heap_alloc_new w _⟩
theorem Blk.newA (w : World) (c : Array Value) (t : TypeId) : Blk (w.alloc (.cells c t)) w.heap.size c.toList := ⟨t, by simpa using heap_alloc_new w (.cells c t)⟩
theorem Blk.newAt (w : World) (c : Array Value) (t : TypeId) {n : Nat} {cs : List Value} (hn : n = w.heap.size) (hc : c.toList = cs) : Blk (w.alloc (.cells c t)) n cs := by subst hn; subst hc; exact Blk.newA w c t
theorem Blk.drewN (h : Blk w b cs) (n : Nat) : Blk (w.drewN n) b cs := h
theorem Blk.drew (h : Blk w b cs) : Blk w.drew b cs := h
theorem Blk.grown {row : Option Nat} (h : Blk w b cs) (hg : w.grownBy w' row) (hne : some b ≠ row) : Blk w' b cs := by
  have hl := h.lt; obtain ⟨t, h⟩ := h; exact ⟨t, (hg.block b hl hne).trans h⟩
theorem Blk.below {B : Nat} (h : Blk w b cs) (hb : Below B w w') (hB : b < B) : Blk w' b cs := by
  obtain ⟨t, h⟩ := h; exact ⟨t, (hb.block b hB).trans h⟩
theorem Blk.range (h : Blk w b cs) (o n : Nat) : w.rangeAt b o ((cs.drop o).take n) := by
  intro j v hv
  rw [h.cell]
  rw [List.getElem?_take] at hv
  split at hv
  · rw [List.getElem?_drop] at hv; exact hv
  · cases hv
theorem Blk.there (h : Blk w b cs) (o n : Nat) (hn : o + n ≤ cs.length) : w.there b o n := by
  intro j hj
  exact ⟨by rw [h.cell, List.getElem?_eq_getElem (by omega)]; rfl, h.free _⟩
theorem Blk.setCells {vs : List Value} : ∀ {w : World} {cs : List Value} (_ : Blk w b cs) (o : Nat) (_ : o + vs.length ≤ cs.length), Blk (w.setCells b o vs) b (cs.take o ++ vs ++ cs.drop (o + vs.length)) := by
  induction vs with
  | nil => intro w cs h o _; simpa [World.setCells] using h
  | cons v vs ih =>
    intro w cs h o hl
    simp only [List.length_cons] at hl
    have h1 := ih (h.set o v) (o + 1) (by simp; omega)
    have e : (cs.set o v).take (o + 1) ++ vs ++ (cs.set o v).drop (o + 1 + vs.length) = cs.take o ++ v :: vs ++ cs.drop (o + (v :: vs).length) := by
      rw [List.take_set, List.drop_set_of_lt (by omega), List.take_succ_eq_append_getElem (by omega), List.set_append_right _ _ (by simp; omega)]
      simp [Nat.min_eq_left (show o ≤ cs.length by omega), show o + 1 + vs.length = o + (vs.length + 1) by omega]
    rw [← e]; exact h1
theorem Blk.setAll {vs : List Value} (h : Blk w b cs) (hl : vs.length = cs.length) : Blk (w.setCells b 0 vs) b vs := by
  have := h.setCells (vs := vs) 0 (by omega)
  simpa [hl] using this
theorem Blk.heap (h : Blk w b cs) : ∃ t, w.heap[b]? = some (.cells cs.toArray t (0, 0)) := h
end
theorem below_setCells {B : Nat} {b : Nat} (hB : B ≤ b) (vs : List Value) : ∀ {a w : World} (_ : Below B a w) (o : Nat), Below B a (w.setCells b o vs) := by
  induction vs with
  | nil => intro a w h o; exact h
  | cons v vs ih => intro a w h o; exact ih (h.setCell (p := ⟨b, o, none⟩) hB v) (o + 1)

theorem grown_of_below {w w' : World} (h : Below w.heap.size w w') (row : Option Nat) : w.grownBy w' row := ⟨h.os, h.tape, h.output, h.size, fun k hk _ => h.block k hk⟩
theorem below_of_grown {w w' : World} (h : w.grownBy w' none) : Below w.heap.size w w' := ⟨h.os, h.tape, h.output, h.size, fun k hk => h.block k hk (by simp)⟩
theorem below_drewN {B : Nat} {a w : World} (h : Below B a w) (n : Nat) : Below B a (w.drewN n) := ⟨h.os, h.tape, h.output, h.size, h.block⟩
theorem grown_drewN {a w : World} {row : Option Nat} (h : a.grownBy w row) (n : Nat) : a.grownBy (w.drewN n) row := ⟨h.os, h.tape, h.output, h.size, h.block⟩
theorem grown_below {a b c : World} {row : Option Nat} (h : a.grownBy b row) (k : Below b.heap.size b c) : a.grownBy c row := h.trans (grown_of_below k row)
theorem grown_set (w : World) (a : Addr) (v : Value) : w.grownBy (w.setCell a v) (some a.block) :=
  ⟨rfl, rfl, rfl, by simp, fun k _ hk => Below.heap_setCell w a v k (fun e => hk (by rw [e]))⟩

theorem grown_setCells (b : Nat) (vs : List Value) : ∀ (w : World) (o : Nat), w.grownBy (w.setCells b o vs) (some b) := by
  induction vs with
  | nil => intro w o; exact World.grownBy.refl w _
  | cons v vs ih => intro w o; exact (grown_set w ⟨b, o, none⟩ v).trans (ih _ (o + 1))

/-- The bytes l lie in block b from o on. -/
def Bs (w : World) (b o : Nat) (l : List UInt8) : Prop := ∀ j (h : j < l.length), w.cell? ⟨b, o + j, none⟩ = some (vb l[j])
theorem Bs.below {w w' : World} {b o : Nat} {l : List UInt8} {B : Nat} (h : Bs w b o l) (hb : Below B w w') (hB : b < B) : Bs w' b o l := fun j hj => (hb.cell (p := ⟨b, o + j, none⟩) hB).trans (h j hj)
theorem Bs.grown {w w' : World} {b o : Nat} {l : List UInt8} {row : Option Nat} (h : Bs w b o l) (hg : w.grownBy w' row) (hne : some b ≠ row) : Bs w' b o l := fun j hj => hg.cell (h j hj) hne
theorem Bs.getD {w : World} {b o : Nat} {l : List UInt8} (h : Bs w b o l) {j : Nat} (hj : j < l.length) : w.cell? ⟨b, o + j, none⟩ = some (vb (l.getD j 0)) := by
  rw [h j hj, List.getD_eq_getElem?_getD, List.getElem?_eq_getElem hj]; rfl
theorem Bs.getD2 {w : World} {b o : Nat} {l : List UInt8} (h : Bs w b o l) {j i : Nat} (hj : j + i < l.length) : w.cell? ⟨b, o + j + i, none⟩ = some (vb (l.getD (j + i) 0)) := by
  rw [Nat.add_assoc]; exact h.getD hj
theorem Bs.drop {w : World} {b o : Nat} {l : List UInt8} (h : Bs w b o l) (n : Nat) : Bs w b (o + n) (l.drop n) := fun j hj => by
  have := h (n + j) (by simp at hj; omega)
  rw [List.getElem_drop, Nat.add_assoc]; exact this
theorem Bs.take {w : World} {b o : Nat} {l : List UInt8} (h : Bs w b o l) (n : Nat) : Bs w b o (l.take n) := fun j hj => by
  rw [List.getElem_take]; exact h j (by simp at hj; omega)
theorem Bs.of_blk {w : World} {b : Nat} {l : List UInt8} {cs : List Value} (h : Blk w b cs) (o : Nat) (he : ∀ j (hj : j < l.length), cs[o + j]? = some (vb l[j])) : Bs w b o l := fun j hj => (h.cell _).trans (he j hj)
end Go.Proofs.YteadncmhcbdicaaDoor
