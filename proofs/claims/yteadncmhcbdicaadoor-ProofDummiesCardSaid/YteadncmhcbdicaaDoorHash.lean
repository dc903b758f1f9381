/- A Hash in memory, and what its methods do to it, as lists. -/
import Derived.Test.YteadncmhcbdicaaDoorWhole
import Derived.Test.YteadncmhcbdicaaDoorShaM
namespace Go.Proofs.YteadncmhcbdicaaDoor
open Go.RowKit

/-- The cells of a Hash. -/
def hcells (s : St) (t : List UInt8) (n : Nat) : List Value := s.cells ++ (t.map vb ++ [.int .u64 (un n)])
theorem hcells_length (s : St) (t : List UInt8) (n : Nat) (ht : t.length = 64) : (hcells s t n).length = 73 := by
  unfold hcells; rw [List.length_append, List.length_append, List.length_map, ht]; rfl
theorem hcells_total (s : St) (t : List UInt8) (n : Nat) (ht : t.length = 64) : (hcells s t n)[72]? = some (.int .u64 (un n)) := by
  unfold hcells; rw [List.getElem?_append_right (by rw [cells_length]; decide), cells_length, List.getElem?_append_right (by rw [List.length_map, ht]; decide), List.length_map, ht]; rfl
theorem hcells_setTotal (s : St) (t : List UInt8) (n m : Nat) (ht : t.length = 64) : (hcells s t n).set 72 (.int .u64 (un m)) = hcells s t m := by
  unfold hcells; rw [List.set_append_right _ _ (by rw [cells_length]; decide), cells_length, List.set_append_right _ _ (by rw [List.length_map, ht]; decide), List.length_map, ht]; rfl
theorem hcells_state (s : St) (t : List UInt8) (n : Nat) : (hcells s t n).take 8 = s.cells := by unfold hcells; rfl
theorem hcells_tail (s : St) (t : List UInt8) (n : Nat) (ht : t.length = 64) : ((hcells s t n).drop 8).take 64 = t.map vb := by
  unfold hcells; rw [List.drop_append_of_le_length (by rw [cells_length]; decide), show s.cells.drop 8 = [] from rfl, List.nil_append, List.take_append_of_le_length (by rw [List.length_map, ht]; decide), List.take_of_length_le (by rw [List.length_map, ht]; decide)]
theorem hcells_setState (s s' : St) (t : List UInt8) (n : Nat) : (hcells s t n).take 0 ++ s'.cells ++ (hcells s t n).drop (0 + s'.cells.length) = hcells s' t n := by unfold hcells; rfl
theorem hcells_lt (s : St) (t : List UInt8) (n j : Nat) (h : j < 8) : (hcells s t n)[j]? = s.cells[j]? := by unfold hcells; rw [List.getElem?_append_left (by rw [cells_length]; exact h)]
/-- q laid over t from place r on. -/
def over (t : List UInt8) (r : Nat) (q : List UInt8) : List UInt8 := t.take r ++ q ++ t.drop (r + q.length)
theorem over_length (t : List UInt8) (r : Nat) (q : List UInt8) (h : r + q.length ≤ t.length) : (over t r q).length = t.length := by unfold over; simp; omega
theorem hcells_setTail (s : St) (t : List UInt8) (n r : Nat) (q : List UInt8) (ht : t.length = 64) (h : r + q.length ≤ 64) :
    (hcells s t n).take (8 + r) ++ q.map vb ++ (hcells s t n).drop (8 + r + (q.map vb).length) = hcells s (over t r q) n := by
  unfold hcells over
  have e1 : (s.cells ++ (t.map vb ++ [Value.int .u64 (un n)])).take (8 + r) = s.cells ++ (t.take r).map vb := by
    rw [List.take_append, cells_length, List.take_of_length_le (by rw [cells_length]; omega), show 8 + r - 8 = r from by omega, List.take_append_of_le_length (by rw [List.length_map, ht]; omega), List.map_take]
  have e2 : (s.cells ++ (t.map vb ++ [Value.int .u64 (un n)])).drop (8 + r + (q.map vb).length) = (t.drop (r + q.length)).map vb ++ [Value.int .u64 (un n)] := by
    rw [List.drop_append, cells_length, List.drop_of_length_le (by rw [cells_length]; omega), List.nil_append, show 8 + r + (q.map vb).length - 8 = r + q.length from by rw [List.length_map]; omega, List.drop_append_of_le_length (by rw [List.length_map, ht]; omega), List.map_drop]
  rw [e1, e2]
  simp
/-- A Hash: its state, its tail, how many bytes there were. -/
structure HashIs (w : World) (b : Nat) (s : St) (t : List UInt8) (n : Nat) : Prop where
  blk : Blk w b (hcells s t n)
  len : t.length = 64
theorem Blk.tail {W : World} {hb : Nat} {s : St} {t : List UInt8} {n : Nat} (h : Blk W hb (hcells s t n)) (ht : t.length = 64) : Bs W hb 8 t := by
  have := h.range 8 64
  rw [hcells_tail _ _ _ ht] at this
  exact Bs.of_rangeAt this
theorem Blk.state {W : World} {hb : Nat} {s : St} {t : List UInt8} {n : Nat} (h : Blk W hb (hcells s t n)) : W.rangeAt hb 0 s.cells := by
  have := h.range 0 8
  rw [List.drop_zero, hcells_state] at this
  exact this
theorem Blk.cells8 {W : World} {hb : Nat} {s : St} {t : List UInt8} {n : Nat} (h : Blk W hb (hcells s t n)) :
    W.cell? ⟨hb, 0, none⟩ = some (vw s.a) ∧ W.cell? ⟨hb, 1, none⟩ = some (vw s.b) ∧ W.cell? ⟨hb, 2, none⟩ = some (vw s.c) ∧ W.cell? ⟨hb, 3, none⟩ = some (vw s.d) ∧ W.cell? ⟨hb, 4, none⟩ = some (vw s.e) ∧ W.cell? ⟨hb, 5, none⟩ = some (vw s.f) ∧ W.cell? ⟨hb, 6, none⟩ = some (vw s.g) ∧ W.cell? ⟨hb, 7, none⟩ = some (vw s.h) ∧ W.frozen? ⟨hb, 0, none⟩ = false ∧ W.frozen? ⟨hb, 1, none⟩ = false ∧ W.frozen? ⟨hb, 2, none⟩ = false ∧ W.frozen? ⟨hb, 3, none⟩ = false ∧ W.frozen? ⟨hb, 4, none⟩ = false ∧ W.frozen? ⟨hb, 5, none⟩ = false ∧ W.frozen? ⟨hb, 6, none⟩ = false ∧ W.frozen? ⟨hb, 7, none⟩ = false :=
  ⟨h.at ((hcells_lt _ _ _ _ (by decide)).trans rfl), h.at ((hcells_lt _ _ _ _ (by decide)).trans rfl), h.at ((hcells_lt _ _ _ _ (by decide)).trans rfl), h.at ((hcells_lt _ _ _ _ (by decide)).trans rfl), h.at ((hcells_lt _ _ _ _ (by decide)).trans rfl), h.at ((hcells_lt _ _ _ _ (by decide)).trans rfl), h.at ((hcells_lt _ _ _ _ (by decide)).trans rfl), h.at ((hcells_lt _ _ _ _ (by decide)).trans rfl), h.free _, h.free _, h.free _, h.free _, h.free _, h.free _, h.free _, h.free _⟩
theorem Blk.setState {W : World} {hb : Nat} {s : St} {t : List UInt8} {n : Nat} (h : Blk W hb (hcells s t n)) (ht : t.length = 64) (s' : St) : Blk (W.setCells hb 0 s'.cells) hb (hcells s' t n) := by
  have := h.setCells (vs := s'.cells) 0 (by rw [hcells_length _ _ _ ht, cells_length]; decide)
  rw [hcells_setState] at this
  exact this
attribute [irreducible] hcells over
end Go.Proofs.YteadncmhcbdicaaDoor
