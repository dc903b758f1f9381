/- What an iterator over rules has handed over; what a loop's body keeps. -/
import Derived.Test.YthpkmdojeegleaaGreatDoorRuWh
import Derived.Test.YthpkmdojeegleaaGreatDoorRangeGx
set_option maxRecDepth 100000
namespace Go.Proofs.YthpkmdojeegleaaGreatDoor
open Go.RowKit Go.Shelf
theorem zip_pre {xs : List RuL} {pre : List (RuL × Nat)} {x : RuL × Nat} (h2 : pre ++ [x] <+: xs.zipIdx) : ∃ h : pre.length < xs.length, x = (xs[pre.length], pre.length) ∧ pre = xs.zipIdx.take pre.length := by
  have hl := h2.length_le
  rw [List.length_append, List.length_singleton, List.length_zipIdx] at hl
  have ht := List.prefix_iff_eq_take.1 h2
  rw [List.length_append, List.length_singleton, zip_take xs _ (by omega)] at ht
  obtain ⟨e1, e2⟩ := List.append_inj' ht rfl
  exact ⟨by omega, by simpa using e2, e1⟩
theorem kf_low {b : Nat} {A B : World} (h : Below A.heap.size A B) : KeepsFrom b A B := ⟨h.size, fun k _ _ ho _ => (h.block k (Array.getElem?_eq_some_iff.1 ho).1).trans ho⟩
theorem kf_cells {W : World} {b : Nat} {p : Addr} {c : Array Value} {t : TypeId} (hp : W.heap[p.block]? = some (Obj.cells c t (0, 0))) (u : Value) : KeepsFrom b W (W.setCell p u) := by
  have g1 := grown_set W p u
  refine ⟨g1.size, fun k o _ ho hc => (g1.block k (Array.getElem?_eq_some_iff.1 ho).1 (fun e => ?_)).trans ho⟩
  injection e with e
  rw [e, hp] at ho
  cases ho
  cases hc
end Go.Proofs.YthpkmdojeegleaaGreatDoor
