/- Rows of one, two and three slices of bytes; a slice over a new row. -/
import Derived.Test.YteadncmhcbdicaaDoorShaSum
namespace Go.Proofs.YteadncmhcbdicaaDoor
open Go.RowKit
/-- One slice of bytes in a new row. -/
theorem Sls.one (W : World) (l1 : List UInt8) (v1 : Value) (t : TypeId) (h1 : Sl W W.heap.size v1 l1) :
    Sls (W.alloc (.cells #[v1] t)) (W.heap.size + 1) (.slice (some ⟨W.heap.size, 0, none⟩) 1 1) [l1] := by
  refine ⟨_, 1, rfl, Nat.le_refl _, by omega, fun _ => ⟨_, 0, rfl, by omega, fun j hj => ?_⟩⟩
  have hb := Blk.newA W #[v1] t
  have hbl : Below W.heap.size W (W.alloc (.cells #[v1] t)) := (Below.refl _ _).alloc (Nat.le_refl _) _
  match j, hj with
  | 0, _ => exact ⟨v1, hb.at rfl, (h1.below hbl (Nat.le_refl _)).more (by omega)⟩
/-- Two slices of bytes in a new row. -/
theorem Sls.two (W : World) (l1 l2 : List UInt8) (v1 v2 : Value) (t : TypeId) (h1 : Sl W W.heap.size v1 l1) (h2 : Sl W W.heap.size v2 l2) :
    Sls (W.alloc (.cells #[v1, v2] t)) (W.heap.size + 1) (.slice (some ⟨W.heap.size, 0, none⟩) 2 2) [l1, l2] := by
  refine ⟨_, 2, rfl, Nat.le_refl _, by omega, fun _ => ⟨_, 0, rfl, by omega, fun j hj => ?_⟩⟩
  have hb := Blk.newA W #[v1, v2] t
  have hbl : Below W.heap.size W (W.alloc (.cells #[v1, v2] t)) := (Below.refl _ _).alloc (Nat.le_refl _) _
  match j, hj with
  | 0, _ => exact ⟨v1, hb.at rfl, (h1.below hbl (Nat.le_refl _)).more (by omega)⟩
  | 1, _ => exact ⟨v2, hb.at rfl, (h2.below hbl (Nat.le_refl _)).more (by omega)⟩
theorem Sl.of_new (w : World) (l : List UInt8) (cs : Array Value) (hcs : cs = (l.map vb).toArray) (fr : Nat × Nat) (n : Nat) (hn : n = l.length) (hl : n ≤ 1000000) : Sl (w.alloc (.cells cs 5 fr)) (w.heap.size + 1) (.slice (some ⟨w.heap.size, 0, none⟩) n n) l := by
  subst hn; subst hcs
  refine ⟨_, _, rfl, (fun h => by cases h), Nat.le_refl _, by omega, fun _ => ⟨_, 0, rfl, by omega, fun j hj => ?_⟩⟩
  rw [World.cell?_alloc_mark]
  simp [hj]
/-- Three slices of bytes in a new row. -/
theorem Sls.three (W : World) (l1 l2 l3 : List UInt8) (v1 v2 v3 : Value) (t : TypeId) (h1 : Sl W W.heap.size v1 l1) (h2 : Sl W W.heap.size v2 l2) (h3 : Sl W W.heap.size v3 l3) :
    Sls (W.alloc (.cells #[v1, v2, v3] t)) (W.heap.size + 1) (.slice (some ⟨W.heap.size, 0, none⟩) 3 3) [l1, l2, l3] := by
  refine ⟨_, 3, rfl, Nat.le_refl _, by omega, fun _ => ⟨_, 0, rfl, by omega, fun j hj => ?_⟩⟩
  have hb := Blk.newA W #[v1, v2, v3] t
  have hbl : Below W.heap.size W (W.alloc (.cells #[v1, v2, v3] t)) := (Below.refl _ _).alloc (Nat.le_refl _) _
  match j, hj with
  | 0, _ => exact ⟨v1, hb.at rfl, (h1.below hbl (Nat.le_refl _)).more (by omega)⟩
  | 1, _ => exact ⟨v2, hb.at rfl, (h2.below hbl (Nat.le_refl _)).more (by omega)⟩
  | 2, _ => exact ⟨v3, hb.at rfl, (h3.below hbl (Nat.le_refl _)).more (by omega)⟩
end Go.Proofs.YteadncmhcbdicaaDoor
