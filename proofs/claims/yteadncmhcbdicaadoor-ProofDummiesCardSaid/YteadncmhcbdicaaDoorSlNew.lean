/- A new row of bytes. -/
import Derived.Test.YteadncmhcbdicaaDoorCutE
set_option maxRecDepth 100000
namespace Go.Proofs.YteadncmhcbdicaaDoor
open Go.RowKit
/-- A new row of bytes. -/
theorem Sl.newA (W : World) (cs : Array Value) (t : TypeId) (l : List UInt8) {b n B : Nat} (h : cs.toList = l.map vb) (hb : b = W.heap.size) (hn : n = l.length) (hB : W.heap.size < B) (hl : l.length ≤ 1000000) :
    Sl (W.alloc (.cells cs t)) B (.slice (some ⟨b, 0, none⟩) n n) l := by
  subst hb; subst hn
  refine ⟨_, _, rfl, (fun h => by cases h), Nat.le_refl _, by omega, fun _ => ⟨_, 0, rfl, hB, ?_⟩⟩
  refine Bs.of_blk (Blk.newA W cs t) 0 fun j hj => ?_
  rw [h, List.getElem?_map, Nat.zero_add, List.getElem?_eq_getElem hj]; rfl
end Go.Proofs.YteadncmhcbdicaaDoor
