/- A new row of bytes, marked or not; the bytes of a constant. -/
import Derived.Test.YtlobmffcnobgeaaDoorSl
import Derived.Lib.SlBytesConst
namespace Go.Proofs.YtlobmffcnobgeaaDoor
open Go.RowKit
theorem Sl.newF (W : World) (cs : Array Value) (t : TypeId) (fr : Nat × Nat) (l : List UInt8) {b n B : Nat} (h : cs.toList = l.map vb) (hb : b = W.heap.size) (hn : n = l.length) (hB : W.heap.size < B) (hl : l.length ≤ 1000000) :
    Sl (W.alloc (.cells cs t fr)) B (.slice (some ⟨b, 0, none⟩) n n) l := by
  subst hb; subst hn
  refine ⟨_, _, rfl, (fun h => by cases h), Nat.le_refl _, by omega, fun _ => ⟨_, 0, rfl, hB, fun j hj => ?_⟩⟩
  have e := heap_alloc_new W (.cells cs t fr)
  have e2 : cs[j]? = some (vb l[j]) := by
    have := congrArg (fun x : List Value => x[j]?) h
    simp only [List.getElem?_map, List.getElem?_eq_getElem hj, Option.map_some, Array.getElem?_toList] at this
    exact this
  unfold World.cell?
  simp only [Nat.zero_add]
  rw [e]
  exact e2
end Go.Proofs.YtlobmffcnobgeaaDoor
