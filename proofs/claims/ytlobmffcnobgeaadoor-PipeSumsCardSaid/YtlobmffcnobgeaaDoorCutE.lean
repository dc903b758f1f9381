/- An empty row of the call's own. -/
import Derived.Test.YtlobmffcnobgeaaDoorSl
import Derived.Deep.DeepFit
namespace Go.Proofs.YtlobmffcnobgeaaDoor
open Go.RowKit

theorem OwnB.empty (w : World) : OwnB (w.alloc (.cells #[] 5)) w.heap.size (.slice (some ⟨w.heap.size, 0, none⟩) 0 0) [] :=
  OwnB.of_heap (cur := #[]) (Nat.le_refl _) (heap_alloc_new w _) rfl (by unfold maxLen; omega) rfl (by simp) (by omega)
end Go.Proofs.YtlobmffcnobgeaaDoor
