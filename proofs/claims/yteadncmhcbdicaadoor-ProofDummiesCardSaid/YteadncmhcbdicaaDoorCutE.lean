/- An empty row of the call's own. -/
import Derived.Test.YteadncmhcbdicaaDoorSl
import Derived.Deep.DeepFit
namespace Go.Proofs.YteadncmhcbdicaaDoor
open Go.RowKit

theorem OwnB.empty (w : World) : OwnB (w.alloc (.cells #[] 5)) w.heap.size (.slice (some ⟨w.heap.size, 0, none⟩) 0 0) [] :=
  OwnB.of_heap (cur := #[]) (Nat.le_refl _) (heap_alloc_new w _) rfl (by unfold maxLen; omega) rfl (by simp) (by omega)
set_option maxRecDepth 100000 in
theorem slice_h (A : Option Addr) (n c k : Nat) (hk : k ≤ c) (w : World) : (Instr.slice 26 (.slice A n c) none (some (.int .i64 (k : Int))) none).run Tryd.prog w = .ok (.slice A k c) w := by
  rw [run_slice_h w 26 A n c Tryd.underlying26 .i64 k (by omega) (by omega)]
  by_cases h0 : c = 0 <;> simp [sliced, go_sem, h0]
end Go.Proofs.YteadncmhcbdicaaDoor
