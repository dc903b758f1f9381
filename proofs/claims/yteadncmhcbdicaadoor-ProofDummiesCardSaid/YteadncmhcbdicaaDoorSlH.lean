/- A slice's bytes further on; the head of a slice. -/
import Derived.Test.YteadncmhcbdicaaDoorSl
set_option maxRecDepth 100000
namespace Go.Proofs.YteadncmhcbdicaaDoor
open Go.RowKit
theorem Sl.fwd {w w' : World} {v : Value} {l : List UInt8} (h : Sl w w.heap.size v l) (hb : Below w.heap.size w w') : Sl w' w'.heap.size v l := (h.below hb (Nat.le_refl _)).more hb.size
theorem slice_hB (A : Option Addr) (n c k : Nat) (hk : k ≤ c) (w : World) : (Instr.slice 26 (.slice A n c) none (some (.int .i64 (k : Int))) none).run Tryd.prog w = .ok (.slice A k c) w := by
  rw [run_slice_h w 26 A n c Tryd.underlying26 .i64 k (by omega) (by omega)]
  by_cases h0 : c = 0 <;> simp [sliced, go_sem, h0]
end Go.Proofs.YteadncmhcbdicaaDoor
