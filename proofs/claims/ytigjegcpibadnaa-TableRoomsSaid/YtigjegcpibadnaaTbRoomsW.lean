/- TableRooms, its arguments as a row hands them. -/
import Derived.Test.YtigjegcpibadnaaTbRooms
namespace Go.Proofs.Ytigjegcpibadnaa
open Go.RowKit
theorem tableRooms_w (u1 u2 : Int) (w : World) (h1 : (Lit.int .u8 u1).wf = true) (h2 : (Lit.int .u8 u2).wf = true) :
    Calls Try.prog 5 #[.int .u8 u1, .int .u8 u2] w fun e w' => e = .returned (.bool true) ∧ Below w.heap.size w w' := by
  have k1 : 0 ≤ u1 ∧ u1 ≤ 255 := by
    simp [Lit.wf, IntKind.min, IntKind.max, IntKind.bits, IntKind.signed] at h1
    omega
  have k2 : 0 ≤ u2 ∧ u2 ≤ 255 := by
    simp [Lit.wf, IntKind.min, IntKind.max, IntKind.bits, IntKind.signed] at h2
    omega
  exact tableRooms_law u1 u2 w k1 k2
end Go.Proofs.Ytigjegcpibadnaa
