/- NonceOnce, its arguments as a row hands them. -/
import Derived.Test.YthpgdojjecdlcaaNnOnceW
namespace Go.Proofs.Ythpgdojjecdlcaa
open Go.RowKit
theorem nonceOnce_w (B : Nat) (u1 u2 : Int) (v : Value) (ls : List OpN) (w : World) (h1 : (Lit.int .u8 u1).wf = true) (h2 : (Lit.int .u16 u2).wf = true) (hv : NOps w B v ls) (hB : B ≤ w.heap.size) :
    Calls Try.prog 4 #[.int .u8 u1, .int .u16 u2, v] w fun e w' => e = .returned (.bool true) ∧ Below w.heap.size w w' := by
  have k1 : 0 ≤ u1 ∧ u1 ≤ 255 := by
    simp [Lit.wf, IntKind.min, IntKind.max, IntKind.bits, IntKind.signed] at h1
    omega
  have k2 : 0 ≤ u2 ∧ u2 ≤ 65535 := by
    simp [Lit.wf, IntKind.min, IntKind.max, IntKind.bits, IntKind.signed] at h2
    omega
  exact nonceOnce_law u1 u2 B v ls w k1 k2 hv hB
end Go.Proofs.Ythpgdojjecdlcaa
