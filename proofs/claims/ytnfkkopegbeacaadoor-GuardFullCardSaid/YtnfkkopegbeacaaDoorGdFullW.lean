/- GuardFull, its arguments as a row hands them. -/
import Derived.Test.YtnfkkopegbeacaaDoorGdFull
namespace Go.Proofs.YtnfkkopegbeacaaDoor
open Go.RowKit
theorem u16_rngF {n : Int} (h : (Lit.int .u16 n).wf = true) : 0 ≤ n ∧ n ≤ 65535 := by
  simp [Lit.wf, IntKind.min, IntKind.max, IntKind.bits, IntKind.signed] at h
  omega
theorem guardFull_w (u1 u2 : Int) (f : Bool) (w : World) (h1 : (Lit.int .u8 u1).wf = true) (h2 : (Lit.int .u16 u2).wf = true) (hT : tabsOK w) :
    Calls Tryd.prog 5 #[.int .u8 u1, .int .u16 u2, .bool f] w fun e w' => e = .returned (.bool true) ∧ Below w.heap.size w w' :=
  guardFull_law u1 u2 f w (u8_rng h1) (u16_rngF h2) hT
end Go.Proofs.YtnfkkopegbeacaaDoor
