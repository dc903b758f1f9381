/- GuardGood, its arguments as a row hands them. -/
import Derived.Test.YtnfkkopegbeacaaDoorGdGood
namespace Go.Proofs.YtnfkkopegbeacaaDoor
open Go.RowKit
theorem u8_rng {n : Int} (h : (Lit.int .u8 n).wf = true) : 0 ≤ n ∧ n ≤ 255 := by
  simp [Lit.wf, IntKind.min, IntKind.max, IntKind.bits, IntKind.signed] at h
  omega
theorem guardGood_w (u1 u2 : Int) (w : World) (h1 : (Lit.int .u8 u1).wf = true) (h2 : (Lit.int .u8 u2).wf = true) (hT : tabsOK w) :
    Calls Tryd.prog 6 #[.int .u8 u1, .int .u8 u2] w fun e w' => e = .returned (.bool true) ∧ Below w.heap.size w w' :=
  guardGood_law u1 u2 w (u8_rng h1) (u8_rng h2) hT
end Go.Proofs.YtnfkkopegbeacaaDoor
