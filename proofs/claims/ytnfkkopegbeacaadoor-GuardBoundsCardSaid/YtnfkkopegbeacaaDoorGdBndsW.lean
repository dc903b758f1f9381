/- GuardBounds, its arguments as a row hands them. -/
import Derived.Test.YtnfkkopegbeacaaDoorGdBnds
import Derived.Test.YtnfkkopegbeacaaDoorGdGoodW
namespace Go.Proofs.YtnfkkopegbeacaaDoor
open Go.RowKit
theorem guardBounds_w (B : Nat) (u1 u2 : Int) (v : Value) (l : List UInt8) (w : World) (h1 : (Lit.int .u8 u1).wf = true) (h2 : (Lit.int .u8 u2).wf = true) (hs : Sl w B v l) (hB : B ≤ w.heap.size) (hT : tabsOK w) :
    Calls Tryd.prog 4 #[.int .u8 u1, .int .u8 u2, v] w fun e w' => e = .returned (.bool true) ∧ Below w.heap.size w w' :=
  guardBounds_law B u1 u2 v l w (u8_rng h1) (u8_rng h2) hs hB hT
end Go.Proofs.YtnfkkopegbeacaaDoor
