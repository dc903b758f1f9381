/- RuleReads' walk over what comes in. -/
import Derived.Test.YthpkmdojeegleaaGreatDoorRuRdL
set_option maxRecDepth 100000
namespace Go.Proofs.YthpkmdojeegleaaGreatDoor
open Go.RowKit Go.Shelf
theorem reads_w (text : List UInt8) (u : Int) (w : World) (h0 : text.length ≤ 9223372036854775807) (h1 : (Lit.int .u8 u).wf = true) (hE : Env w) :
    Calls Tryz.prog 3 #[str text, .int .u8 u] w fun e w' => e = .returned (.bool true) ∧ Below w.heap.size w w' :=
  reads_law text u w h0 h1 hE
end Go.Proofs.YthpkmdojeegleaaGreatDoor
