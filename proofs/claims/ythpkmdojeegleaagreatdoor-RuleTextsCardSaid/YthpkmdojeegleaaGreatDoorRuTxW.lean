/- RuleTexts' walk over what comes in. -/
import Derived.Test.YthpkmdojeegleaaGreatDoorRuTxL
import Derived.Test.YthpkmdojeegleaaGreatDoorRuArgs
set_option maxRecDepth 100000
namespace Go.Proofs.YthpkmdojeegleaaGreatDoor
open Go.RowKit Go.Shelf
theorem texts_w (v0 : Value) (l : List RuL) (w : World) (h0 : RusArg w v0 l) (hE : Env w) :
    Calls Tryz.prog 4 #[v0] w fun e w' => e = .returned (.bool true) ∧ Below w.heap.size w w' :=
  texts_law v0 l w h0.1 h0.2 hE
end Go.Proofs.YthpkmdojeegleaaGreatDoor
