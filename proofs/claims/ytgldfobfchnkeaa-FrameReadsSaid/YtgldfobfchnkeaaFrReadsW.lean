/- FrameReads, its arguments in order. -/
import Derived.Test.YtgldfobfchnkeaaFrReads
namespace Go.Proofs.Ytgldfobfchnkeaa
open Go.RowKit
theorem reads_w (B : Nat) (nb : Bool) (v : Value) (ls : List (UInt8 × List UInt8 × UInt8)) (w : World) (h1 : Ops w B v ls) (hB : B ≤ w.heap.size) :
    Calls Try.prog 5 #[.bool nb, v] w fun e w' => e = .returned (.bool true) ∧ Below w.heap.size w w' := reads_any B nb v ls w h1 hB
end Go.Proofs.Ytgldfobfchnkeaa
