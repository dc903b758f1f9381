/- FrameParts, its arguments in order. -/
import Derived.Test.YtgldfobfchnkeaaFrParts
namespace Go.Proofs.Ytgldfobfchnkeaa
open Go.RowKit
theorem parts_w (B : Nat) (v1 : Value) (bs : List (List UInt8)) (v2 : Value) (cuts : List UInt8) (w : World) (h1 : Sls w B v1 bs) (h2 : Sl w B v2 cuts) (hB : B ≤ w.heap.size) :
    Calls Try.prog 6 #[v1, v2] w fun e w' => e = .returned (.bool true) ∧ Below w.heap.size w w' := parts_any B v1 v2 bs cuts w h1 h2 hB
end Go.Proofs.Ytgldfobfchnkeaa
