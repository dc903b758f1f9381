/- TablePlays, its arguments as a row hands them. -/
import Derived.Test.YtipgjpmaflcpkaaTePlays
namespace Go.Proofs.Ytipgjpmaflcpkaa
open Go.RowKit
theorem tablePlays_w (B : Nat) (f : Bool) (room : Int) (v : Value) (ls : List (Int × List UInt8 × Int)) (w : World) (_h : (Lit.int .i64 room).wf = true) (hs : TOps w B v ls) (hB : B ≤ w.heap.size) :
    Calls Try.prog 3 #[.bool f, .int .i64 room, v] w fun e w' => e = .returned (.bool true) ∧ Below w.heap.size w w' :=
  tablePlays_law B f room v ls w hs hB
end Go.Proofs.Ytipgjpmaflcpkaa
