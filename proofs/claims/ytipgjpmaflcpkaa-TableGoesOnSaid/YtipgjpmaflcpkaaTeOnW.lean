/- TableGoesOn, its arguments as a row hands them. -/
import Derived.Test.YtipgjpmaflcpkaaTeOnL
namespace Go.Proofs.Ytipgjpmaflcpkaa
open Go.RowKit
theorem tableGoesOn_w (B : Nat) (v : Value) (ls : List (Int × List UInt8 × Int)) (vd : Value) (ld : List (Int × List UInt8 × Int)) (u : Int) (w : World) (hs : TOps w B v ls) (hd : TOps w B vd ld) (h : (Lit.int .u8 u).wf = true) (hB : B ≤ w.heap.size) :
    Calls Try.prog 4 #[v, vd, .int .u8 u] w fun e w' => e = .returned (.bool true) ∧ Below w.heap.size w w' := by
  have k1 : 0 ≤ u ∧ u ≤ 255 := by
    simp [Lit.wf, IntKind.min, IntKind.max, IntKind.bits, IntKind.signed] at h
    omega
  exact tableGoesOn_law B B v vd ls ld u w hs hB hd hB k1
end Go.Proofs.Ytipgjpmaflcpkaa
