/- GuardLocks, its arguments as a row hands them. -/
import Derived.Test.YtnfkkopegbeacaaDoorGdLocks
namespace Go.Proofs.YtnfkkopegbeacaaDoor
open Go.RowKit
theorem u16_rng {n : Int} (h : (Lit.int .u16 n).wf = true) : 0 ≤ n ∧ n ≤ 65535 := by
  simp [Lit.wf, IntKind.min, IntKind.max, IntKind.bits, IntKind.signed] at h
  omega
theorem guardLocks_w (B : Nat) (u1 u2 u3 : Int) (v : Value) (ls : List (UInt8 × List UInt8)) (w : World) (h1 : (Lit.int .u16 u1).wf = true) (h2 : (Lit.int .u16 u2).wf = true) (h3 : (Lit.int .u8 u3).wf = true) (hs : GOps w B v ls) (hB : B ≤ w.heap.size) (hT : tabsOK w) :
    Calls Tryd.prog 3 #[.int .u16 u1, .int .u16 u2, .int .u8 u3, v] w fun e w' => e = .returned (.bool true) ∧ Below w.heap.size w w' :=
  guardLocks_law B u1 u2 u3 v ls w (u16_rng h1) (u16_rng h2) (u8_rng h3) hs hB hT
end Go.Proofs.YtnfkkopegbeacaaDoor
