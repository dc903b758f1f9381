/- NonceWindows, its arguments as a row hands them. -/
import Derived.Test.YthpgdojjecdlcaaNnWinW
namespace Go.Proofs.Ythpgdojjecdlcaa
open Go.RowKit
theorem wf_u8 {u : Int} (h : (Lit.int .u8 u).wf = true) : 0 ≤ u ∧ u ≤ 255 := by
  simp [Lit.wf, IntKind.min, IntKind.max, IntKind.bits, IntKind.signed] at h
  omega
theorem wf_u16 {u : Int} (h : (Lit.int .u16 u).wf = true) : 0 ≤ u ∧ u ≤ 65535 := by
  simp [Lit.wf, IntKind.min, IntKind.max, IntKind.bits, IntKind.signed] at h
  omega
theorem nonceWindows_w (B : Nat) (u1 u2 : Int) (v : Value) (gs : List UInt8) (u4 : Int) (w : World) (h1 : (Lit.int .u8 u1).wf = true) (h2 : (Lit.int .u16 u2).wf = true) (hv : Sl w B v gs) (h4 : (Lit.int .u16 u4).wf = true) (hB : B ≤ w.heap.size) :
    Calls Try.prog 5 #[.int .u8 u1, .int .u16 u2, v, .int .u16 u4] w fun e w' => e = .returned (.bool true) ∧ Below w.heap.size w w' :=
  nonceWindows_law u1 u2 u4 B v gs w (wf_u8 h1) (wf_u16 h2) hv hB (wf_u16 h4)
end Go.Proofs.Ythpgdojjecdlcaa
