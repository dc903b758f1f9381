/- NameRunes, its argument as a row hands it. -/
import Derived.Test.YtpphccjpdkcnmaaDoorNmRunesLaw
namespace Go.Proofs.YtpphccjpdkcnmaaDoor
open Go.RowKit Go.Shelf
theorem nameRunes_w (s0 : List UInt8) (u : Int) (w : World) (hs : s0.length ≤ 9223372036854775807) (hu : (Lit.int .u8 u).wf = true) (hT : Lib.Utf8Tabs 0 1 w) (hK : Looks w) :
    Calls Tryd.prog 3 #[str s0, .int .u8 u] w fun e w' => e = .returned (.bool true) ∧ Below w.heap.size w w' := by
  have h2 : 0 ≤ u ∧ u ≤ 255 := by
    simp [Lit.wf, IntKind.min, IntKind.max, IntKind.bits, IntKind.signed] at hu
    omega
  exact nameRunes_law s0 u w hs h2.1 h2.2 hT hK
end Go.Proofs.YtpphccjpdkcnmaaDoor
