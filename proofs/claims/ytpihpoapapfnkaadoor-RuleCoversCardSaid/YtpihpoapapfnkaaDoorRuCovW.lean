/- RuleCovers' walk over what comes in. -/
import Derived.Test.YtpihpoapapfnkaaDoorRuCovLaw
import Derived.Test.YtpihpoapapfnkaaDoorRuArg
set_option maxRecDepth 100000
namespace Go.Proofs.YtpihpoapapfnkaaDoor
open Go.RowKit Go.Shelf
theorem covers_w (v0 : Value) (r0 : RuL) (v1 : Value) (r1 : RuL) (role ten host : List UInt8) (port : Int) (w : World) (h0 : RuArg v0 r0) (h1 : RuArg v1 r1) (_h2 : role.length ≤ 9223372036854775807) (_h3 : ten.length ≤ 9223372036854775807) (h4 : host.length ≤ 9223372036854775807) (_h5 : (Lit.int .i64 port).wf = true) (hE : Env w) :
    Calls Tryd.prog 4 #[v0, v1, str role, str ten, str host, .int .i64 port] w fun e w' => e = .returned (.bool true) ∧ Below w.heap.size w w' := by
  obtain ⟨rfl, g0⟩ := h0
  obtain ⟨rfl, g1⟩ := h1
  exact covers_law r0 r1 role ten host port w g0 g1 h4 hE
end Go.Proofs.YtpihpoapapfnkaaDoor
