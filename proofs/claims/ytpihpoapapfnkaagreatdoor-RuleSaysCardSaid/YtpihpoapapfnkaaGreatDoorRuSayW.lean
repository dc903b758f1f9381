/- RuleSays' walk over what comes in. -/
import Derived.Test.YtpihpoapapfnkaaGreatDoorRuSay
import Derived.Test.YtpihpoapapfnkaaGreatDoorRuArgs
set_option maxRecDepth 100000
namespace Go.Proofs.YtpihpoapapfnkaaGreatDoor
open Go.RowKit Go.Shelf
theorem says_w (v0 : Value) (l : List RuL) (role ten host : List UInt8) (port : Int) (w : World) (h0 : RusArg w v0 l) (h1 : role.length ≤ 9223372036854775807) (h2 : ten.length ≤ 9223372036854775807) (h3 : host.length ≤ 9223372036854775807) (_h4 : (Lit.int .i64 port).wf = true) (hE : Env w) :
    Calls Tryz.prog 5 #[v0, str role, str ten, str host, .int .i64 port] w fun e w' => e = .returned (.bool true) ∧ Below w.heap.size w w' :=
  says_law v0 l role ten host port w h0.1 h0.2 h1 h2 h3 hE
end Go.Proofs.YtpihpoapapfnkaaGreatDoor
