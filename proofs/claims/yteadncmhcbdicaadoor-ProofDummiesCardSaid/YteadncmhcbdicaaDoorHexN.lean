/- b64.Hex alone. -/
import Derived.Test.YteadncmhcbdicaaDoorSpellH
namespace Go.Proofs.YteadncmhcbdicaaDoor
open Go.RowKit
def alH : List UInt8 := [48, 49, 50, 51, 52, 53, 54, 55, 56, 57, 97, 98, 99, 100, 101, 102]
def encH (l : List UInt8) : List UInt8 := letters 4 alH l
set_option maxRecDepth 100000 in
set_option maxHeartbeats 400000 in
theorem hex_any (B : Nat) (v : Value) (l : List UInt8) (w : World) (hv : Sl w B v l) (hB : B ≤ w.heap.size) (hl : l.length ≤ 100000) :
    Calls Tryd.prog 23 #[v] w fun e w' => e = .returned (str (encH l)) ∧ Below w.heap.size w w' := by
  have HV := Lib.hid hv; clear hv
  go_enter Tryd.func23, Tryd.ntmps23
  go_wp2_with fail
  refine (spell4 _ alH rfl rfl B v l w HV.out hB hl).mono ?_
  rintro e w1 ⟨rfl, hb⟩
  have HB := Lib.hid hb; clear hb
  go_wp2_with fail
  go_ret
  exact ⟨rfl, HB.out⟩
end Go.Proofs.YteadncmhcbdicaaDoor
