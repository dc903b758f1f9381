/- table: says, which calls what it is given behind a deferred recover; what Sweep hands it. -/
import Derived.Test.YthpgdojjecdlcaaTnApi
import Derived.Test.YthpgdojjecdlcaaRangeG
import Derived.Lib.QuoteLoop
import Derived.Defers
import Derived.Recover
set_option maxRecDepth 100000
namespace Go.Proofs.Ythpgdojjecdlcaa
open Go.RowKit Go.Shelf
/-- Done from block b on: nothing of what there was. -/
def StR (_ : Nat) (A B : World) : Prop := Below A.heap.size A B
abbrev gS1 : Nat := 33
/-- The deferred closure, entered by a frame that returns: there is nothing to recover. -/
theorem says_idle (w : World) : CallsD Try.prog 60 #[] .returning w fun e u' w' => e = .returned (.tuple #[]) ∧ u' = .returning ∧ w' = w := by
  refine callsD_of_wpS Try.func60 rfl fun c₀ cs hu => ?_
  try apply wpS_seq
  apply wpS_region
  simp [wpOpsS, go_sem, recoverD, hu, Try.ntmps60]
  cases c₀
  simp_all [bodyPostS, results, Try.results60]
/-- says hands on what its function answers, where that one returns. -/
theorem says_any {w : World} {p2 p3 : Addr} {r : Bool} (k : List UInt8) (v : VT) (hf : ∀ W, Below w.heap.size w W → Calls Try.prog gS1 #[strT k, vv v, .pointer (some p3), .pointer (some p2)] W fun e w' => e = .returned (.bool r) ∧ Below W.heap.size W w') :
    Calls Try.prog 50 #[.func (.func gS1) #[] #[.pointer (some p3), .pointer (some p2)], strT k, vv v] w fun e w' => e = .returned (.bool r) ∧ Below w.heap.size w w' := by
  have hmf : ∀ (fn : Fn) (first cap : Array Value) (w : World), (Instr.makeFunc fn first cap).run Try.prog w = .ok (.func fn first cap) w := fun _ _ _ _ => rfl
  unfold vv at hf ⊢
  have hB0 : Below w.heap.size w (w.alloc (.cells #[strT v.s, .int .u64 v.a, .bool v.sp, .int .u32 v.ct] 68)) := (Below.refl _ w).alloc (Nat.le_refl _) _
  have HF := Lib.hid (hf _ hB0); clear hf
  have HB0 := Lib.hid hB0; clear hB0
  go_enter_defers Try.func50, Try.ntmps50
  go_wp2_with fail
  refine HF.out.mono ?_
  rintro e w1 ⟨rfl, hB⟩
  have HB := Lib.hid (HB0.out.trans (hB.mono (by simp))); clear hB HF HB0 hmf
  go_wp2_with fail
  refine leaves_cons (f := 60) (args := #[]) (by simp) (by simp [go_sem]) ?_
  refine (says_idle _).mono ?_
  rintro e u' w'' ⟨rfl, rfl, rfl⟩
  exact ⟨_, results_tmp rfl _ _ _, rfl, HB.out⟩
end Go.Proofs.Ythpgdojjecdlcaa
