/- The reference's Cut, Copy, Same. -/
import Derived.Test.YtockimgedckheaaGreatDoorCutE
namespace Go.Proofs.YtockimgedckheaaGreatDoor
open Go.RowKit

set_option maxHeartbeats 400000 in
theorem copy_any (B : Nat) (v : Value) (l : List UInt8) (w : World) (hv : Sl w B v l) (hB : B ≤ w.heap.size) (hl : l.length ≤ 1000000) :
    Calls Tryz.prog 53 #[v] w fun e w' => ∃ v', e = .returned v' ∧ OwnB w' w.heap.size v' l ∧ Below w.heap.size w w' := by
  have HV := Lib.hid hv; clear hv
  go_enter Tryz.func53, Tryz.ntmps53
  go_wp2_with (at_builtin; ((with_reducible refine wpList_app_sl ?g1 (.tmp 3) (.tmp 4) ?g2 w.heap.size (.slice (some ⟨w.heap.size, 0, none⟩) 0 0) [] l ?g3 ?g4 B v ?g5 ?g6 ?g7 ?g8 ?_); (case g1 => rfl); (case g2 => rfl); (case g3 => rfl); (case g4 => exact OwnB.empty w); (case g5 => rfl); (case g6 => exact HV.out.below ((Below.refl _ _).alloc (Nat.le_refl _) _) hB); (case g7 => simp; omega); (case g8 => simp); intro v' w1 hv hg; have Hg := Lib.hid (((Below.refl w.heap.size w).alloc (Nat.le_refl _) _).trans ((OwnB.empty w).belowBase hg (by simp))); clear hg; rw [List.nil_append] at hv; have Hv := Lib.hid hv; clear hv))
  go_ret
  exact ⟨v', rfl, Hv.out, Hg.out⟩
end Go.Proofs.YtockimgedckheaaGreatDoor
