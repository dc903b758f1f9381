/- The library's Clone. -/
import Derived.Test.YtockimgedckheaaGreatDoorSame
set_option maxRecDepth 100000
namespace Go.Proofs.YtockimgedckheaaGreatDoor
open Go.RowKit
set_option maxHeartbeats 400000 in
/-- The library's Clone: memory of its own. -/
theorem clone_any (B : Nat) (a : Addr) (n c : Nat) (l : List UInt8) (w : World) (hv : Sl w B (.slice (some a) n c) l) (hB : B ≤ w.heap.size) (hl : l.length ≤ 1000000) :
    Calls Tryz.prog 51 #[.slice (some a) n c] w fun e w' => ∃ v', e = .returned v' ∧ OwnB w' w.heap.size v' l ∧ Below w.heap.size w w' := by
  have HV := Lib.hid hv; clear hv
  have hnil := Lib.run_eql_slice_nil (P := Tryz.prog) w 56 5 (some a) n c 0 0 Tryz.underlying56
  go_enter Tryz.func51, Tryz.ntmps51
  go_wp2_with (at_builtin; ((with_reducible refine wpList_app_sl ?g1 (.tmp 5) (.tmp 6) ?g2 w.heap.size (.slice (some ⟨w.heap.size, 0, none⟩) 0 0) [] l ?g3 ?g4 B (.slice (some a) n c) ?g5 ?g6 ?g7 ?g8 ?_); (case g1 => rfl); (case g2 => rfl); (case g3 => rfl); (case g4 => exact OwnB.empty w); (case g5 => rfl); (case g6 => exact HV.out.below ((Below.refl _ _).alloc (Nat.le_refl _) _) hB); (case g7 => simp; omega); (case g8 => simp); intro v' w1 hv hg; have Hg := Lib.hid (((Below.refl w.heap.size w).alloc (Nat.le_refl _) _).trans ((OwnB.empty w).belowBase hg (by simp))); clear hg; rw [List.nil_append] at hv; have Hv := Lib.hid hv; clear hv))
  go_ret
  exact ⟨v', rfl, Hv.out, Hg.out⟩
end Go.Proofs.YtockimgedckheaaGreatDoor
