/- box.New, (*Box).Len. -/
import Derived.Test.YtlnjpmpddomjiaaGreatDoorGmBeSt
set_option maxRecDepth 100000
namespace Go.Proofs.YtlnjpmpddomjiaaGreatDoor
open Go.RowKit
attribute [local go_sem] Oper.semAt_some
theorem new_box (sym : Bool) (w : World) :
    Calls Tryz.prog 8 #[.bool sym] w fun e w' => ∃ b m, e = .returned (tP b) ∧ BX w' w.heap.size b m (.slice none 0 0) sym false [] ∧ Below w.heap.size w w' := by
  have hmm := run_makeMap (P := Tryz.prog) tME w
  have HB := Lib.hid (show Below w.heap.size w ((w.alloc (.map #[] 0)).alloc (.cells #[.bool sym, .bool false, .slice none 0 0, .map (some w.heap.size)] 68)) from ((Below.refl _ _).alloc (Nat.le_refl _) _).alloc (by simp) _)
  have HP := Lib.hid (show BX ((w.alloc (.map #[] 0)).alloc (.cells #[.bool sym, .bool false, .slice none 0 0, .map (some w.heap.size)] 68)) w.heap.size (w.heap.size + 1) w.heap.size (.slice none 0 0) sym false [] from by
    refine ⟨Blk.newAt (w.alloc (.map #[] 0)) _ _ (by simp) rfl, OwnE.nil _ _, (MpE.new w).at (((Below.refl _ _).alloc (Nat.le_refl _) _).block _ (by simp)), by omega, Nat.le_refl _, (fun h => by cases h), by omega, by simp, by simp⟩)
  go_enter Tryz.func8, Tryz.ntmps8
  go_wp2_with fail
  go_ret
  exact ⟨w.heap.size + 1, w.heap.size, rfl, HP.out, HB.out⟩
end Go.Proofs.YtlnjpmpddomjiaaGreatDoor
