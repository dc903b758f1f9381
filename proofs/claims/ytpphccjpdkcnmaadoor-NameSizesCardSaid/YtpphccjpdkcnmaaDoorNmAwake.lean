/- awake of name. -/
import Derived.Test.YtpphccjpdkcnmaaDoorNmPrep2
import Derived.Test.YtpphccjpdkcnmaaDoorNmEscA
namespace Go.Proofs.YtpphccjpdkcnmaaDoor
open Go.RowKit Go.Shelf
theorem prep_eg : prepL [97, 194, 160, 98, 194, 173] = ([97, 32, 98], 0) := by decide +kernel
theorem esc_eg : escL [97, 61, 98, 44, 99] = [97, 61, 51, 68, 98, 61, 50, 67, 99] := by decide +kernel
set_option maxRecDepth 100000 in
theorem awake4 (w : World) (hT : Lib.Utf8Tabs 0 1 w) (hK : Looks w) : Calls Tryd.prog 8 #[] w fun e w' => e = .returned (.bool true) ∧ Below w.heap.size w w' := by
  have HT := Lib.hid hT; clear hT
  have HK := Lib.hid hK; clear hK
  have hp := fun W h => prepare_any [97, 194, 160, 98, 194, 173] W (by decide) h
  rw [prep_eg] at hp
  have he := fun W h => escape_any [97, 61, 98, 44, 99] W (by decide) h
  rw [esc_eg] at he
  have HP := Lib.hid hp; clear hp
  have HE := Lib.hid he; clear he
  go_enter Tryd.func8, Tryd.ntmps8
  go_wp2_with fail
  refine (HP.out w HT.out).mono ?_
  rintro e w1 ⟨rfl, hB1⟩
  have HB1 := Lib.hid hB1; clear hB1
  go_wp2_with fail
  refine (HE.out w1 (HK.out.below HB1.out)).mono ?_
  rintro e w2 ⟨rfl, hB2⟩
  have HB2 := Lib.hid (HB1.out.trans (hB2.mono HB1.out.size)); clear hB2
  go_wp2_with fail
  go_ret
  exact ⟨rfl, HB2.out⟩
end Go.Proofs.YtpphccjpdkcnmaaDoor
