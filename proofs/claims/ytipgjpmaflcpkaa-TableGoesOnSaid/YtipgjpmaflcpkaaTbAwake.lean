/- table: awake. -/
import Derived.Test.YtipgjpmaflcpkaaTbApi
set_option maxRecDepth 100000
namespace Go.Proofs.Ytipgjpmaflcpkaa
open Go.RowKit
theorem awakeT (w : World) : Calls Try.prog 5 #[] w fun e w' => e = .returned (.bool true) ∧ Below w.heap.size w w' := by
  go_enter Try.func5, Try.ntmps5
  go_wp2_with fail
  refine (new_tb 2 w (by omega) (by omega)).mono ?_
  rintro e w1 ⟨T, rfl, ⟨m, h1⟩, hb1⟩
  have H1 := Lib.hid h1; have HB := Lib.hid hb1; clear h1 hb1
  go_wp2_with fail
  refine (put_tb H1.out [97] (1 : Int) (by simp)).mono ?_
  rintro e w2 ⟨rfl, h2, f2⟩
  have H2 := Lib.hid h2; have HB2 := Lib.hid (HB.out.trans f2.low); clear h2 f2
  go_wp2_with fail
  refine (put_tb H2.out [98] (2 : Int) (by simp)).mono ?_
  rintro e w3 ⟨rfl, h3, f3⟩
  have H3 := Lib.hid h3; have HB3 := Lib.hid (HB2.out.trans f3.low); clear h3 f3
  go_wp2_with fail
  refine (renew_tb H3.out [97] (by simp)).mono ?_
  rintro e w4 ⟨rfl, h4, f4⟩
  have H4 : Hid (TB w4 w.heap.size T m 2 [([98], (2 : Int)), ([97], (1 : Int))]) := Lib.hid h4
  have HB4 := Lib.hid (HB3.out.trans f4.low); clear h4 f4
  go_wp2_with fail
  refine (oldest_tb H4.out).mono ?_
  rintro e w5 ⟨rfl, h5, b5⟩
  have H5 := Lib.hid h5
  have HB5 := Lib.hid (HB4.out.trans (b5.mono HB4.out.size)); clear h5 b5
  simp only [vv]
  go_wp2_with fail
  refine (put_tb H5.out [99] (3 : Int) (by simp)).mono ?_
  rintro e w6 ⟨rfl, h6, f6⟩
  have e6 : (putL 2 [([98], (2 : Int)), ([97], (1 : Int))] [99] (3 : Int)).1 = 8 := rfl
  rw [e6]
  have HB6 := Lib.hid (HB5.out.trans f6.low); clear h6 f6
  go_wp2_with fail
  go_ret
  exact ⟨rfl, HB6.out⟩
end Go.Proofs.Ytipgjpmaflcpkaa
