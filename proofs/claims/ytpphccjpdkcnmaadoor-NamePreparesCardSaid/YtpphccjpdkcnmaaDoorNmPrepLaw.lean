/- The statement NamePrepares' own text, walked. -/
import Derived.Test.YtpphccjpdkcnmaaDoorNmAwake
import Derived.Test.YtpphccjpdkcnmaaDoorNmStays
import Derived.Test.YtpphccjpdkcnmaaDoorNmRefPrep
import Derived.Test.YtpphccjpdkcnmaaDoorNmJoins
namespace Go.Proofs.YtpphccjpdkcnmaaDoor
open Go.RowKit Go.Shelf
set_option maxRecDepth 100000 in
set_option maxHeartbeats 1000000 in
theorem namePrepares_law (s0 : List UInt8) (w : World) (hs : s0.length ≤ 9223372036854775807) (hT : Lib.Utf8Tabs 0 1 w) (hK : Looks w) :
    Calls Tryd.prog 5 #[str s0] w fun e w' => e = .returned (.bool true) ∧ Below w.heap.size w w' := by
  have HT := Lib.hid hT; clear hT
  have HK := Lib.hid hK; clear hK
  go_enter Tryd.func5, Tryd.ntmps5
  go_wp2_with fail
  refine (awake4 w HT.out HK.out).mono ?_
  rintro e w1 ⟨rfl, hB1⟩
  have HB1 := Lib.hid hB1; clear hB1
  go_wp2_with fail
  refine (cutText_any s0 120 w1 hs (by omega) (by omega)).mono ?_
  rintro e w2 ⟨rfl, rfl⟩
  obtain ⟨s, hs2⟩ : ∃ s, s = s0.take (120 : Int).toNat := ⟨_, rfl⟩
  rw [← hs2]
  have hsl : s.length ≤ 120 := by rw [hs2, List.length_take]; omega
  clear hs2
  have hst := prep_stays s
  have hpb := prep_bad s
  have hpl := prepS_le s
  have f1 := fun W h => prepare_any s W (by omega) h
  have f2 := fun W => refPrepare_any s W (by omega)
  obtain ⟨a, x, hax⟩ : ∃ a x, prepL s = (a, x) := ⟨_, _, rfl⟩
  rw [hax] at f1 f2 hst hpb hpl
  simp only at f1 f2 hst hpb hpl
  have f3 := fun W h => prepare_any a W (by omega) h
  rw [hst] at f3
  simp only at f3
  have F1 := Lib.hid f1; clear f1
  have F2 := Lib.hid f2; clear f2
  have F3 := Lib.hid f3; clear f3
  clear hax hst
  have HPB := Lib.hid hpb; clear hpb
  go_wp2_with fail
  refine (F1.out w1 (Utf8Tabs_below HT.out HB1.out)).mono ?_
  rintro e w2 ⟨rfl, hB2⟩
  have HB2 := Lib.hid (HB1.out.trans (hB2.mono HB1.out.size)); clear hB2
  go_wp2_with fail
  refine (F2.out w2).mono ?_
  rintro e w3 ⟨rfl, hB3⟩
  have HB3 := Lib.hid (HB2.out.trans (hB3.mono HB2.out.size)); clear hB3
  go_wp2_with fail
  refine (F3.out w3 (Utf8Tabs_below HT.out HB3.out)).mono ?_
  rintro e w4 ⟨rfl, hB4⟩
  have HB4 := Lib.hid (HB3.out.trans (hB4.mono HB3.out.size)); clear hB4
  by_cases hx : x = 0
  · subst hx
    clear HPB
    go_wp2_with fail
    go_ret
    exact ⟨rfl, HB4.out⟩
  · obtain rfl := HPB.out hx
    have hx2 : ((x == 0) = false) := by rw [beq_eq_false_iff_ne]; exact hx
    clear HPB hx
    go_wp2_with fail
    go_ret
    exact ⟨rfl, HB4.out⟩
end Go.Proofs.YtpphccjpdkcnmaaDoor
