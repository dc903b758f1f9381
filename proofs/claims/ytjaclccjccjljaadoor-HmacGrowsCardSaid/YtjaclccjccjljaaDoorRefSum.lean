/- The reference's Sum. -/
import Derived.Test.YtjaclccjccjljaaDoorRefGo
namespace Go.Proofs.YtjaclccjccjljaaDoor
open Go.RowKit
set_option maxRecDepth 100000 in
set_option maxHeartbeats 1000000 in
theorem refSum_any (B : Nat) (v : Value) (m : List UInt8) (w : World) (hT : TabB w) (hG : 1 < w.heap.size) (hs : Sl w B v m) (hB : B ≤ w.heap.size) (hl : m.length ≤ 100000) :
    Calls Tryd.prog 28 #[v] w fun e w' => ∃ v', e = .returned v' ∧ OwnB w' w.heap.size v' (sumL m) ∧ Below w.heap.size w w' := by
  have hz := zero_st
  have HT := Lib.hid hT; clear hT
  have HS := Lib.hid hs
  obtain ⟨A, c, rfl, _, k1, k2, _⟩ := hs
  have hun : un m.length = (m.length : Int) := un_lt _ (by omega)
  have htail : ∀ W, Hid (Calls Tryd.prog 41 #[.int .u64 (m.length : Int)] W fun e w' => ∃ v', e = .returned v' ∧ OwnB w' W.heap.size v' (padl m.length) ∧ Below W.heap.size W w') := fun W => Lib.hid (by have := refTail_any m.length W; rwa [hun] at this)
  obtain ⟨S', hS'⟩ : ∃ S', S' = stOf St.first (m ++ padl m.length) := ⟨_, rfl⟩
  have hSum : Hid (sumL m = wbs S'.list) := Lib.hid (by rw [hS']; unfold sumL; rfl)
  have hpl : (padl m.length).length ≤ 100 := by rw [padl_length]; omega
  have HS' := Lib.hid hS'
  clear hun hS'
  go_enter Tryd.func28, Tryd.ntmps28
  go_wp2_with fail
  refine (refFirst_any w).mono ?_
  rintro e w1 ⟨rfl, hB1⟩
  have HB1 := Lib.hid hB1
  have hz1 : w.heap.size ≤ w1.heap.size := hB1.size
  clear hB1
  go_wp2_with (at_builtin; ((with_reducible refine wpList_app_sl ?g1 (.tmp 7) (.tmp 8) ?g2 w.heap.size (.slice (some ⟨w1.heap.size, 0, none⟩) 0 0) [] m ?g3 ?g4 B (.slice A m.length c) ?g5 ?g6 ?g7 ?g8 ?_); (case g1 => rfl); (case g2 => rfl); (case g3 => rfl); (case g4 => exact (OwnB.empty w1).lower hz1); (case g5 => rfl); (case g6 => exact (HS.out.below HB1.out hB).below ((Below.refl _ _).alloc (Nat.le_refl _) _) (by omega)); (case g7 => simp; omega); (case g8 => simp; omega); intro v2 w2 hv hg; have Hg := Lib.hid ((HB1.out.alloc hz1 _).trans (((OwnB.empty w1).lower hz1).belowBase hg (by simp; omega))); clear hg; rw [List.nil_append] at hv; have Hv := Lib.hid hv; clear hv))
  refine (htail w2).out.mono ?_
  rintro e w3 ⟨v3, rfl, hO3, hB3⟩
  have HO3 := Lib.hid hO3.sl; clear hO3
  have Hv3 := Lib.hid (Hv.out.below hB3)
  have HB3 := Lib.hid (Hg.out.trans (hB3.mono Hg.out.size)); clear hB3
  go_wp2_with (at_builtin; ((with_reducible refine wpList_app_sl ?f1 (.tmp 9) (.tmp 13) ?f2 w.heap.size v2 m (padl m.length) ?f3 ?f4 w3.heap.size v3 ?f5 ?f6 ?f7 ?f8 ?_); (case f1 => rfl); (case f2 => rfl); (case f3 => rfl); (case f4 => exact Hv3.out); (case f5 => rfl); (case f6 => exact HO3.out); (case f7 => omega); (case f8 => exact HB3.out.size); intro v4 w4 hv hg; have Hg4 := Lib.hid (HB3.out.trans (Hv3.out.belowBase hg HB3.out.size)); clear hg; have Hv4 := Lib.hid hv.sl; clear hv))
  have hz4 := Hg4.out.size
  refine (refGo_any St.first v4 (m ++ padl m.length) w4 (HT.out.below Hg4.out hG) (by show _ < w4.heap.size; omega) Hv4.out (by rw [List.length_append]; omega)).mono ?_
  rintro e w5 ⟨v5, rfl, hS5, hB5⟩
  rw [← HS'.out]
  have HB5 := Lib.hid (Hg4.out.trans (hB5.mono hz4)); clear hB5 hS5
  clear hz4
  go_wp2_with fail
  refine (refOut_any S' _).mono ?_
  rintro e w6 ⟨v6, rfl, hO6, hB6⟩
  have HO6 := Lib.hid (hO6.lower (base' := w.heap.size) (by have := HB5.out.size; simp; omega)); clear hO6
  have HB6 := Lib.hid ((HB5.out.alloc HB5.out.size _).trans (hB6.mono (by have := HB5.out.size; simp; omega))); clear hB6
  go_wp2_with fail
  go_ret
  exact ⟨_, rfl, by rw [hSum.out]; exact HO6.out, HB6.out⟩
end Go.Proofs.YtjaclccjccjljaaDoor
