/- The reference's Cut. -/
import Derived.Test.YtcjjhaonogfcjaaDoorCutE
namespace Go.Proofs.YtcjjhaonogfcjaaDoor
open Go.RowKit
set_option maxHeartbeats 400000 in
theorem cut_short (B : Nat) (v : Value) (l : List UInt8) (n : Int) (w : World) (hv : Sl w B v l) (hB : B ≤ w.heap.size) (hl : (l.length : Int) ≤ n) (hn : n ≤ 1000000) :
    Calls Tryd.prog 5 #[v, .int .i64 n] w fun e w' => ∃ v', e = .returned v' ∧ OwnB w' w.heap.size v' (l.take n.toNat) ∧ Below w.heap.size w w' := by
  rw [List.take_of_length_le (by omega)]
  have HV := Lib.hid hv
  obtain ⟨A, c, rfl, h0, h1, h2, h3⟩ := hv
  clear h0 h3
  have hsl := slice_h A l.length c l.length h1
  go_enter Tryd.func5, Tryd.ntmps5
  go_wp2_with (at_builtin; ((with_reducible refine wpList_app_sl ?g1 (.tmp 5) (.tmp 11) ?g2 w.heap.size (.slice (some ⟨w.heap.size, 0, none⟩) 0 0) [] l ?g3 ?g4 B (.slice A l.length c) ?g5 ?g6 ?g7 ?g8 ?_); (case g1 => rfl); (case g2 => rfl); (case g3 => rfl); (case g4 => exact OwnB.empty w); (case g5 => rfl); (case g6 => exact HV.out.below ((Below.refl _ _).alloc (Nat.le_refl _) _) hB); (case g7 => simp; omega); (case g8 => simp); intro v' w1 hv hg; have Hg := Lib.hid (((Below.refl w.heap.size w).alloc (Nat.le_refl _) _).trans ((OwnB.empty w).belowBase hg (by simp))); clear hg; rw [List.nil_append] at hv; have Hv := Lib.hid hv; clear hv))
  go_ret
  exact ⟨v', rfl, Hv.out, Hg.out⟩
set_option maxHeartbeats 400000 in
theorem cut_long (B : Nat) (v : Value) (l : List UInt8) (n : Nat) (w : World) (hv : Sl w B v l) (hB : B ≤ w.heap.size) (hl : n < l.length) (hn : n ≤ 1000000) :
    Calls Tryd.prog 5 #[v, .int .i64 (n : Int)] w fun e w' => ∃ v', e = .returned v' ∧ OwnB w' w.heap.size v' (l.take n) ∧ Below w.heap.size w w' := by
  obtain ⟨A, c, rfl, h0, h1, h2, h3⟩ := hv.take n (by omega)
  have HV := Lib.hid h3; clear h3 hv
  have hsl := slice_h A l.length c n h0
  have Ht : Hid ((l.take n).length = n) := Lib.hid (by rw [List.length_take]; omega)
  go_enter Tryd.func5, Tryd.ntmps5
  go_wp2_with (at_builtin; ((with_reducible refine wpList_app_sl ?g1 (.tmp 5) (.tmp 11) ?g2 w.heap.size (.slice (some ⟨w.heap.size, 0, none⟩) 0 0) [] (l.take n) ?g3 ?g4 B (.slice A n c) ?g5 ?g6 ?g7 ?g8 ?_); (case g1 => rfl); (case g2 => rfl); (case g3 => rfl); (case g4 => exact OwnB.empty w); (case g5 => rfl); (case g6 => exact HV.out.below ((Below.refl _ _).alloc (Nat.le_refl _) _) hB); (case g7 => rw [Ht.out]; simp; omega); (case g8 => simp); intro v' w1 hv hg; have Hg := Lib.hid (((Below.refl w.heap.size w).alloc (Nat.le_refl _) _).trans ((OwnB.empty w).belowBase hg (by simp))); clear hg; rw [List.nil_append] at hv; have Hv := Lib.hid hv; clear hv))
  go_ret
  exact ⟨v', rfl, Hv.out, Hg.out⟩
/-- At most n of the bytes, in memory of their own. -/
theorem cut_any (B : Nat) (v : Value) (l : List UInt8) (n : Int) (w : World) (hv : Sl w B v l) (hB : B ≤ w.heap.size) (h0 : 0 ≤ n) (hn : n ≤ 1000000) :
    Calls Tryd.prog 5 #[v, .int .i64 n] w fun e w' => ∃ v', e = .returned v' ∧ OwnB w' w.heap.size v' (l.take n.toNat) ∧ Below w.heap.size w w' := by
  by_cases hl : (l.length : Int) ≤ n
  · exact cut_short B v l n w hv hB hl hn
  · obtain ⟨m, rfl⟩ := Int.eq_ofNat_of_zero_le h0
    exact cut_long B v l m w hv hB (by omega) (by omega)
end Go.Proofs.YtcjjhaonogfcjaaDoor
