/- sha.Blocks: the padded message in a box, and the closure over it. -/
import Derived.Test.YtmgbiefobkpafaaDoorHashS
import Derived.Test.YtmgbiefobkpafaaDoorKc
import Derived.Test.YtmgbiefobkpafaaDoorSl
import Derived.Maps.AppendAt
import Derived.RangeFuncBox
namespace Go.Proofs.YtmgbiefobkpafaaDoor
open Go.RowKit
/-- A boxed slice of bytes that is appended to and stored again. -/
theorem box_step {W w3 : World} {b0 bx : Nat} {u v3 : Value} {l0 l : List UInt8} (hbx : Boxed W bx 22 u) (hg : W.grownBy w3 u.ownBlock) (hown : OwnB W b0 u l0) (hv3 : OwnB w3 b0 v3 l) (hb : b0 ≤ bx) (hb0 : b0 ≤ W.heap.size) :
    Boxed w3 bx 22 u ∧ Boxed (w3.setCell ⟨bx, 0, none⟩ v3) bx 22 v3 ∧ OwnB (w3.setCell ⟨bx, 0, none⟩ v3) b0 v3 l ∧ Below b0 W (w3.setCell ⟨bx, 0, none⟩ v3) := by
  have h3 := hbx.kept hg (fun e => apart_box hown hbx (by decide) e.symm)
  refine ⟨h3, h3.set v3, hv3.kept (grown_set w3 ⟨bx, 0, none⟩ v3) (.inr (apart_box hv3 h3 (by decide))), ?_⟩
  exact (hown.belowBase hg hb0).grown (grown_set w3 ⟨bx, 0, none⟩ v3) (Nat.le_trans hb0 hg.size) (fun j e => by cases e; exact hb)
set_option maxRecDepth 100000 in
set_option maxHeartbeats 1000000 in
/-- The closure, and the box of the padded message that it captured. -/
theorem blocks_any (B : Nat) (v : Value) (m : List UInt8) (w : World) (hs : Sl w B v m) (hB : B ≤ w.heap.size) (hl : m.length ≤ 100000) :
    Calls Tryd.prog 13 #[v] w fun e w' => ∃ bx vp, e = .returned (.func (.func 18) #[] #[.pointer (some ⟨bx, 0, none⟩)]) ∧ w.heap.size ≤ bx ∧ Boxed w' bx 22 vp ∧ OwnB w' w.heap.size vp (m ++ padl m.length) ∧ Below w.heap.size w w' := by
  have HS := Lib.hid hs
  obtain ⟨A, c, rfl, _, k1, k2, _⟩ := hs
  have hun : un m.length = (m.length : Int) := un_lt _ (by omega)
  have hpad : ∀ W, Hid (Calls Tryd.prog 17 #[.int .u64 (m.length : Int)] W fun e w' => ∃ v', e = .returned v' ∧ OwnB w' W.heap.size v' (padl m.length) ∧ Below W.heap.size W w') := fun W => Lib.hid (by have := padding_any m.length W; rwa [hun] at this)
  have hpl : (padl m.length).length ≤ 100 := by rw [padl_length]; omega
  clear hun
  go_enter Tryd.func13, Tryd.ntmps13
  go_wp2_with fail
  refine (hpad w).out.mono ?_
  rintro e w1 ⟨v1, rfl, hO1, hB1⟩
  obtain ⟨A1, c1, rfl, _⟩ := hO1.sl
  have HO1 := Lib.hid hO1.sl; clear hO1
  have HB1 := Lib.hid hB1
  have hz1 := hB1.size
  clear hB1
  obtain ⟨q, hq⟩ : ∃ q, q = (padl m.length).length := ⟨_, rfl⟩
  have hmk : (Instr.makeSlice 22 (.int .i64 0) (.int .i64 ((m.length : Int) + (q : Int)))).run Tryd.prog w1 = .ok (.slice (some ⟨w1.heap.size, 0, none⟩) 0 (m.length + q)) (w1.alloc (.cells (noughts (m.length + q)) 5)) := by
    have := make_bytes 0 (m.length + q) (by omega) (by omega) w1
    rwa [show ((m.length + q : Nat) : Int) = (m.length : Int) + (q : Int) by omega] at this
  rw [← hq]
  have HQ := Lib.hid hq
  have hq100 : q ≤ 100 := by omega
  clear hq hpl
  have hO2 : OwnB ((w1.alloc (.cells (noughts (m.length + q)) 5)).alloc (.cells #[.slice (some ⟨w1.heap.size, 0, none⟩) 0 (m.length + q)] 22)) w1.heap.size (.slice (some ⟨w1.heap.size, 0, none⟩) 0 (m.length + q)) [] :=
    OwnB.below (OwnB.of_heap (Nat.le_refl _) (heap_alloc_new w1 _) (noughts_size _) (by unfold maxLen; omega) rfl (by simp) (by omega)) ((Below.refl _ _).alloc (Nat.le_refl _) _)
  have hbx : Boxed ((w1.alloc (.cells (noughts (m.length + q)) 5)).alloc (.cells #[.slice (some ⟨w1.heap.size, 0, none⟩) 0 (m.length + q)] 22)) (w1.heap.size + 1) 22 (.slice (some ⟨w1.heap.size, 0, none⟩) 0 (m.length + q)) := by
    have := Boxed.new (w1.alloc (.cells (noughts (m.length + q)) 5)) 22 (.slice (some ⟨w1.heap.size, 0, none⟩) 0 (m.length + q))
    rwa [World.size_alloc] at this
  have HO2 := Lib.hid hO2; clear hO2
  have HBX := Lib.hid hbx
  have hc2 := hbx.cell
  clear hbx
  have HSM : Hid (Sl ((w1.alloc (.cells (noughts (m.length + q)) 5)).alloc (.cells #[.slice (some ⟨w1.heap.size, 0, none⟩) 0 (m.length + q)] 22)) B (.slice A m.length c) m) := Lib.hid ((HS.out.below HB1.out hB).below (((Below.refl w1.heap.size w1).alloc (Nat.le_refl _) _).alloc (by simp) _) (by omega))
  have HB2 : Hid (Below w1.heap.size w1 ((w1.alloc (.cells (noughts (m.length + q)) 5)).alloc (.cells #[.slice (some ⟨w1.heap.size, 0, none⟩) 0 (m.length + q)] 22))) := Lib.hid (((Below.refl w1.heap.size w1).alloc (Nat.le_refl _) _).alloc (by simp) _)
  go_wp2_with (at_builtin; (first | ((with_reducible refine wpList_app_sl ?f1 (.tmp 15) (.tmp 16) ?f2 w1.heap.size (.slice (some ⟨w1.heap.size, 0, none⟩) 0 (m.length + q)) [] m ?f3 HO2.out _ (.slice A m.length c) ?f5 HSM.out ?f7 ?f8 ?_); (case f1 => rfl); (case f2 => rfl); (case f3 => rfl); (case f5 => rfl); (case f7 => simp; omega); (case f8 => exact HB2.out.size); intro v3 w3 hv3 hg3; rw [List.nil_append] at hv3; obtain ⟨A3, c3, rfl, _⟩ := hv3.sl; obtain ⟨hb3, hb4, hv4, hB4⟩ := box_step HBX.out hg3 HO2.out hv3 (by omega) HB2.out.size; have hf3 := hb3.cell; have hf3' := hb3.frozen; have hf4 := hb4.cell; have hf4' := hb4.frozen; have HBX4 := Lib.hid hb4; have HV4 := Lib.hid hv4; have HB4 := Lib.hid (HB2.out.trans hB4); clear hv3 hg3 hb3 hb4 hv4 hB4) | ((with_reducible refine wpList_app_sl ?n1 (.tmp 18) (.tmp 19) ?n2 w1.heap.size (.slice A3 m.length c3) m (padl m.length) ?n3 HV4.out w1.heap.size (.slice A1 q c1) ?n5 ?n6 ?n7 ?n8 ?_); (case n1 => rfl); (case n2 => rfl); (case n3 => rfl); (case n5 => rfl); (case n6 => have hx := HO1.out.below HB4.out (Nat.le_refl _); have hx2 := HQ.out; rw [← hx2] at hx; exact hx); (case n7 => have hx2 := HQ.out; omega); (case n8 => exact HB4.out.size); intro v5 w5 hv5 hg5; obtain ⟨A5, c5, rfl, _⟩ := hv5.sl; obtain ⟨hb5, hb6, hv6, hB6⟩ := box_step HBX4.out hg5 HV4.out hv5 (by omega) HB4.out.size; have hf5 := hb5.cell; have hf5' := hb5.frozen; have HBX6 := Lib.hid hb6; have HV6 := Lib.hid hv6; have HB6 := Lib.hid (HB4.out.trans hB6); clear hv5 hg5 hb5 hb6 hv6 hB6)))
  simp only [List.length_append] at HBX6 HV6 HB6
  go_ret
  exact ⟨w1.heap.size + 1, _, rfl, by omega, HBX6.out, HV6.out.lower hz1, HB1.out.trans (HB6.out.mono hz1)⟩
end Go.Proofs.YtmgbiefobkpafaaDoor
