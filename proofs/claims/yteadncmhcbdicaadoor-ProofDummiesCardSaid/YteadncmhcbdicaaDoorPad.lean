/- sha.padding: what follows a message of so many bytes. -/
import Derived.Test.YteadncmhcbdicaaDoorOut
namespace Go.Proofs.YteadncmhcbdicaaDoor
open Go.RowKit

theorem un_mod64 (n : Nat) : un n % (64 : Int) = ((n % 64 : Nat) : Int) := by unfold un; omega
theorem un_mul8 (n : Nat) : IntKind.u64.wrap (un n * (8 : Int)) = un (n * 8) := un_mul n 8
attribute [local go_sem] un_mod64 un_mul8
set_option maxHeartbeats 400000 in
theorem padding_lo (n : Nat) (w : World) (hr : n % 64 ≤ 55) :
    Calls Tryd.prog 36 #[.int .u64 (un n)] w fun e w' => ∃ v', e = .returned v' ∧ OwnB w' w.heap.size v' (padl n) ∧ Below w.heap.size w w' := by
  have h0 := (un_range n).1
  have hlt : n % 64 < 64 := Nat.mod_lt _ (by decide)
  have hz : (119 - n % 64) % 64 = 55 - n % 64 := by omega
  have hp : padl n = 128 :: List.replicate (55 - n % 64) 0 ++ be (n * 8) 8 := by unfold padl; rw [hz]
  obtain ⟨r, hrr⟩ : ∃ r, r = n % 64 := ⟨_, rfl⟩
  have hmod : un n % (64 : Int) = (r : Int) := by rw [hrr]; exact un_mod64 n
  rw [← hrr] at hr hp hlt
  have HP := Lib.hid hp; clear hp hz
  have hmk : ∀ W, (Instr.makeSlice 26 (.int .i64 ((64 - (r : Int)) - 8)) (.int .i64 ((64 - (r : Int))))).run Tryd.prog W = .ok (.slice (some ⟨W.heap.size, 0, none⟩) (56 - r) (64 - r)) (W.alloc (.cells (noughts (64 - r)) 5)) := fun W => by
    have := make_bytes (56 - r) (64 - r) (by omega) (by omega) W
    rwa [show ((56 - r : Nat) : Int) = (64 - (r : Int)) - 8 from by omega, show ((64 - r : Nat) : Int) = (64 - (r : Int)) from by omega] at this
  have hc : (noughts (64 - r))[0]? = some (vb 0) := noughts_at _ _ (by omega)
  clear hrr
  go_enter Tryd.func36, Tryd.ntmps36
  go_wp2_with fail
  have hO : OwnB (w.alloc (.cells ((noughts (64 - r)).setIfInBounds 0 (vb 128)) 5)) w.heap.size (.slice (some ⟨w.heap.size, 0, none⟩) (56 - r) (64 - r)) (128 :: List.replicate (55 - r) 0) :=
    OwnB.of_heap (Nat.le_refl _) (heap_alloc_new w _) (by rw [Array.size_setIfInBounds, noughts_size]) (by unfold maxLen; omega) (by rw [List.length_cons, List.length_replicate]; omega)
      (by rw [Array.toList_setIfInBounds, noughts_list, show 64 - r = (55 - r) + 8 + 1 from by omega, List.replicate_succ, List.set_cons_zero, show 56 - r = (55 - r) + 1 from by omega, List.take_succ_cons, List.take_replicate, List.map_cons, List.map_replicate, show min (55 - r) ((55 - r) + 8) = 55 - r from by omega]) (by omega)
  refine (appendCount_any w.heap.size _ _ (n * 8) _ hO (by rw [List.length_cons, List.length_replicate]; omega) (by simp)).mono ?_
  rintro e w1 ⟨v1, rfl, hO1, hB1⟩
  have HO1 := Lib.hid hO1; clear hO1
  have HB1 := Lib.hid hB1; clear hB1 hO
  go_wp2_with fail
  go_ret
  exact ⟨_, rfl, by rw [HP.out]; exact HO1.out, ((Below.refl _ _).alloc (Nat.le_refl _) _).trans HB1.out⟩
set_option maxHeartbeats 400000 in
theorem padding_hi (n : Nat) (w : World) (hr : 56 ≤ n % 64) :
    Calls Tryd.prog 36 #[.int .u64 (un n)] w fun e w' => ∃ v', e = .returned v' ∧ OwnB w' w.heap.size v' (padl n) ∧ Below w.heap.size w w' := by
  have h0 := (un_range n).1
  have hlt : n % 64 < 64 := Nat.mod_lt _ (by decide)
  have hz : (119 - n % 64) % 64 = 119 - n % 64 := by omega
  have hp : padl n = 128 :: List.replicate (119 - n % 64) 0 ++ be (n * 8) 8 := by unfold padl; rw [hz]
  obtain ⟨r, hrr⟩ : ∃ r, r = n % 64 := ⟨_, rfl⟩
  have hmod : un n % (64 : Int) = (r : Int) := by rw [hrr]; exact un_mod64 n
  rw [← hrr] at hr hp hlt
  have HP := Lib.hid hp; clear hp hz
  have hmk : ∀ W, (Instr.makeSlice 26 (.int .i64 ((64 - (r : Int) + 64) - 8)) (.int .i64 ((64 - (r : Int) + 64)))).run Tryd.prog W = .ok (.slice (some ⟨W.heap.size, 0, none⟩) (120 - r) (128 - r)) (W.alloc (.cells (noughts (128 - r)) 5)) := fun W => by
    have := make_bytes (120 - r) (128 - r) (by omega) (by omega) W
    rwa [show ((120 - r : Nat) : Int) = (64 - (r : Int) + 64) - 8 from by omega, show ((128 - r : Nat) : Int) = (64 - (r : Int) + 64) from by omega] at this
  have hc : (noughts (128 - r))[0]? = some (vb 0) := noughts_at _ _ (by omega)
  clear hrr
  go_enter Tryd.func36, Tryd.ntmps36
  go_wp2_with fail
  have hO : OwnB (w.alloc (.cells ((noughts (128 - r)).setIfInBounds 0 (vb 128)) 5)) w.heap.size (.slice (some ⟨w.heap.size, 0, none⟩) (120 - r) (128 - r)) (128 :: List.replicate (119 - r) 0) :=
    OwnB.of_heap (Nat.le_refl _) (heap_alloc_new w _) (by rw [Array.size_setIfInBounds, noughts_size]) (by unfold maxLen; omega) (by rw [List.length_cons, List.length_replicate]; omega)
      (by rw [Array.toList_setIfInBounds, noughts_list, show 128 - r = (119 - r) + 8 + 1 from by omega, List.replicate_succ, List.set_cons_zero, show 120 - r = (119 - r) + 1 from by omega, List.take_succ_cons, List.take_replicate, List.map_cons, List.map_replicate, show min (119 - r) ((119 - r) + 8) = 119 - r from by omega]) (by omega)
  refine (appendCount_any w.heap.size _ _ (n * 8) _ hO (by rw [List.length_cons, List.length_replicate]; omega) (by simp)).mono ?_
  rintro e w1 ⟨v1, rfl, hO1, hB1⟩
  have HO1 := Lib.hid hO1; clear hO1
  have HB1 := Lib.hid hB1; clear hB1 hO
  go_wp2_with fail
  go_ret
  exact ⟨_, rfl, by rw [HP.out]; exact HO1.out, ((Below.refl _ _).alloc (Nat.le_refl _) _).trans HB1.out⟩
theorem padding_any (n : Nat) (w : World) :
    Calls Tryd.prog 36 #[.int .u64 (un n)] w fun e w' => ∃ v', e = .returned v' ∧ OwnB w' w.heap.size v' (padl n) ∧ Below w.heap.size w w' := by
  by_cases h : n % 64 ≤ 55
  · exact padding_lo n w h
  · exact padding_hi n w (by omega)
end Go.Proofs.YteadncmhcbdicaaDoor
