/- The reference's Tail. The reference's First, Out. -/
import Derived.Test.YtlnjpmpddomjiaaGreatDoorGmCutE
import Derived.Test.YtlnjpmpddomjiaaGreatDoorGmMix
set_option maxRecDepth 100000
namespace Go.Proofs.YtlnjpmpddomjiaaGreatDoor
open Go.RowKit
set_option maxRecDepth 100000 in
set_option maxHeartbeats 1000000 in
theorem refTail_any (n : Nat) (w : World) : Calls Tryz.prog 72 #[.int .u64 (un n)] w fun e w' => ∃ v', e = .returned v' ∧ OwnB w' w.heap.size v' (padl n) ∧ Below w.heap.size w w' := by
  have h0 := (un_range n).1
  obtain ⟨r, hrr⟩ : ∃ r, r = n % 64 := ⟨_, rfl⟩
  have hr : r < 64 := by omega
  have hmod : un n % (64 : Int) = (r : Int) := by rw [hrr]; unfold un; omega
  have HP : Hid (padl n = 128 :: List.replicate ((119 - r) % 64) 0 ++ be (n * 8) 8) := Lib.hid (by rw [hrr]; unfold padl; rfl)
  obtain ⟨M, hM⟩ : ∃ M, M = n * 8 % 18446744073709551616 := ⟨_, rfl⟩
  have hm8 : IntKind.u64.wrap (un n * 8) = (M : Int) := by rw [hM]; exact un_mul n 8
  have HMB : Hid (be M 8 = be (n * 8) 8) := Lib.hid (by rw [hM]; exact be_mod (n * 8) 8)
  have hMl : M < 18446744073709551616 := by rw [hM]; exact Nat.mod_lt _ (by decide)
  clear hM
  obtain ⟨z, hz⟩ : ∃ z, z = (119 - r) % 64 := ⟨_, rfl⟩
  have hzr : z < 64 ∧ (r + 1 + z) % 64 = 56 := by omega
  have hzj : ∀ j, j < z → (r + 1 + j) % 64 ≠ 56 := by omega
  rw [← hz] at HP
  have HM := Lib.hid hm8; clear hm8
  have HZJ := Lib.hid hzj; clear hzj hrr hz
  go_enter Tryz.func72, Tryz.ntmps72
  go_wp2_with fail
  try rw [hmod]
  clear hmod
  go_loopw [3, 4] (fun u k wr => ∃ j : Nat, j ≤ z ∧ k = .int .u64 ((r : Int) + 1 + (j : Int)) ∧ OwnB wr w.heap.size u (128 :: List.replicate j 0) ∧ Below w.heap.size w wr) (fun _ k _ => 200 - (intOf k).toNat)
  case atStart =>
    refine ⟨0, by omega, by simp, ?_, (Below.refl _ _).alloc (Nat.le_refl _) _⟩
    exact OwnB.of_heap (cur := #[vb 128]) (n := 1) (Nat.le_refl _) (heap_alloc_new w _) rfl (by unfold maxLen; omega) rfl rfl (by omega)
  case round =>
    obtain ⟨j, hj, rfl, hO, hB⟩ := hrel
    have HO := Lib.hid hO; clear hO
    have HB := Lib.hid hB; clear hB
    by_cases hlt : j < z
    · have hne := HZJ.out j hlt
      have hne' : (((r : Int) + 1 + (j : Int)) % 64 == 56) = false := by
        rw [beq_eq_false_iff_ne]; omega
      have hne2 : (((r : Int) + 1 + (j : Int)) % 64 != 56) = true := by rw [bne, hne']; rfl
      have HN : Hid ((128 :: List.replicate j 0 ++ [0] : List UInt8) = 128 :: List.replicate (j + 1) 0) := Lib.hid (by rw [List.replicate_succ']; rfl)
      clear hne
      go_wp2_with (at_builtin; ((with_reducible refine wpList_app ?g1 (.tmp 14) (.tmp 15) ?g2 w.heap.size u3 (128 :: List.replicate j 0) [0] ?g3 ?g4 wr.heap.size 0 1 1 ?g5 ?g6 ?g7 ?g8 ?g9 ?_); (case g1 => rfl); (case g2 => rfl); (case g3 => rfl); (case g4 => exact HO.out.below ((Below.refl _ _).alloc (Nat.le_refl _) _)); (case g5 => rfl); (case g6 => rfl); (case g7 => exact Bs.of_blk (Blk.newA _ _ _) 0 (fun j hj => by match j, hj with | 0, _ => rfl)); (case g8 => simp; omega); (case g9 => have := HB.out.size; simp; omega); intro v' w1 hv hg; have Hv := Lib.hid hv; clear hv; have Hg := Lib.hid (OwnB.belowBase (w := wr.alloc _) (HO.out.below ((Below.refl wr.heap.size wr).alloc (Nat.le_refl _) _)) hg (by have := HB.out.size; simp; omega)); clear hg))
      go_roundw
      case rel => exact ⟨j + 1, by omega, by go_num, by rw [← HN.out]; exact Hv.out, (HB.out.alloc HB.out.size _).trans Hg.out⟩
      case measure => simp [intOf]; omega
    · obtain rfl : j = z := by omega
      have he : (((r : Int) + 1 + (j : Int)) % 64 == 56) = true := by rw [beq_iff_eq]; omega
      have he2 : (((r : Int) + 1 + (j : Int)) % 64 != 56) = false := by rw [bne, he]; rfl
      have hm8 := HM.out
      go_wp2_with fail
      refine (refBytes_any M 8 wr hMl (by omega)).mono ?_
      rintro e w1 ⟨v1, rfl, hO1, hB1⟩
      rw [HMB.out] at hO1
      have HO1 := Lib.hid hO1.sl; clear hO1
      have HOu := Lib.hid (HO.out.below hB1)
      have HB1 := Lib.hid (HB.out.trans (hB1.mono HB.out.size)); clear hB1 hm8
      go_wp2_with (at_builtin; ((with_reducible refine wpList_app_sl ?f1 (.tmp 17) (.tmp 20) ?f2 w.heap.size u3 (128 :: List.replicate j 0) (be (n * 8) 8) ?f3 ?f4 w1.heap.size v1 ?f5 ?f6 ?f7 ?f8 ?_); (case f1 => rfl); (case f2 => rfl); (case f3 => rfl); (case f4 => exact HOu.out); (case f5 => rfl); (case f6 => exact HO1.out); (case f7 => rw [be_length]; simp; omega); (case f8 => exact HB1.out.size); intro v' w2 hv hg; have Hv := Lib.hid hv; clear hv; have Hg := Lib.hid (HOu.out.belowBase hg HB1.out.size); clear hg))
      go_ret
      exact ⟨_, rfl, by rw [HP.out]; exact Hv.out, HB1.out.trans Hg.out⟩
end Go.Proofs.YtlnjpmpddomjiaaGreatDoor
set_option maxRecDepth 100000
namespace Go.Proofs.YtlnjpmpddomjiaaGreatDoor
open Go.RowKit
theorem zero_st (W : World) : (zeroValue 112).run Tryz.prog W = .ok (.agg #[.int .u32 0, .int .u32 0, .int .u32 0, .int .u32 0, .int .u32 0, .int .u32 0, .int .u32 0, .int .u32 0]) W := by kernel_rfl
set_option maxRecDepth 100000 in
set_option maxHeartbeats 1000000 in
theorem refFirst_any (w : World) : Calls Tryz.prog 71 #[] w fun e w' => e = .returned (.agg St.first.cells.toArray) ∧ Below w.heap.size w w' := by
  have hz := zero_st
  go_enter Tryz.func71, Tryz.ntmps71
  go_wp2_with fail
  exact bodyPost_ret (v := .agg #[.int .u32 1779033703, .int .u32 3144134277, .int .u32 1013904242, .int .u32 2773480762, .int .u32 1359893119, .int .u32 2600822924, .int .u32 528734635, .int .u32 1541459225]) (by simp [results, Tryz.results71, go_sem]) rfl ⟨rfl, (Below.refl _ _).alloc (Nat.le_refl _) _⟩
set_option maxRecDepth 100000 in
set_option maxHeartbeats 1000000 in
theorem refOut_any (s : St) (w : World) : Calls Tryz.prog 73 #[.agg s.cells.toArray] w fun e w' => ∃ v', e = .returned v' ∧ OwnB w' w.heap.size v' (wbs s.list) ∧ Below w.heap.size w w' := by
  go_enter Tryz.func73, Tryz.ntmps73
  go_wp2_with fail
  go_loopw [3, 7] (fun u i wr => ∃ k : Nat, k ≤ 8 ∧ i = .int .i64 k ∧ OwnB wr w.heap.size u (wbs (s.list.take k)) ∧ Below w.heap.size w wr) (fun _ i _ => 8 - (intOf i).toNat)
  case atStart => exact ⟨0, by omega, rfl, by simpa [wbs] using OwnB.nil _ _, (Below.refl _ _).alloc (Nat.le_refl _) _⟩
  case round =>
    obtain ⟨k, hk, rfl, hO, hB⟩ := hrel
    have HO := Lib.hid hO; clear hO
    have HB := Lib.hid hB; clear hB
    by_cases hlt : k < 8
    · have hx := index8s s k hlt
      obtain ⟨x, hxx⟩ : ∃ x, x = s.list.getD k 0 := ⟨_, rfl⟩
      rw [← hxx] at hx
      have HN : Hid (wbs (s.list.take (k + 1)) = wbs (s.list.take k) ++ wb x) := Lib.hid (by rw [wbs_take _ _ (show k < s.list.length from hlt), hxx])
      have hwr := wn_range x
      have hlen : (wbs (s.list.take k)).length ≤ 1000 := by rw [wbs_length, List.length_take]; omega
      clear hxx
      go_wp2_with fail
      refine (refBytes_any x.toNat 4 wr (by have := x.isLt; omega) (by omega)).mono ?_
      rintro e w1 ⟨v1, rfl, hO1, hB1⟩
      rw [← wb_be] at hO1
      have HO1 := Lib.hid hO1.sl; clear hO1
      have HOu := Lib.hid (HO.out.below hB1)
      have HB1 := Lib.hid (HB.out.trans (hB1.mono HB.out.size)); clear hB1
      go_wp2_with (at_builtin; ((with_reducible refine wpList_app_sl ?f1 (.tmp 10) (.tmp 13) ?f2 w.heap.size u3 (wbs (s.list.take k)) (wb x) ?f3 ?f4 w1.heap.size v1 ?f5 ?f6 ?f7 ?f8 ?_); (case f1 => rfl); (case f2 => rfl); (case f3 => rfl); (case f4 => exact HOu.out); (case f5 => rfl); (case f6 => exact HO1.out); (case f7 => rw [wb_length]; omega); (case f8 => exact HB1.out.size); intro v' w2 hv hg; have Hv := Lib.hid hv; clear hv; have Hg := Lib.hid (HOu.out.belowBase hg HB1.out.size); clear hg))
      go_roundw
      case rel => exact ⟨k + 1, by omega, by go_num, by rw [HN.out]; exact Hv.out, HB1.out.trans Hg.out⟩
      case measure => simp [intOf]; omega
    · obtain rfl : k = 8 := by omega
      go_wp2_with fail
      go_ret
      exact ⟨_, rfl, HO.out, HB.out⟩
end Go.Proofs.YtlnjpmpddomjiaaGreatDoor
