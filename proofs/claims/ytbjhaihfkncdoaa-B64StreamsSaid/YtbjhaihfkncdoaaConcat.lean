/- slices.Grow and slices.Concat at slices of bytes. -/
import Derived.Test.YtbjhaihfkncdoaaCut2
namespace Go.Proofs.Ytbjhaihfkncdoaa
open Go.RowKit
set_option maxHeartbeats 1000000 in
theorem grow_pos (n : Nat) (h0 : 0 < n) (hn : n ≤ 100000) (w : World) : Calls Try.prog 52 #[.slice none 0 0, .int .i64 (n : Int)] w fun e w' => ∃ v', e = .returned v' ∧ OwnB w' w.heap.size v' [] ∧ Below w.heap.size w w' := by
  have hb5 : Try.t5.bytes = 1 := by kernel_rfl
  have hnx : Builtin.nextslicecap n 0 = n := by unfold Builtin.nextslicecap; rw [if_pos (by omega)]
  go_enter Try.func52, Try.ntmps52
  go_wp2_with fail
  have hge := grownCap_ge w n 0 5
  have hle := grownCap_le_maxLen w n 0 5 (by unfold maxLen; omega)
  go_ret
  refine ⟨_, rfl, ?_, ((Below.refl _ _).alloc (Nat.le_refl _) _).drew⟩
  exact OwnB.of_heap (g := w.heap.size) (cap := grownCap w n 0 5) (n := 0) (Nat.le_refl _) (heap_alloc_new w _) (by rw [Array.size_append, size_zeroCells, size_zeroCells]; show n * 1 + (grownCap w n 0 5 - n) * 1 = _; omega) hle rfl (by simp) (by omega)
set_option maxHeartbeats 1000000 in
theorem grow_nought (w : World) : Calls Try.prog 52 #[.slice none 0 0, .int .i64 0] w fun e w' => ∃ v', e = .returned v' ∧ OwnB w' w.heap.size v' [] ∧ Below w.heap.size w w' := by
  go_enter Try.func52, Try.ntmps52
  go_wp2_with fail
  go_ret
  exact ⟨_, rfl, OwnB.nil _ _, Below.refl _ _⟩
theorem grow_any (n : Nat) (hn : n ≤ 100000) (w : World) : Calls Try.prog 52 #[.slice none 0 0, .int .i64 (n : Int)] w fun e w' => ∃ v', e = .returned v' ∧ OwnB w' w.heap.size v' [] ∧ Below w.heap.size w w' := by
  by_cases h : n = 0
  · subst h; exact grow_nought w
  · exact grow_pos n (by omega) hn w
set_option maxRecDepth 100000 in
set_option maxHeartbeats 1000000 in
theorem concat_any (gb : Nat) (v1 v2 : Value) (l1 l2 : List UInt8) (w : World) (hg : gb < w.heap.size) (hc1 : w.cell? ⟨gb, 0, none⟩ = some v1) (hc2 : w.cell? ⟨gb, 1, none⟩ = some v2)
    (h1 : Sl w w.heap.size v1 l1) (h2 : Sl w w.heap.size v2 l2) (hl1 : l1.length ≤ 10000) (hl2 : l2.length ≤ 10000) :
    Calls Try.prog 44 #[.slice (some ⟨gb, 0, none⟩) 2 2] w fun e w' => ∃ v', e = .returned v' ∧ OwnB w' w.heap.size v' (l1 ++ l2) ∧ Below w.heap.size w w' := by
  have H1 := Lib.hid h1
  have H2 := Lib.hid h2
  obtain ⟨A1, c1, rfl, _, k11, k12, _⟩ := h1
  obtain ⟨A2, c2, rfl, _, k21, k22, _⟩ := h2
  have HC1 := Lib.hid hc1; clear hc1
  have HC2 := Lib.hid hc2; clear hc2
  go_enter Try.func44, Try.ntmps44
  go_wp2_with fail
  go_loop [3, 5, 11] (fun z _ i => ∃ k s : Nat, k ≤ 2 ∧ i = .int .i64 (k : Int) ∧ z = .int .i64 (s : Int) ∧ s = (if k = 0 then 0 else if k = 1 then l1.length else l1.length + l2.length)) (fun _ _ i => 2 - (intOf i).toNat)
  case atStart => exact ⟨0, 0, by omega, rfl, rfl, rfl⟩
  case round =>
    obtain ⟨k, s, hk, rfl, rfl, hs⟩ := hrel
    have Hs := Lib.hid hs; clear hs
    obtain rfl | rfl | rfl : k = 0 ∨ k = 1 ∨ k = 2 := by omega
    · obtain rfl : s = 0 := Hs.out
      have hc := HC1.out
      go_wp2_with fail
      go_round
      case rel => exact ⟨1, l1.length, by omega, rfl, by go_num, rfl⟩
      case measure => simp [intOf]
    · obtain rfl : s = l1.length := Hs.out
      have hc := HC2.out
      go_wp2_with fail
      go_round
      case rel => exact ⟨2, l1.length + l2.length, by omega, rfl, by go_num, rfl⟩
      case measure => simp [intOf]
    · have Hs2 : Hid (s = l1.length + l2.length) := Lib.hid Hs.out
      have hs3 : s ≤ 20000 := by rw [Hs2.out]; omega
      go_wp2_with fail
      refine (grow_any s (by omega) w).mono ?_
      rintro e w1 ⟨v0, rfl, hO, hb⟩
      have HO := Lib.hid hO; clear hO
      have HB := Lib.hid hb; clear hb
      go_wp2_with fail
      go_loopw [6, 8, 27] (fun o _ i wr => ∃ k : Nat, k ≤ 2 ∧ i = .int .i64 (k : Int) ∧ OwnB wr w.heap.size o (if k = 0 then [] else if k = 1 then l1 else l1 ++ l2) ∧ Below w.heap.size w wr) (fun _ _ i _ => 2 - (intOf i).toNat)
      case atStart => exact ⟨0, by omega, rfl, HO.out, HB.out⟩
      case round =>
        clear HO HB
        obtain ⟨k, hk, rfl, hO, hBl⟩ := hrel
        have HO := Lib.hid hO; clear hO
        have HBl := Lib.hid hBl; clear hBl
        obtain rfl | rfl | rfl : k = 0 ∨ k = 1 ∨ k = 2 := by omega
        · have hc : wr.cell? ⟨gb, 0, none⟩ = some (.slice A1 l1.length c1) := (HBl.out.cell (p := ⟨gb, 0, none⟩) hg).trans HC1.out
          have HO1 : Hid (OwnB wr w.heap.size u6 []) := Lib.hid HO.out
          go_wp2_with (at_builtin; ((with_reducible refine wpList_app_sl ?g1 (.tmp 31) (.tmp 32) ?g2 w.heap.size u6 [] l1 ?g3 ?g4 w.heap.size (.slice A1 l1.length c1) ?g5 ?g6 ?g7 ?g8 ?_); (case g1 => rfl); (case g2 => rfl); (case g3 => rfl); (case g4 => exact HO1.out); (case g5 => rfl); (case g6 => exact H1.out.below HBl.out (Nat.le_refl _)); (case g7 => simp; omega); (case g8 => exact HBl.out.size); intro v' w2 hv hgr; have Hv := Lib.hid hv; clear hv; have Hg := Lib.hid (HBl.out.trans (HO1.out.belowBase hgr HBl.out.size)); clear hgr))
          go_roundw
          case rel => exact ⟨1, by omega, rfl, by simpa using Hv.out, Hg.out⟩
          case measure => simp [intOf]
        · have hc : wr.cell? ⟨gb, 1, none⟩ = some (.slice A2 l2.length c2) := (HBl.out.cell (p := ⟨gb, 1, none⟩) hg).trans HC2.out
          have HO1 : Hid (OwnB wr w.heap.size u6 l1) := Lib.hid HO.out
          go_wp2_with (at_builtin; ((with_reducible refine wpList_app_sl ?g1 (.tmp 31) (.tmp 32) ?g2 w.heap.size u6 l1 l2 ?g3 ?g4 w.heap.size (.slice A2 l2.length c2) ?g5 ?g6 ?g7 ?g8 ?_); (case g1 => rfl); (case g2 => rfl); (case g3 => rfl); (case g4 => exact HO1.out); (case g5 => rfl); (case g6 => exact H2.out.below HBl.out (Nat.le_refl _)); (case g7 => omega); (case g8 => exact HBl.out.size); intro v' w2 hv hgr; have Hv := Lib.hid hv; clear hv; have Hg := Lib.hid (HBl.out.trans (HO1.out.belowBase hgr HBl.out.size)); clear hgr))
          go_roundw
          case rel => exact ⟨2, by omega, rfl, by simpa using Hv.out, Hg.out⟩
          case measure => simp [intOf]
        · have HO1 : Hid (OwnB wr w.heap.size u6 (l1 ++ l2)) := Lib.hid HO.out
          go_wp2_with fail
          go_ret
          exact ⟨_, rfl, HO1.out, HBl.out⟩
end Go.Proofs.Ytbjhaihfkncdoaa
