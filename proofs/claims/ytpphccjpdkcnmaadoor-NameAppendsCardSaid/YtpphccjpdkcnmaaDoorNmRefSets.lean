/- name: the reference's sets of signs. -/
import Derived.Test.YtpphccjpdkcnmaaDoorNmSets
import Derived.Lib.QuoteBits
namespace Go.Proofs.YtpphccjpdkcnmaaDoor
open Go.RowKit
set_option maxRecDepth 100000 in
theorem refBlank_any (r : Int) (w : World) (h0 : 0 ≤ r) (h1 : r ≤ 1114111) : Calls Tryd.prog 34 #[.int .i64 r] w fun e w' => e = .returned (.bool (spB r)) ∧ w = w' := by
  rcases (show (0 ≤ r ∧ r ≤ 159) ∨ (160 ≤ r ∧ r ≤ 160) ∨ (161 ≤ r ∧ r ≤ 5759) ∨ (5760 ≤ r ∧ r ≤ 5760) ∨ (5761 ≤ r ∧ r ≤ 8191) ∨ (8192 ≤ r ∧ r ≤ 8202) ∨ (8203 ≤ r ∧ r ≤ 8238) ∨ (8239 ≤ r ∧ r ≤ 8239) ∨ (8240 ≤ r ∧ r ≤ 8286) ∨ (8287 ≤ r ∧ r ≤ 8287) ∨ (8288 ≤ r ∧ r ≤ 12287) ∨ (12288 ≤ r ∧ r ≤ 12288) ∨ (12289 ≤ r ∧ r ≤ 1114111) by omega) with ⟨ha, hb⟩ | ⟨ha, hb⟩ | ⟨ha, hb⟩ | ⟨ha, hb⟩ | ⟨ha, hb⟩ | ⟨ha, hb⟩ | ⟨ha, hb⟩ | ⟨ha, hb⟩ | ⟨ha, hb⟩ | ⟨ha, hb⟩ | ⟨ha, hb⟩ | ⟨ha, hb⟩ | ⟨ha, hb⟩
  · have hv : spB r = false := by unfold spB inB; simp only [Bool.or_eq_false_iff, Bool.and_eq_false_iff, beq_eq_false_iff_ne, ne_eq, decide_eq_false_iff_not]; omega
    rw [hv]
    clear hv h0 h1
    have e160 : (r == 160) = false := by rw [beq_eq_false_iff_ne]; omega
    have e5760 : (r == 5760) = false := by rw [beq_eq_false_iff_ne]; omega
    have e8239 : (r == 8239) = false := by rw [beq_eq_false_iff_ne]; omega
    have e8287 : (r == 8287) = false := by rw [beq_eq_false_iff_ne]; omega
    have e12288 : (r == 12288) = false := by rw [beq_eq_false_iff_ne]; omega
    go_enter Tryd.func34, Tryd.ntmps34
    go_wp2_with fail
    go_ret
    refine ⟨congrArg (fun b => Ending.returned (Value.bool b)) ?_, rfl⟩
    first | rfl | exact decide_eq_true (by omega) | exact decide_eq_false (by omega) | (rw [Bool.or_eq_false_iff, decide_eq_false_iff_not, decide_eq_false_iff_not]; omega)
  · have hv : spB r = true := by unfold spB inB; simp only [Bool.or_eq_true, Bool.and_eq_true, beq_iff_eq, decide_eq_true_eq]; omega
    rw [hv]
    clear hv h0 h1
    obtain rfl : r = 160 := by omega
    clear ha hb
    go_enter Tryd.func34, Tryd.ntmps34
    go_wp2_with fail
    go_ret
    refine ⟨congrArg (fun b => Ending.returned (Value.bool b)) ?_, rfl⟩
    first | rfl | exact decide_eq_true (by omega) | exact decide_eq_false (by omega) | (rw [Bool.or_eq_false_iff, decide_eq_false_iff_not, decide_eq_false_iff_not]; omega)
  · have hv : spB r = false := by unfold spB inB; simp only [Bool.or_eq_false_iff, Bool.and_eq_false_iff, beq_eq_false_iff_ne, ne_eq, decide_eq_false_iff_not]; omega
    rw [hv]
    clear hv h0 h1
    have e160 : (r == 160) = false := by rw [beq_eq_false_iff_ne]; omega
    have e5760 : (r == 5760) = false := by rw [beq_eq_false_iff_ne]; omega
    have e8239 : (r == 8239) = false := by rw [beq_eq_false_iff_ne]; omega
    have e8287 : (r == 8287) = false := by rw [beq_eq_false_iff_ne]; omega
    have e12288 : (r == 12288) = false := by rw [beq_eq_false_iff_ne]; omega
    go_enter Tryd.func34, Tryd.ntmps34
    go_wp2_with fail
    go_ret
    refine ⟨congrArg (fun b => Ending.returned (Value.bool b)) ?_, rfl⟩
    first | rfl | exact decide_eq_true (by omega) | exact decide_eq_false (by omega) | (rw [Bool.or_eq_false_iff, decide_eq_false_iff_not, decide_eq_false_iff_not]; omega)
  · have hv : spB r = true := by unfold spB inB; simp only [Bool.or_eq_true, Bool.and_eq_true, beq_iff_eq, decide_eq_true_eq]; omega
    rw [hv]
    clear hv h0 h1
    obtain rfl : r = 5760 := by omega
    clear ha hb
    go_enter Tryd.func34, Tryd.ntmps34
    go_wp2_with fail
    go_ret
    refine ⟨congrArg (fun b => Ending.returned (Value.bool b)) ?_, rfl⟩
    first | rfl | exact decide_eq_true (by omega) | exact decide_eq_false (by omega) | (rw [Bool.or_eq_false_iff, decide_eq_false_iff_not, decide_eq_false_iff_not]; omega)
  · have hv : spB r = false := by unfold spB inB; simp only [Bool.or_eq_false_iff, Bool.and_eq_false_iff, beq_eq_false_iff_ne, ne_eq, decide_eq_false_iff_not]; omega
    rw [hv]
    clear hv h0 h1
    have e160 : (r == 160) = false := by rw [beq_eq_false_iff_ne]; omega
    have e5760 : (r == 5760) = false := by rw [beq_eq_false_iff_ne]; omega
    have e8239 : (r == 8239) = false := by rw [beq_eq_false_iff_ne]; omega
    have e8287 : (r == 8287) = false := by rw [beq_eq_false_iff_ne]; omega
    have e12288 : (r == 12288) = false := by rw [beq_eq_false_iff_ne]; omega
    go_enter Tryd.func34, Tryd.ntmps34
    go_wp2_with fail
    go_ret
    refine ⟨congrArg (fun b => Ending.returned (Value.bool b)) ?_, rfl⟩
    first | rfl | exact decide_eq_true (by omega) | exact decide_eq_false (by omega) | (rw [Bool.or_eq_false_iff, decide_eq_false_iff_not, decide_eq_false_iff_not]; omega)
  · have hv : spB r = true := by unfold spB inB; simp only [Bool.or_eq_true, Bool.and_eq_true, beq_iff_eq, decide_eq_true_eq]; omega
    rw [hv]
    clear hv h0 h1
    have e160 : (r == 160) = false := by rw [beq_eq_false_iff_ne]; omega
    have e5760 : (r == 5760) = false := by rw [beq_eq_false_iff_ne]; omega
    have e8239 : (r == 8239) = false := by rw [beq_eq_false_iff_ne]; omega
    have e8287 : (r == 8287) = false := by rw [beq_eq_false_iff_ne]; omega
    have e12288 : (r == 12288) = false := by rw [beq_eq_false_iff_ne]; omega
    go_enter Tryd.func34, Tryd.ntmps34
    go_wp2_with fail
    go_ret
    refine ⟨congrArg (fun b => Ending.returned (Value.bool b)) ?_, rfl⟩
    first | rfl | exact decide_eq_true (by omega) | exact decide_eq_false (by omega) | (rw [Bool.or_eq_false_iff, decide_eq_false_iff_not, decide_eq_false_iff_not]; omega)
  · have hv : spB r = false := by unfold spB inB; simp only [Bool.or_eq_false_iff, Bool.and_eq_false_iff, beq_eq_false_iff_ne, ne_eq, decide_eq_false_iff_not]; omega
    rw [hv]
    clear hv h0 h1
    have e160 : (r == 160) = false := by rw [beq_eq_false_iff_ne]; omega
    have e5760 : (r == 5760) = false := by rw [beq_eq_false_iff_ne]; omega
    have e8239 : (r == 8239) = false := by rw [beq_eq_false_iff_ne]; omega
    have e8287 : (r == 8287) = false := by rw [beq_eq_false_iff_ne]; omega
    have e12288 : (r == 12288) = false := by rw [beq_eq_false_iff_ne]; omega
    go_enter Tryd.func34, Tryd.ntmps34
    go_wp2_with fail
    go_ret
    refine ⟨congrArg (fun b => Ending.returned (Value.bool b)) ?_, rfl⟩
    first | rfl | exact decide_eq_true (by omega) | exact decide_eq_false (by omega) | (rw [Bool.or_eq_false_iff, decide_eq_false_iff_not, decide_eq_false_iff_not]; omega)
  · have hv : spB r = true := by unfold spB inB; simp only [Bool.or_eq_true, Bool.and_eq_true, beq_iff_eq, decide_eq_true_eq]; omega
    rw [hv]
    clear hv h0 h1
    obtain rfl : r = 8239 := by omega
    clear ha hb
    go_enter Tryd.func34, Tryd.ntmps34
    go_wp2_with fail
    go_ret
    refine ⟨congrArg (fun b => Ending.returned (Value.bool b)) ?_, rfl⟩
    first | rfl | exact decide_eq_true (by omega) | exact decide_eq_false (by omega) | (rw [Bool.or_eq_false_iff, decide_eq_false_iff_not, decide_eq_false_iff_not]; omega)
  · have hv : spB r = false := by unfold spB inB; simp only [Bool.or_eq_false_iff, Bool.and_eq_false_iff, beq_eq_false_iff_ne, ne_eq, decide_eq_false_iff_not]; omega
    rw [hv]
    clear hv h0 h1
    have e160 : (r == 160) = false := by rw [beq_eq_false_iff_ne]; omega
    have e5760 : (r == 5760) = false := by rw [beq_eq_false_iff_ne]; omega
    have e8239 : (r == 8239) = false := by rw [beq_eq_false_iff_ne]; omega
    have e8287 : (r == 8287) = false := by rw [beq_eq_false_iff_ne]; omega
    have e12288 : (r == 12288) = false := by rw [beq_eq_false_iff_ne]; omega
    go_enter Tryd.func34, Tryd.ntmps34
    go_wp2_with fail
    go_ret
    refine ⟨congrArg (fun b => Ending.returned (Value.bool b)) ?_, rfl⟩
    first | rfl | exact decide_eq_true (by omega) | exact decide_eq_false (by omega) | (rw [Bool.or_eq_false_iff, decide_eq_false_iff_not, decide_eq_false_iff_not]; omega)
  · have hv : spB r = true := by unfold spB inB; simp only [Bool.or_eq_true, Bool.and_eq_true, beq_iff_eq, decide_eq_true_eq]; omega
    rw [hv]
    clear hv h0 h1
    obtain rfl : r = 8287 := by omega
    clear ha hb
    go_enter Tryd.func34, Tryd.ntmps34
    go_wp2_with fail
    go_ret
    refine ⟨congrArg (fun b => Ending.returned (Value.bool b)) ?_, rfl⟩
    first | rfl | exact decide_eq_true (by omega) | exact decide_eq_false (by omega) | (rw [Bool.or_eq_false_iff, decide_eq_false_iff_not, decide_eq_false_iff_not]; omega)
  · have hv : spB r = false := by unfold spB inB; simp only [Bool.or_eq_false_iff, Bool.and_eq_false_iff, beq_eq_false_iff_ne, ne_eq, decide_eq_false_iff_not]; omega
    rw [hv]
    clear hv h0 h1
    have e160 : (r == 160) = false := by rw [beq_eq_false_iff_ne]; omega
    have e5760 : (r == 5760) = false := by rw [beq_eq_false_iff_ne]; omega
    have e8239 : (r == 8239) = false := by rw [beq_eq_false_iff_ne]; omega
    have e8287 : (r == 8287) = false := by rw [beq_eq_false_iff_ne]; omega
    have e12288 : (r == 12288) = false := by rw [beq_eq_false_iff_ne]; omega
    go_enter Tryd.func34, Tryd.ntmps34
    go_wp2_with fail
    go_ret
    refine ⟨congrArg (fun b => Ending.returned (Value.bool b)) ?_, rfl⟩
    first | rfl | exact decide_eq_true (by omega) | exact decide_eq_false (by omega) | (rw [Bool.or_eq_false_iff, decide_eq_false_iff_not, decide_eq_false_iff_not]; omega)
  · have hv : spB r = true := by unfold spB inB; simp only [Bool.or_eq_true, Bool.and_eq_true, beq_iff_eq, decide_eq_true_eq]; omega
    rw [hv]
    clear hv h0 h1
    obtain rfl : r = 12288 := by omega
    clear ha hb
    go_enter Tryd.func34, Tryd.ntmps34
    go_wp2_with fail
    go_ret
    refine ⟨congrArg (fun b => Ending.returned (Value.bool b)) ?_, rfl⟩
    first | rfl | exact decide_eq_true (by omega) | exact decide_eq_false (by omega) | (rw [Bool.or_eq_false_iff, decide_eq_false_iff_not, decide_eq_false_iff_not]; omega)
  · have hv : spB r = false := by unfold spB inB; simp only [Bool.or_eq_false_iff, Bool.and_eq_false_iff, beq_eq_false_iff_ne, ne_eq, decide_eq_false_iff_not]; omega
    rw [hv]
    clear hv h0 h1
    have e160 : (r == 160) = false := by rw [beq_eq_false_iff_ne]; omega
    have e5760 : (r == 5760) = false := by rw [beq_eq_false_iff_ne]; omega
    have e8239 : (r == 8239) = false := by rw [beq_eq_false_iff_ne]; omega
    have e8287 : (r == 8287) = false := by rw [beq_eq_false_iff_ne]; omega
    have e12288 : (r == 12288) = false := by rw [beq_eq_false_iff_ne]; omega
    go_enter Tryd.func34, Tryd.ntmps34
    go_wp2_with fail
    go_ret
    refine ⟨congrArg (fun b => Ending.returned (Value.bool b)) ?_, rfl⟩
    first | rfl | exact decide_eq_true (by omega) | exact decide_eq_false (by omega) | (rw [Bool.or_eq_false_iff, decide_eq_false_iff_not, decide_eq_false_iff_not]; omega)
set_option maxRecDepth 100000 in
theorem refGoes_any (r : Int) (w : World) (h0 : 0 ≤ r) (h1 : r ≤ 1114111) : Calls Tryd.prog 35 #[.int .i64 r] w fun e w' => e = .returned (.bool (goB r)) ∧ w = w' := by
  rcases (show (0 ≤ r ∧ r ≤ 172) ∨ (173 ≤ r ∧ r ≤ 173) ∨ (174 ≤ r ∧ r ≤ 8202) ∨ (8203 ≤ r ∧ r ≤ 8205) ∨ (8206 ≤ r ∧ r ≤ 8287) ∨ (8288 ≤ r ∧ r ≤ 8288) ∨ (8289 ≤ r ∧ r ≤ 65023) ∨ (65024 ≤ r ∧ r ≤ 65039) ∨ (65040 ≤ r ∧ r ≤ 65278) ∨ (65279 ≤ r ∧ r ≤ 65279) ∨ (65280 ≤ r ∧ r ≤ 1114111) by omega) with ⟨ha, hb⟩ | ⟨ha, hb⟩ | ⟨ha, hb⟩ | ⟨ha, hb⟩ | ⟨ha, hb⟩ | ⟨ha, hb⟩ | ⟨ha, hb⟩ | ⟨ha, hb⟩ | ⟨ha, hb⟩ | ⟨ha, hb⟩ | ⟨ha, hb⟩
  · have hv : goB r = false := by unfold goB inB; simp only [Bool.or_eq_false_iff, Bool.and_eq_false_iff, beq_eq_false_iff_ne, ne_eq, decide_eq_false_iff_not]; omega
    rw [hv]
    clear hv h0 h1
    have e173 : (r == 173) = false := by rw [beq_eq_false_iff_ne]; omega
    have e8288 : (r == 8288) = false := by rw [beq_eq_false_iff_ne]; omega
    have e65279 : (r == 65279) = false := by rw [beq_eq_false_iff_ne]; omega
    go_enter Tryd.func35, Tryd.ntmps35
    go_wp2_with fail
    go_ret
    refine ⟨congrArg (fun b => Ending.returned (Value.bool b)) ?_, rfl⟩
    first | rfl | exact decide_eq_true (by omega) | exact decide_eq_false (by omega) | (rw [Bool.or_eq_false_iff, decide_eq_false_iff_not, decide_eq_false_iff_not]; omega)
  · have hv : goB r = true := by unfold goB inB; simp only [Bool.or_eq_true, Bool.and_eq_true, beq_iff_eq, decide_eq_true_eq]; omega
    rw [hv]
    clear hv h0 h1
    obtain rfl : r = 173 := by omega
    clear ha hb
    go_enter Tryd.func35, Tryd.ntmps35
    go_wp2_with fail
    go_ret
    refine ⟨congrArg (fun b => Ending.returned (Value.bool b)) ?_, rfl⟩
    first | rfl | exact decide_eq_true (by omega) | exact decide_eq_false (by omega) | (rw [Bool.or_eq_false_iff, decide_eq_false_iff_not, decide_eq_false_iff_not]; omega)
  · have hv : goB r = false := by unfold goB inB; simp only [Bool.or_eq_false_iff, Bool.and_eq_false_iff, beq_eq_false_iff_ne, ne_eq, decide_eq_false_iff_not]; omega
    rw [hv]
    clear hv h0 h1
    have e173 : (r == 173) = false := by rw [beq_eq_false_iff_ne]; omega
    have e8288 : (r == 8288) = false := by rw [beq_eq_false_iff_ne]; omega
    have e65279 : (r == 65279) = false := by rw [beq_eq_false_iff_ne]; omega
    go_enter Tryd.func35, Tryd.ntmps35
    go_wp2_with fail
    go_ret
    refine ⟨congrArg (fun b => Ending.returned (Value.bool b)) ?_, rfl⟩
    first | rfl | exact decide_eq_true (by omega) | exact decide_eq_false (by omega) | (rw [Bool.or_eq_false_iff, decide_eq_false_iff_not, decide_eq_false_iff_not]; omega)
  · have hv : goB r = true := by unfold goB inB; simp only [Bool.or_eq_true, Bool.and_eq_true, beq_iff_eq, decide_eq_true_eq]; omega
    rw [hv]
    clear hv h0 h1
    have e173 : (r == 173) = false := by rw [beq_eq_false_iff_ne]; omega
    have e8288 : (r == 8288) = false := by rw [beq_eq_false_iff_ne]; omega
    have e65279 : (r == 65279) = false := by rw [beq_eq_false_iff_ne]; omega
    go_enter Tryd.func35, Tryd.ntmps35
    go_wp2_with fail
    go_ret
    refine ⟨congrArg (fun b => Ending.returned (Value.bool b)) ?_, rfl⟩
    first | rfl | exact decide_eq_true (by omega) | exact decide_eq_false (by omega) | (rw [Bool.or_eq_false_iff, decide_eq_false_iff_not, decide_eq_false_iff_not]; omega)
  · have hv : goB r = false := by unfold goB inB; simp only [Bool.or_eq_false_iff, Bool.and_eq_false_iff, beq_eq_false_iff_ne, ne_eq, decide_eq_false_iff_not]; omega
    rw [hv]
    clear hv h0 h1
    have e173 : (r == 173) = false := by rw [beq_eq_false_iff_ne]; omega
    have e8288 : (r == 8288) = false := by rw [beq_eq_false_iff_ne]; omega
    have e65279 : (r == 65279) = false := by rw [beq_eq_false_iff_ne]; omega
    go_enter Tryd.func35, Tryd.ntmps35
    go_wp2_with fail
    go_ret
    refine ⟨congrArg (fun b => Ending.returned (Value.bool b)) ?_, rfl⟩
    first | rfl | exact decide_eq_true (by omega) | exact decide_eq_false (by omega) | (rw [Bool.or_eq_false_iff, decide_eq_false_iff_not, decide_eq_false_iff_not]; omega)
  · have hv : goB r = true := by unfold goB inB; simp only [Bool.or_eq_true, Bool.and_eq_true, beq_iff_eq, decide_eq_true_eq]; omega
    rw [hv]
    clear hv h0 h1
    obtain rfl : r = 8288 := by omega
    clear ha hb
    go_enter Tryd.func35, Tryd.ntmps35
    go_wp2_with fail
    go_ret
    refine ⟨congrArg (fun b => Ending.returned (Value.bool b)) ?_, rfl⟩
    first | rfl | exact decide_eq_true (by omega) | exact decide_eq_false (by omega) | (rw [Bool.or_eq_false_iff, decide_eq_false_iff_not, decide_eq_false_iff_not]; omega)
  · have hv : goB r = false := by unfold goB inB; simp only [Bool.or_eq_false_iff, Bool.and_eq_false_iff, beq_eq_false_iff_ne, ne_eq, decide_eq_false_iff_not]; omega
    rw [hv]
    clear hv h0 h1
    have e173 : (r == 173) = false := by rw [beq_eq_false_iff_ne]; omega
    have e8288 : (r == 8288) = false := by rw [beq_eq_false_iff_ne]; omega
    have e65279 : (r == 65279) = false := by rw [beq_eq_false_iff_ne]; omega
    go_enter Tryd.func35, Tryd.ntmps35
    go_wp2_with fail
    go_ret
    refine ⟨congrArg (fun b => Ending.returned (Value.bool b)) ?_, rfl⟩
    first | rfl | exact decide_eq_true (by omega) | exact decide_eq_false (by omega) | (rw [Bool.or_eq_false_iff, decide_eq_false_iff_not, decide_eq_false_iff_not]; omega)
  · have hv : goB r = true := by unfold goB inB; simp only [Bool.or_eq_true, Bool.and_eq_true, beq_iff_eq, decide_eq_true_eq]; omega
    rw [hv]
    clear hv h0 h1
    have e173 : (r == 173) = false := by rw [beq_eq_false_iff_ne]; omega
    have e8288 : (r == 8288) = false := by rw [beq_eq_false_iff_ne]; omega
    have e65279 : (r == 65279) = false := by rw [beq_eq_false_iff_ne]; omega
    go_enter Tryd.func35, Tryd.ntmps35
    go_wp2_with fail
    go_ret
    refine ⟨congrArg (fun b => Ending.returned (Value.bool b)) ?_, rfl⟩
    first | rfl | exact decide_eq_true (by omega) | exact decide_eq_false (by omega) | (rw [Bool.or_eq_false_iff, decide_eq_false_iff_not, decide_eq_false_iff_not]; omega)
  · have hv : goB r = false := by unfold goB inB; simp only [Bool.or_eq_false_iff, Bool.and_eq_false_iff, beq_eq_false_iff_ne, ne_eq, decide_eq_false_iff_not]; omega
    rw [hv]
    clear hv h0 h1
    have e173 : (r == 173) = false := by rw [beq_eq_false_iff_ne]; omega
    have e8288 : (r == 8288) = false := by rw [beq_eq_false_iff_ne]; omega
    have e65279 : (r == 65279) = false := by rw [beq_eq_false_iff_ne]; omega
    go_enter Tryd.func35, Tryd.ntmps35
    go_wp2_with fail
    go_ret
    refine ⟨congrArg (fun b => Ending.returned (Value.bool b)) ?_, rfl⟩
    first | rfl | exact decide_eq_true (by omega) | exact decide_eq_false (by omega) | (rw [Bool.or_eq_false_iff, decide_eq_false_iff_not, decide_eq_false_iff_not]; omega)
  · have hv : goB r = true := by unfold goB inB; simp only [Bool.or_eq_true, Bool.and_eq_true, beq_iff_eq, decide_eq_true_eq]; omega
    rw [hv]
    clear hv h0 h1
    obtain rfl : r = 65279 := by omega
    clear ha hb
    go_enter Tryd.func35, Tryd.ntmps35
    go_wp2_with fail
    go_ret
    refine ⟨congrArg (fun b => Ending.returned (Value.bool b)) ?_, rfl⟩
    first | rfl | exact decide_eq_true (by omega) | exact decide_eq_false (by omega) | (rw [Bool.or_eq_false_iff, decide_eq_false_iff_not, decide_eq_false_iff_not]; omega)
  · have hv : goB r = false := by unfold goB inB; simp only [Bool.or_eq_false_iff, Bool.and_eq_false_iff, beq_eq_false_iff_ne, ne_eq, decide_eq_false_iff_not]; omega
    rw [hv]
    clear hv h0 h1
    have e173 : (r == 173) = false := by rw [beq_eq_false_iff_ne]; omega
    have e8288 : (r == 8288) = false := by rw [beq_eq_false_iff_ne]; omega
    have e65279 : (r == 65279) = false := by rw [beq_eq_false_iff_ne]; omega
    go_enter Tryd.func35, Tryd.ntmps35
    go_wp2_with fail
    go_ret
    refine ⟨congrArg (fun b => Ending.returned (Value.bool b)) ?_, rfl⟩
    first | rfl | exact decide_eq_true (by omega) | exact decide_eq_false (by omega) | (rw [Bool.or_eq_false_iff, decide_eq_false_iff_not, decide_eq_false_iff_not]; omega)
theorem and_i32 (r : Int) (h0 : 0 ≤ r) (h1 : r ≤ 1114111) : bits .and .i32 r 65535 = r % 65536 := by
  obtain ⟨x, rfl⟩ := Int.eq_ofNat_of_zero_le h0
  show IntKind.i32.wrap ((BitVec.ofInt 32 (x : Int) &&& BitVec.ofInt 32 ((65535 : Nat) : Int)).toNat : Int) = _
  rw [BitVec.toNat_and, ofInt_u32 x (by omega), ofInt_u32 65535 (by omega), show (65535 : Nat) = 2 ^ 16 - 1 from rfl, Nat.and_two_pow_sub_one_eq_mod]
  exact Lib.wrap_i32_small _ (by omega)
set_option maxRecDepth 100000 in
set_option maxHeartbeats 2000000 in
theorem refBars_any (r : Int) (w : World) (h0 : 0 ≤ r) (h1 : r ≤ 1114111) : Calls Tryd.prog 36 #[.int .i64 r] w fun e w' => e = .returned (.bool (baB r)) ∧ w = w' := by
  have hm := and_i32 r h0 h1
  rcases (show (0 ≤ r ∧ r ≤ 31) ∨ (32 ≤ r ∧ r ≤ 126) ∨ (127 ≤ r ∧ r ≤ 159) ∨ (160 ≤ r ∧ r ≤ 8231) ∨ (8232 ≤ r ∧ r ≤ 8238) ∨ (8239 ≤ r ∧ r ≤ 8293) ∨ (8294 ≤ r ∧ r ≤ 8297) ∨ (8298 ≤ r ∧ r ≤ 57343) ∨ (57344 ≤ r ∧ r ≤ 63743) ∨ (63744 ≤ r ∧ r ≤ 64975) ∨ (64976 ≤ r ∧ r ≤ 65007) ∨ (65008 ≤ r ∧ r ≤ 65528) ∨ (65529 ≤ r ∧ r ≤ 65533) ∨ (65534 ≤ r ∧ r ≤ 983039) ∨ (983040 ≤ r ∧ r ≤ 1114111) by omega) with ⟨ha, hb⟩ | ⟨ha, hb⟩ | ⟨ha, hb⟩ | ⟨ha, hb⟩ | ⟨ha, hb⟩ | ⟨ha, hb⟩ | ⟨ha, hb⟩ | ⟨ha, hb⟩ | ⟨ha, hb⟩ | ⟨ha, hb⟩ | ⟨ha, hb⟩ | ⟨ha, hb⟩ | ⟨ha, hb⟩ | ⟨ha, hb⟩ | ⟨ha, hb⟩
  · have hv : baB r = true := by unfold baB coB diB pvB seB inB; rw [hm]; simp only [Bool.or_eq_true, Bool.and_eq_true, decide_eq_true_eq]; omega
    rw [hv]
    clear hv hm
    go_enter Tryd.func36, Tryd.ntmps36
    go_wp2_with fail
    go_ret
    refine ⟨congrArg (fun b => Ending.returned (Value.bool b)) ?_, rfl⟩
    first | rfl | exact decide_eq_true (by omega) | exact decide_eq_false (by omega) | (rw [Bool.or_eq_false_iff, decide_eq_false_iff_not, decide_eq_false_iff_not]; omega)
  · have hv : baB r = decide (65534 ≤ r % 65536) := by
      have q : (coB r || diB r || pvB r || inB r 65529 65533 || inB r 64976 65007) = false := by unfold coB diB pvB inB; simp only [Bool.or_eq_false_iff, Bool.and_eq_false_iff, decide_eq_false_iff_not]; omega
      unfold baB seB; rw [hm, ← Bool.or_assoc, ← Bool.or_assoc, q, Bool.false_or]
    rw [hv]
    clear hv hm
    go_enter Tryd.func36, Tryd.ntmps36
    go_wp2_with fail
    go_ret
    refine ⟨congrArg (fun b => Ending.returned (Value.bool b)) ?_, rfl⟩
    first | rfl | exact decide_eq_true (by omega) | exact decide_eq_false (by omega) | (rw [Bool.or_eq_false_iff, decide_eq_false_iff_not, decide_eq_false_iff_not]; omega)
  · have hv : baB r = true := by unfold baB coB diB pvB seB inB; rw [hm]; simp only [Bool.or_eq_true, Bool.and_eq_true, decide_eq_true_eq]; omega
    rw [hv]
    clear hv hm
    go_enter Tryd.func36, Tryd.ntmps36
    go_wp2_with fail
    go_ret
    refine ⟨congrArg (fun b => Ending.returned (Value.bool b)) ?_, rfl⟩
    first | rfl | exact decide_eq_true (by omega) | exact decide_eq_false (by omega) | (rw [Bool.or_eq_false_iff, decide_eq_false_iff_not, decide_eq_false_iff_not]; omega)
  · have hv : baB r = decide (65534 ≤ r % 65536) := by
      have q : (coB r || diB r || pvB r || inB r 65529 65533 || inB r 64976 65007) = false := by unfold coB diB pvB inB; simp only [Bool.or_eq_false_iff, Bool.and_eq_false_iff, decide_eq_false_iff_not]; omega
      unfold baB seB; rw [hm, ← Bool.or_assoc, ← Bool.or_assoc, q, Bool.false_or]
    rw [hv]
    clear hv hm
    go_enter Tryd.func36, Tryd.ntmps36
    go_wp2_with fail
    go_ret
    refine ⟨congrArg (fun b => Ending.returned (Value.bool b)) ?_, rfl⟩
    first | rfl | exact decide_eq_true (by omega) | exact decide_eq_false (by omega) | (rw [Bool.or_eq_false_iff, decide_eq_false_iff_not, decide_eq_false_iff_not]; omega)
  · have hv : baB r = true := by unfold baB coB diB pvB seB inB; rw [hm]; simp only [Bool.or_eq_true, Bool.and_eq_true, decide_eq_true_eq]; omega
    rw [hv]
    clear hv hm
    go_enter Tryd.func36, Tryd.ntmps36
    go_wp2_with fail
    go_ret
    refine ⟨congrArg (fun b => Ending.returned (Value.bool b)) ?_, rfl⟩
    first | rfl | exact decide_eq_true (by omega) | exact decide_eq_false (by omega) | (rw [Bool.or_eq_false_iff, decide_eq_false_iff_not, decide_eq_false_iff_not]; omega)
  · have hv : baB r = decide (65534 ≤ r % 65536) := by
      have q : (coB r || diB r || pvB r || inB r 65529 65533 || inB r 64976 65007) = false := by unfold coB diB pvB inB; simp only [Bool.or_eq_false_iff, Bool.and_eq_false_iff, decide_eq_false_iff_not]; omega
      unfold baB seB; rw [hm, ← Bool.or_assoc, ← Bool.or_assoc, q, Bool.false_or]
    rw [hv]
    clear hv hm
    go_enter Tryd.func36, Tryd.ntmps36
    go_wp2_with fail
    go_ret
    refine ⟨congrArg (fun b => Ending.returned (Value.bool b)) ?_, rfl⟩
    first | rfl | exact decide_eq_true (by omega) | exact decide_eq_false (by omega) | (rw [Bool.or_eq_false_iff, decide_eq_false_iff_not, decide_eq_false_iff_not]; omega)
  · have hv : baB r = true := by unfold baB coB diB pvB seB inB; rw [hm]; simp only [Bool.or_eq_true, Bool.and_eq_true, decide_eq_true_eq]; omega
    rw [hv]
    clear hv hm
    go_enter Tryd.func36, Tryd.ntmps36
    go_wp2_with fail
    go_ret
    refine ⟨congrArg (fun b => Ending.returned (Value.bool b)) ?_, rfl⟩
    first | rfl | exact decide_eq_true (by omega) | exact decide_eq_false (by omega) | (rw [Bool.or_eq_false_iff, decide_eq_false_iff_not, decide_eq_false_iff_not]; omega)
  · have hv : baB r = decide (65534 ≤ r % 65536) := by
      have q : (coB r || diB r || pvB r || inB r 65529 65533 || inB r 64976 65007) = false := by unfold coB diB pvB inB; simp only [Bool.or_eq_false_iff, Bool.and_eq_false_iff, decide_eq_false_iff_not]; omega
      unfold baB seB; rw [hm, ← Bool.or_assoc, ← Bool.or_assoc, q, Bool.false_or]
    rw [hv]
    clear hv hm
    go_enter Tryd.func36, Tryd.ntmps36
    go_wp2_with fail
    go_ret
    refine ⟨congrArg (fun b => Ending.returned (Value.bool b)) ?_, rfl⟩
    first | rfl | exact decide_eq_true (by omega) | exact decide_eq_false (by omega) | (rw [Bool.or_eq_false_iff, decide_eq_false_iff_not, decide_eq_false_iff_not]; omega)
  · have hv : baB r = true := by unfold baB coB diB pvB seB inB; rw [hm]; simp only [Bool.or_eq_true, Bool.and_eq_true, decide_eq_true_eq]; omega
    rw [hv]
    clear hv hm
    go_enter Tryd.func36, Tryd.ntmps36
    go_wp2_with fail
    go_ret
    refine ⟨congrArg (fun b => Ending.returned (Value.bool b)) ?_, rfl⟩
    first | rfl | exact decide_eq_true (by omega) | exact decide_eq_false (by omega) | (rw [Bool.or_eq_false_iff, decide_eq_false_iff_not, decide_eq_false_iff_not]; omega)
  · have hv : baB r = decide (65534 ≤ r % 65536) := by
      have q : (coB r || diB r || pvB r || inB r 65529 65533 || inB r 64976 65007) = false := by unfold coB diB pvB inB; simp only [Bool.or_eq_false_iff, Bool.and_eq_false_iff, decide_eq_false_iff_not]; omega
      unfold baB seB; rw [hm, ← Bool.or_assoc, ← Bool.or_assoc, q, Bool.false_or]
    rw [hv]
    clear hv hm
    go_enter Tryd.func36, Tryd.ntmps36
    go_wp2_with fail
    go_ret
    refine ⟨congrArg (fun b => Ending.returned (Value.bool b)) ?_, rfl⟩
    first | rfl | exact decide_eq_true (by omega) | exact decide_eq_false (by omega) | (rw [Bool.or_eq_false_iff, decide_eq_false_iff_not, decide_eq_false_iff_not]; omega)
  · have hv : baB r = true := by unfold baB coB diB pvB seB inB; rw [hm]; simp only [Bool.or_eq_true, Bool.and_eq_true, decide_eq_true_eq]; omega
    rw [hv]
    clear hv hm
    go_enter Tryd.func36, Tryd.ntmps36
    go_wp2_with fail
    go_ret
    refine ⟨congrArg (fun b => Ending.returned (Value.bool b)) ?_, rfl⟩
    first | rfl | exact decide_eq_true (by omega) | exact decide_eq_false (by omega) | (rw [Bool.or_eq_false_iff, decide_eq_false_iff_not, decide_eq_false_iff_not]; omega)
  · have hv : baB r = decide (65534 ≤ r % 65536) := by
      have q : (coB r || diB r || pvB r || inB r 65529 65533 || inB r 64976 65007) = false := by unfold coB diB pvB inB; simp only [Bool.or_eq_false_iff, Bool.and_eq_false_iff, decide_eq_false_iff_not]; omega
      unfold baB seB; rw [hm, ← Bool.or_assoc, ← Bool.or_assoc, q, Bool.false_or]
    rw [hv]
    clear hv hm
    go_enter Tryd.func36, Tryd.ntmps36
    go_wp2_with fail
    go_ret
    refine ⟨congrArg (fun b => Ending.returned (Value.bool b)) ?_, rfl⟩
    first | rfl | exact decide_eq_true (by omega) | exact decide_eq_false (by omega) | (rw [Bool.or_eq_false_iff, decide_eq_false_iff_not, decide_eq_false_iff_not]; omega)
  · have hv : baB r = true := by unfold baB coB diB pvB seB inB; rw [hm]; simp only [Bool.or_eq_true, Bool.and_eq_true, decide_eq_true_eq]; omega
    rw [hv]
    clear hv hm
    go_enter Tryd.func36, Tryd.ntmps36
    go_wp2_with fail
    go_ret
    refine ⟨congrArg (fun b => Ending.returned (Value.bool b)) ?_, rfl⟩
    first | rfl | exact decide_eq_true (by omega) | exact decide_eq_false (by omega) | (rw [Bool.or_eq_false_iff, decide_eq_false_iff_not, decide_eq_false_iff_not]; omega)
  · have hv : baB r = decide (65534 ≤ r % 65536) := by
      have q : (coB r || diB r || pvB r || inB r 65529 65533 || inB r 64976 65007) = false := by unfold coB diB pvB inB; simp only [Bool.or_eq_false_iff, Bool.and_eq_false_iff, decide_eq_false_iff_not]; omega
      unfold baB seB; rw [hm, ← Bool.or_assoc, ← Bool.or_assoc, q, Bool.false_or]
    rw [hv]
    clear hv hm
    go_enter Tryd.func36, Tryd.ntmps36
    go_wp2_with fail
    go_ret
    refine ⟨congrArg (fun b => Ending.returned (Value.bool b)) ?_, rfl⟩
    first | rfl | exact decide_eq_true (by omega) | exact decide_eq_false (by omega) | (rw [Bool.or_eq_false_iff, decide_eq_false_iff_not, decide_eq_false_iff_not]; omega)
  · have hv : baB r = true := by unfold baB coB diB pvB seB inB; rw [hm]; simp only [Bool.or_eq_true, Bool.and_eq_true, decide_eq_true_eq]; omega
    rw [hv]
    clear hv hm
    go_enter Tryd.func36, Tryd.ntmps36
    go_wp2_with fail
    go_ret
    refine ⟨congrArg (fun b => Ending.returned (Value.bool b)) ?_, rfl⟩
    first | rfl | exact decide_eq_true (by omega) | exact decide_eq_false (by omega) | (rw [Bool.or_eq_false_iff, decide_eq_false_iff_not, decide_eq_false_iff_not]; omega)
end Go.Proofs.YtpphccjpdkcnmaaDoor
