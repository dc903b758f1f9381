/- Package span's plain functions, and the reference's. -/
import Derived.Test.YtnfkkopegbeacaaDoorSpNum
import Derived.Test.YtnfkkopegbeacaaDoorChecked
import Derived.WalkKit
import Derived.WalkSpells
import Derived.WalkLawsBesides
import Derived.Lib.Hide
namespace Go.Proofs.YtnfkkopegbeacaaDoor
open Go.RowKit
abbrev u64v (n : Int) : Value := .int .u64 n
theorem ret_i {k : IntKind} {a b : Int} (h : a = b) : Ending.returned (.int k a) = .returned (.int k b) := by rw [h]
set_option maxRecDepth 100000 in
theorem tick_any (n : Int) (w : World) (h0 : 0 ≤ n) (h1 : n < 18446744073709551616) : Calls Tryd.prog 28 #[u64v n] w fun e w' => e = .returned (u64v (tI n)) ∧ w' = w := by
  go_enter Tryd.func28, Tryd.ntmps28
  go_wp2_with fail
  all_goals
    go_ret
    exact ⟨ret_i (by rw [tI_def]; omega), rfl⟩
set_option maxRecDepth 100000 in
theorem refTick_any (n : Int) (w : World) (h0 : 0 ≤ n) (h1 : n < 18446744073709551616) : Calls Tryd.prog 27 #[u64v n] w fun e w' => e = .returned (u64v (tI n)) ∧ w' = w := by
  by_cases h : n ≤ 1099511627776
  · go_enter Tryd.func27, Tryd.ntmps27
    go_wp2_with fail
    go_ret
    exact ⟨ret_i (tI_id h).symm, rfl⟩
  · have e : tI n = 1099511627776 := by rw [tI_def]; omega
    rw [e]
    go_enter Tryd.func27, Tryd.ntmps27
    go_wp2_with fail
    go_ret
    exact ⟨rfl, rfl⟩
set_option maxRecDepth 100000 in
theorem double_any (n m : Int) (w : World) (n0 : 0 ≤ n) (n1 : n < 18446744073709551616) (m0 : 0 ≤ m) (m1 : m ≤ 1099511627776) : Calls Tryd.prog 39 #[u64v n, u64v m] w fun e w' => e = .returned (u64v (min (2 * min n m) m)) ∧ w' = w := by
  have h2 : 2 * min n m % 18446744073709551616 = 2 * min n m := by omega
  go_enter Tryd.func39, Tryd.ntmps39
  go_wp2_with fail
  all_goals
    go_ret
    exact ⟨ret_i (by omega), rfl⟩
/-- The exponent that a number of failures stands for. -/
abbrev exN (k : Int) : Nat := k.toNat
set_option maxRecDepth 100000 in
set_option maxHeartbeats 1000000 in
theorem wait_any (b m k : Int) (w : World) (b0 : 0 ≤ b) (b1 : b < 18446744073709551616) (m0 : 0 ≤ m) (m1 : m < 18446744073709551616) (k0 : -9223372036854775808 ≤ k) (k1 : k ≤ 9223372036854775807) :
    Calls Tryd.prog 25 #[u64v b, u64v m, .int .i64 k] w fun e w' => e = .returned (u64v (wI b (tI m) (exN k))) ∧ w' = w := by
  obtain ⟨M, hM⟩ : ∃ M, M = tI m := ⟨_, rfl⟩
  have hr := tI_range m0
  rw [← hM] at hr ⊢
  go_enter Tryd.func25, Tryd.ntmps25
  go_wp2_with fail
  refine (tick_any m w m0 m1).mono ?_
  rintro e w1 ⟨rfl, rfl⟩
  rw [← hM]
  clear hM
  go_wp2_with fail
  all_goals
    go_loopw [2, 7] (fun kk x wr => ∃ j : Nat, (j : Int) ≤ max k 0 ∧ kk = .int .i64 (k - j) ∧ x = u64v (wI b M j) ∧ wr = w1) (fun kk _ _ => (intOf kk).toNat)
    case atStart => exact ⟨0, by omega, by simp, congrArg u64v (by rw [wI_zero]; omega), rfl⟩
    case round =>
      obtain ⟨j, hj, rfl, rfl, rfl⟩ := hrel
      have hx0 := wI_nonneg (b := b) (m := M) b0 (by omega) j
      have hx1 := wI_le (b := b) (m := M) j
      obtain ⟨x, hx⟩ : ∃ x, x = wI b M j := ⟨_, rfl⟩
      rw [← hx] at hx0 hx1 ⊢
      by_cases h : 0 < x ∧ x < M ∧ 0 < k - j
      · obtain ⟨h1, h2, h3⟩ := h
        have Hx := Lib.hid hx; clear hx
        go_wp2_with fail
        refine (double_any x M wr hx0 (by omega) (by omega) (by omega)).mono ?_
        rintro e w2 ⟨rfl, rfl⟩
        go_wp2_with fail
        go_roundw
        case rel => exact ⟨j + 1, by omega, by go_num, by rw [wI_succ (by omega), ← Hx.out, show min x M = x by omega], by first | rfl | trivial⟩
        case measure => simp [intOf]; omega
      · have hend : x = wI b M (exN k) := by
          rw [hx]
          by_cases h3 : 0 < k - j
          · have e : exN k = j + (k.toNat - j) := by unfold exN; omega
            rw [e]
            by_cases h1 : 0 < x
            · have h2 : x = M := by omega
              rw [wI_stuck b0 (by omega) (by rw [← hx]; exact h2)]
              rw [← hx]; exact h2
            · by_cases hM0 : M = 0
              · rw [hM0] at hx ⊢
                have a := wI_le (b := b) (m := 0) j
                have b' := wI_nonneg (b := b) (m := 0) b0 (by omega) j
                have c := wI_le (b := b) (m := 0) (j + (k.toNat - j))
                have d := wI_nonneg (b := b) (m := 0) b0 (by omega) (j + (k.toNat - j))
                omega
              · by_cases hb : 1 ≤ b
                · have := wI_pos (b := b) (m := M) hb (by omega) j; omega
                · have hb0 : b = 0 := by omega
                  rw [hb0, wI_none (by omega), wI_none (by omega)]
          · rw [show exN k = j by unfold exN; omega]
        have Hx := Lib.hid hend; clear hend hx
        by_cases h1 : 0 < x
        · by_cases h2 : x < M
          · go_wp2_with fail
            go_ret
            exact ⟨ret_i Hx.out, rfl⟩
          · go_wp2_with fail
            go_ret
            exact ⟨ret_i Hx.out, rfl⟩
        · go_wp2_with fail
          go_ret
          exact ⟨ret_i Hx.out, rfl⟩
set_option maxRecDepth 100000 in
set_option maxHeartbeats 1000000 in
theorem refWait_any (b m k : Int) (w : World) (b0 : 0 ≤ b) (b1 : b < 18446744073709551616) (m0 : 0 ≤ m) (m1 : m < 18446744073709551616) (k0 : -9223372036854775808 ≤ k) (k1 : k ≤ 9223372036854775807) :
    Calls Tryd.prog 11 #[u64v b, u64v m, .int .i64 k] w fun e w' => e = .returned (u64v (wI b (tI m) (exN k))) ∧ w' = w := by
  obtain ⟨M, hM⟩ : ∃ M, M = tI m := ⟨_, rfl⟩
  have hr := tI_range m0
  have hMm := fun w1 => refTick_any m w1 m0 m1
  rw [← hM] at hr ⊢
  obtain ⟨B, hB⟩ : ∃ B, B = tI b := ⟨_, rfl⟩
  have hrb := tI_range b0
  have htb := tI_def b
  rw [← hB] at hrb htb
  have HTB := Lib.hid htb; clear htb
  go_enter Tryd.func11, Tryd.ntmps11
  go_wp2_with fail
  refine (refTick_any b w b0 b1).mono ?_
  rintro e w1 ⟨rfl, rfl⟩
  rw [← hB]
  rw [← hM] at hMm
  clear hM hB
  have HM := Lib.hid hMm; clear hMm
  go_wp2_with fail
  go_loopw [7, 8] (fun x i wr => ∃ j : Nat, (j : Int) ≤ max k 0 ∧ j ≤ 60 ∧ i = .int .i64 j ∧ x = u64v (wI b 1099511627776 j) ∧ wr = w1) (fun _ i _ => 100 - (intOf i).toNat)
  case atStart => exact ⟨0, by omega, by omega, by simp, congrArg u64v (by rw [wI_zero]; exact HTB.out), rfl⟩
  case round =>
    obtain ⟨j, hj, hj6, rfl, rfl, rfl⟩ := hrel
    have hx0 := wI_nonneg (b := b) (m := 1099511627776) b0 (by omega) j
    have hx1 := wI_le (b := b) (m := 1099511627776) j
    obtain ⟨x, hx⟩ : ∃ x, x = wI b 1099511627776 j := ⟨_, rfl⟩
    rw [← hx] at hx0 hx1 ⊢
    by_cases h : (j : Int) < k ∧ j < 60 ∧ x < 1099511627776
    · obtain ⟨h1, h2, h3⟩ := h
      have Hx := Lib.hid hx; clear hx
      go_wp2_with fail
      have e2 : 2 * x % 18446744073709551616 = 2 * x := by omega
      refine (refTick_any (2 * x) wr (by omega) (by omega)).mono ?_
      rintro e w2 ⟨rfl, rfl⟩
      go_wp2_with fail
      go_roundw
      case rel => exact ⟨j + 1, by omega, by omega, by go_num, by rw [wI_succ (by omega), ← Hx.out, tI_def], by first | rfl | trivial⟩
      case measure => simp [intOf]; omega
    · have hend : min x M = wI b M (exN k) := by
        rw [hx, wI_min (by omega)]
        by_cases h3 : (j : Int) < k
        · have e : exN k = j + (k.toNat - j) := by unfold exN; omega
          by_cases hx2 : x = 1099511627776
          · have h1 : wI b M j = M := by rw [← wI_min (b := b) (m := M) (c := 1099511627776) (by omega), ← hx]; omega
            rw [e, wI_stuck b0 (by omega) h1, h1]
          · by_cases hb : 1 ≤ b
            · rw [e, wI_big hb (by omega) (by omega) (by omega), wI_big hb (by omega) (by omega) (by omega)]
            · have hb0 : b = 0 := by omega
              rw [hb0, wI_none (by omega), wI_none (by omega)]
        · rw [show exN k = j by unfold exN; omega]
      have Hx := Lib.hid hend; clear hend hx
      have hfin : ∀ W, (Calls Tryd.prog 27 #[u64v m] W fun e w' => e = .returned (u64v M) ∧ w' = W) := HM.out
      by_cases h1 : (j : Int) < k
      · by_cases h2 : j < 60
        · have h3 : x = 1099511627776 := by omega
          subst h3
          by_cases hxm : M < 1099511627776
          all_goals
            go_wp2_with fail
            refine (HM.out _).mono ?_
            rintro e w2 ⟨rfl, rfl⟩
            go_wp2_with fail
          · refine (HM.out _).mono ?_
            rintro e w3 ⟨rfl, rfl⟩
            go_wp2_with fail
            go_ret
            exact ⟨ret_i (by rw [← Hx.out]; omega), rfl⟩
          · go_ret
            exact ⟨ret_i (by rw [← Hx.out]; omega), rfl⟩
        · by_cases hxm : M < x
          all_goals
            go_wp2_with fail
            refine (HM.out _).mono ?_
            rintro e w2 ⟨rfl, rfl⟩
            go_wp2_with fail
          · refine (HM.out _).mono ?_
            rintro e w3 ⟨rfl, rfl⟩
            go_wp2_with fail
            go_ret
            exact ⟨ret_i (by rw [← Hx.out]; omega), rfl⟩
          · go_ret
            exact ⟨ret_i (by rw [← Hx.out]; omega), rfl⟩
      · by_cases hxm : M < x
        all_goals
          go_wp2_with fail
          refine (HM.out _).mono ?_
          rintro e w2 ⟨rfl, rfl⟩
          go_wp2_with fail
        · refine (HM.out _).mono ?_
          rintro e w3 ⟨rfl, rfl⟩
          go_wp2_with fail
          go_ret
          exact ⟨ret_i (by rw [← Hx.out]; omega), rfl⟩
        · go_ret
          exact ⟨ret_i (by rw [← Hx.out]; omega), rfl⟩
end Go.Proofs.YtnfkkopegbeacaaDoor
