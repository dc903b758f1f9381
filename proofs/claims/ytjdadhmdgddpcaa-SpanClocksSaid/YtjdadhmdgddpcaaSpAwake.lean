/- span: Bound at any arguments; the document's examples. -/
import Derived.Test.YtjdadhmdgddpcaaSpBound
namespace Go.Proofs.Ytjdadhmdgddpcaa
open Go.RowKit
/-- What Bound answers. -/
def BoundAns (ticks base most n : Int) : Prop := 0 ≤ n ∧ (tI ticks = 0 → n = 0) ∧ (1 ≤ tI ticks → ∃ k : Nat, n = (k : Int) ∧ BoundIs (max base 1) (tI (max most 1)) (tI ticks) k)
theorem bound_any (ticks base most : Int) (w : World) (t0 : 0 ≤ ticks) (t1 : ticks < 18446744073709551616) (b0 : 0 ≤ base) (b1 : base < 18446744073709551616) (m0 : 0 ≤ most) (m1 : most < 18446744073709551616) :
    Calls Try.prog 17 #[u64v ticks, u64v base, u64v most] w fun e w' => ∃ n, e = .returned (u64v n) ∧ BoundAns ticks base most n ∧ Below w.heap.size w w' := by
  by_cases h : ticks = 0
  · subst h
    go_enter Try.func17, Try.ntmps17
    go_wp2_with fail
    refine bodyPost_ret (results_cell rfl _ _ _ _ _ rfl (fun w => rfl) (by go_simp)) rfl ⟨0, rfl, ⟨by omega, fun _ => rfl, fun h => absurd h (by rw [tI_def]; omega)⟩, ?_⟩
    exact ((Below.refl _ w).alloc (Nat.le_refl _) _).alloc (by simp) _
  · refine (bound_core ticks base most w (by omega) t1 b0 b1 m0 m1).mono ?_
    rintro e w' ⟨n, rfl, h2, h3⟩
    exact ⟨n, rfl, ⟨by omega, fun h4 => by rw [tI_def] at h4; omega, fun _ => ⟨n, rfl, h2⟩⟩, h3⟩
theorem awake_any (w : World) : Calls Try.prog 8 #[] w fun e w' => e = .returned (.bool true) ∧ Below w.heap.size w w' := by
  have e1 : wI 3 (tI 100) (exN 4) = 48 := by rw [tI_id (by omega), show exN 4 = 4 from rfl]; exact wait_eg.1
  have e2 : wI 3 (tI 40) (exN 4) = 40 := by rw [tI_id (by omega), show exN 4 = 4 from rfl]; exact wait_eg.2
  have H1 := Lib.hid e1; clear e1
  have H2 := Lib.hid e2; clear e2
  go_enter Try.func8, Try.ntmps8
  go_wp2_with fail
  refine (wait_any 3 100 4 w (by omega) (by omega) (by omega) (by omega) (by omega) (by omega)).mono ?_
  rintro e w1 ⟨rfl, rfl⟩
  rw [H1.out]
  go_wp2_with fail
  refine (wait_any 3 40 4 w1 (by omega) (by omega) (by omega) (by omega) (by omega) (by omega)).mono ?_
  rintro e w2 ⟨rfl, rfl⟩
  rw [H2.out]
  go_wp2_with fail
  refine (bound_any 10 1 100 w2 (by omega) (by omega) (by omega) (by omega) (by omega) (by omega)).mono ?_
  rintro e w3 ⟨n, rfl, ⟨_, _, hn⟩, hb⟩
  obtain ⟨k, rfl, hk⟩ := hn (by rw [tI_def]; omega)
  rw [tI_id (by omega), tI_id (by omega)] at hk
  obtain rfl := bound_ten k hk
  clear hn hk
  go_wp2_with fail
  go_ret
  exact ⟨rfl, hb⟩
end Go.Proofs.Ytjdadhmdgddpcaa
