/- The small functions on words: what they compute, as bit vectors. -/
import Derived.Test.YtlnjpmpddomjiaaGreatDoorRows
import Derived.Test.YtlnjpmpddomjiaaGreatDoorGmMgA
import Derived.Deep.QuietTactic
import Derived.BigQuiet
namespace Go.Proofs.YtlnjpmpddomjiaaGreatDoor
open Go.RowKit
attribute [local go_sem] bv_and bv_or bv_xor bv_not bv_add bv_shr3 bv_shr10

theorem choose_any (x y z : BitVec 32) (w : World) : Calls Tryz.prog 97 #[vw x, vw y, vw z] w fun e w' => e = .returned (vw (choose x y z)) ∧ w = w' := by
  go_enter Tryz.func97, Tryz.ntmps97
  go_wp2
  go_ret
  exact ⟨rfl, rfl⟩
theorem majority_any (x y z : BitVec 32) (w : World) : Calls Tryz.prog 99 #[vw x, vw y, vw z] w fun e w' => e = .returned (vw (majority x y z)) ∧ w = w' := by
  go_enter Tryz.func99, Tryz.ntmps99
  go_wp2
  go_ret
  exact ⟨rfl, rfl⟩
theorem rot_any (x : BitVec 32) (k : Int) (n : Nat) (hn : n < 32) (hn0 : 0 < n) (hk : bits .and .u64 (IntKind.u64.wrap k) 31 = ((32 - n : Nat) : Int)) (w : World) : Calls Tryz.prog 120 #[vw x, .int .i64 k] w fun e w' => e = .returned (vw (x.rotateRight n)) ∧ w = w' := by
  have e2 : IntKind.u64.wrap (32 - ((32 - n : Nat) : Int)) = (n : Int) := by rw [IntKind.wrap_u64]; omega
  have h1 := shift_shl_wn x (32 - n) (by omega) .u64
  have h2 := shift_shr_wn x n (by omega) .u64
  have h3 := bv_rotl x n hn
  go_enter Tryz.func120, Tryz.ntmps120
  go_wp2
  go_ret
  exact ⟨by show Ending.returned (.int .u32 (bits .or .u32 (wn x * 2 ^ (32 - n) % 4294967296) (wn x / 2 ^ n))) = _; rw [bv_shl', bv_shr, bv_or, h3], rfl⟩
theorem bigSigma0_any (x : BitVec 32) (w : World) : Calls Tryz.prog 98 #[vw x] w fun e w' => e = .returned (vw (bigSigma0 x)) ∧ w = w' := by
  go_enter Tryz.func98, Tryz.ntmps98
  go_wp2_with fail
  refine (rot_any x (-2) 2 (by decide) (by decide) (by decide) _).mono ?_; rintro e w' ⟨rfl, rfl⟩
  go_wp2_with fail
  refine (rot_any x (-13) 13 (by decide) (by decide) (by decide) _).mono ?_; rintro e w' ⟨rfl, rfl⟩
  go_wp2_with fail
  refine (rot_any x (-22) 22 (by decide) (by decide) (by decide) _).mono ?_; rintro e w' ⟨rfl, rfl⟩
  go_wp2_with fail
  go_ret
  exact ⟨rfl, rfl⟩
theorem bigSigma1_any (x : BitVec 32) (w : World) : Calls Tryz.prog 96 #[vw x] w fun e w' => e = .returned (vw (bigSigma1 x)) ∧ w = w' := by
  go_enter Tryz.func96, Tryz.ntmps96
  go_wp2_with fail
  refine (rot_any x (-6) 6 (by decide) (by decide) (by decide) _).mono ?_; rintro e w' ⟨rfl, rfl⟩
  go_wp2_with fail
  refine (rot_any x (-11) 11 (by decide) (by decide) (by decide) _).mono ?_; rintro e w' ⟨rfl, rfl⟩
  go_wp2_with fail
  refine (rot_any x (-25) 25 (by decide) (by decide) (by decide) _).mono ?_; rintro e w' ⟨rfl, rfl⟩
  go_wp2_with fail
  go_ret
  exact ⟨rfl, rfl⟩
theorem smallSigma0_any (x : BitVec 32) (w : World) : Calls Tryz.prog 118 #[vw x] w fun e w' => e = .returned (vw (smallSigma0 x)) ∧ w = w' := by
  go_enter Tryz.func118, Tryz.ntmps118
  go_wp2_with fail
  refine (rot_any x (-7) 7 (by decide) (by decide) (by decide) _).mono ?_; rintro e w' ⟨rfl, rfl⟩
  go_wp2_with fail
  refine (rot_any x (-18) 18 (by decide) (by decide) (by decide) _).mono ?_; rintro e w' ⟨rfl, rfl⟩
  go_wp2_with fail
  go_ret
  exact ⟨rfl, rfl⟩
theorem smallSigma1_any (x : BitVec 32) (w : World) : Calls Tryz.prog 119 #[vw x] w fun e w' => e = .returned (vw (smallSigma1 x)) ∧ w = w' := by
  go_enter Tryz.func119, Tryz.ntmps119
  go_wp2_with fail
  refine (rot_any x (-17) 17 (by decide) (by decide) (by decide) _).mono ?_; rintro e w' ⟨rfl, rfl⟩
  go_wp2_with fail
  refine (rot_any x (-19) 19 (by decide) (by decide) (by decide) _).mono ?_; rintro e w' ⟨rfl, rfl⟩
  go_wp2_with fail
  go_ret
  exact ⟨rfl, rfl⟩
theorem word_any (b o n cap : Nat) (c0 c1 c2 c3 : UInt8) (w : World) (h0 : w.cell? ⟨b, o, none⟩ = some (vb c0)) (h1 : w.cell? ⟨b, o + 1, none⟩ = some (vb c1)) (h2 : w.cell? ⟨b, o + 2, none⟩ = some (vb c2)) (h3 : w.cell? ⟨b, o + 3, none⟩ = some (vb c3)) (hn : 4 ≤ n) (hn1 : n ≤ 9223372036854775807) :
    Calls Tryz.prog 117 #[.slice (some ⟨b, o, none⟩) n cap] w fun e w' => e = .returned (vw (word4 c0 c1 c2 c3)) ∧ ∃ k, w' = w.drewN k := by
  have e0 : (0 : Int) < (n : Int) := by omega
  have e1 : (1 : Int) < (n : Int) := by omega
  have e2 : (2 : Int) < (n : Int) := by omega
  have e3 : (3 : Int) < (n : Int) := by omega
  go_enter Tryz.func117, Tryz.ntmps117
  go_wp2_with fail
  go_quiet (fail)
  go_wp2
  go_ret
  exact ⟨(ret_int (by simp only [bn_mod, bv_shl8, bv_shl16, bv_shl24, bv_or]; unfold word4; rfl) : _ = Ending.returned (vw (word4 c0 c1 c2 c3))), _, rfl⟩
end Go.Proofs.YtlnjpmpddomjiaaGreatDoor
