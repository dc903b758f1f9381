/- slices.Equal over the reference's rules. -/
import Derived.Test.YthpkmdojeegleaaGreatDoorRuRw
set_option maxRecDepth 100000
namespace Go.Proofs.YthpkmdojeegleaaGreatDoor
open Go.RowKit Go.Shelf
attribute [local go_sem] Oper.semAt_some
set_option maxHeartbeats 1000000 in
theorem equalRf_same (B : Nat) (v u : Value) (xs : List RuL) (w : World) (hv : RlIn w B v xs) (hu : RlIn w B u xs) (hB : B ≤ w.heap.size) (hl : xs.length ≤ 5000) :
    Calls Tryz.prog 10 #[v, u] w fun e w' => e = .returned (.bool true) ∧ Below w.heap.size w w' := by
  have HV := Lib.hid hv
  have HU := Lib.hid hu
  obtain ⟨A, c, rfl, _⟩ := hv
  obtain ⟨A2, c2, rfl, _⟩ := hu
  go_enter Tryz.func10, Tryz.ntmps10
  go_wp2_with fail
  go_loopw [13] (fun i wr => ∃ k : Nat, k ≤ xs.length ∧ i = .int .i64 (k : Int) ∧ Below w.heap.size w wr) (fun i _ => xs.length - (intOf i).toNat)
  case atStart => exact ⟨0, by omega, rfl, Below.refl _ _⟩
  case round =>
    obtain ⟨k, hk, rfl, hb⟩ := hrel
    by_cases hlt : k < xs.length
    · obtain ⟨g, o, rfl, hgl, e0, e1, e2, e3, e4, e5⟩ := (HV.out.below hb hB).six k hlt
      obtain ⟨g2, o2, rfl, hgl2, f0, f1, f2, f3, f4, f5⟩ := (HU.out.below hb hB).six k hlt
      obtain ⟨x, hx⟩ : ∃ x, x = xs[k] := ⟨_, rfl⟩
      rw [← hx] at e0 e1 e2 e3 e4 e5 f0 f1 f2 f3 f4 f5
      clear hx
      obtain ⟨al, ro, te, ho, fr, ti⟩ := x
      simp only at e0 e1 e2 e3 e4 e5 f0 f1 f2 f3 f4 f5
      have HB := Lib.hid hb
      clear hb
      go_wp2_with fail
      go_quiet (fail)
      go_wp2_with fail
      go_roundw
      case rel => exact ⟨k + 1, by omega, by go_num, below_drewN HB.out _⟩
      case measure => simp [intOf]; omega
    · obtain rfl : k = xs.length := by omega
      have HB := Lib.hid hb
      go_wp2_with fail
      go_ret
      exact ⟨rfl, HB.out⟩
end Go.Proofs.YthpkmdojeegleaaGreatDoor
