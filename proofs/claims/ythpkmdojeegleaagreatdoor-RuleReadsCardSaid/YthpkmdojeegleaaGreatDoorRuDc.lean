/- The reference's Dec. -/
import Derived.Test.YthpkmdojeegleaaGreatDoorStrI
import Derived.Test.YthpkmdojeegleaaGreatDoorDecL
import Derived.Test.YthpkmdojeegleaaGreatDoorRuVa
set_option maxRecDepth 100000
namespace Go.Proofs.YthpkmdojeegleaaGreatDoor
open Go.RowKit Go.Shelf
attribute [local go_sem] Oper.semAt_some
theorem dec_sign (m : Nat) (h : m < 10) (W : World) : (Instr.slice 9 (str [48, 49, 50, 51, 52, 53, 54, 55, 56, 57]) (some (.int .u64 (m : Int))) (some (.int .u64 ((m : Int) + 1))) none).run Tryz.prog W = .ok (str [UInt8.ofNat (48 + m)]) W := by
  rcases (show m = 0 ∨ m = 1 ∨ m = 2 ∨ m = 3 ∨ m = 4 ∨ m = 5 ∨ m = 6 ∨ m = 7 ∨ m = 8 ∨ m = 9 by omega) with rfl | rfl | rfl | rfl | rfl | rfl | rfl | rfl | rfl | rfl <;> go_simp <;> rfl
set_option maxHeartbeats 2000000 in
theorem refDec_any (n : Nat) (w : World) (hn : n ≤ 9223372036854775807) :
    Calls Tryz.prog 35 #[.int .u64 (n : Int)] w fun e w' => e = .returned (str (Lib.decDigits n)) ∧ Below w.heap.size w w' := by
  obtain ⟨R, hR⟩ : ∃ R, R = Lib.decDigits n := ⟨_, rfl⟩
  rw [← hR]
  have hRl : R.length ≤ 19 := by rw [hR, Lib.decDigits_length]; exact nDigits_le n 18 (by omega)
  have HR := Lib.hid hR; clear hR
  go_enter Tryz.func35, Tryz.ntmps35
  go_wp2_with fail
  go_loop [0, 3] (fun a s => ∃ (k : Nat) (l : List UInt8), k ≤ 9223372036854775807 ∧ a = .int .u64 (k : Int) ∧ s = str l ∧ Lib.decDigits k ++ l = R) (fun a _ => (intOf a).toNat)
  case atStart => exact ⟨n, [], hn, rfl, rfl, by rw [List.append_nil, HR.out]⟩
  case round =>
    obtain ⟨k, l, hk, rfl, rfl, hl⟩ := hrel
    have hll : l.length ≤ 19 := by
      have := congrArg List.length hl
      rw [List.length_append] at this
      omega
    obtain ⟨q, hq⟩ : ∃ q, q = k / 10 := ⟨_, rfl⟩
    obtain ⟨m, hm⟩ : ∃ m, m = k % 10 := ⟨_, rfl⟩
    have hm10 : m < 10 := by omega
    have hkq : k = 10 * q + m := by omega
    have e1 : (k : Int) % 10 = (m : Int) := by omega
    have e2 : (k : Int) / 10 = (q : Int) := by omega
    have hs := dec_sign m hm10 w
    have hstep : k < 10 → l = l ∧ UInt8.ofNat (48 + m) :: l = R := fun h => ⟨rfl, by
      rw [← hl, Lib.decDigits_one h, show m = k by omega]; rfl⟩
    have hmore : ¬ k < 10 → Lib.decDigits q ++ UInt8.ofNat (48 + m) :: l = R := fun h => by
      have hd : Lib.decDigits k = Lib.decDigits q ++ [UInt8.ofNat (48 + m)] := by
        rw [Lib.decDigits, dif_neg h, hq, hm]
      rw [← hl, hd]; simp
    have HST := Lib.hid hstep
    have HMO := Lib.hid hmore
    clear hstep hmore hl hq hm
    obtain ⟨c, hc⟩ : ∃ c, c = UInt8.ofNat (48 + m) := ⟨_, rfl⟩
    rw [← hc] at hs HST HMO
    clear hc
    by_cases h10 : k < 10
    · obtain rfl : q = 0 := by omega
      have e0 : ((0 : Nat) : Int) = 0 := rfl
      rw [e0] at e2
      have HE := Lib.hid (HST.out h10).2
      clear hkq HMO HST
      go_wp2_with fail
      go_ret
      exact ⟨by rw [← HE.out]; rfl, Below.refl _ _⟩
    · have hq0 : ((q : Int) == 0) = false := by rw [beq_eq_false_iff_ne]; omega
      have hqk : q < k := by omega
      have HE := Lib.hid (HMO.out h10)
      have hq9 : q ≤ 9223372036854775807 := by omega
      clear hkq HMO HST
      go_wp2_with fail
      go_round
      case rel => exact ⟨q, c :: l, by omega, rfl, rfl, HE.out⟩
      case measure => simp [intOf]; omega
end Go.Proofs.YthpkmdojeegleaaGreatDoor
