/- The reference's Plain. -/
import Derived.Test.YthpkmdojeegleaaGreatDoorRuPlain
namespace Go.Proofs.YthpkmdojeegleaaGreatDoor
open Go.RowKit Go.Shelf
section
set_option maxRecDepth 100000
set_option maxHeartbeats 4000000 in
theorem refPlain_any (s : List UInt8) (w : World) (hs : s.length ≤ 100000) : Calls Tryz.prog 56 #[str s] w fun e w' => e = .returned (.bool (plainL s)) ∧ w = w' := by
  have hp : plainL s = (s.all plB && decide (1 ≤ s.length) && decide (s.length ≤ 32)) := rfl
  obtain ⟨P, hP⟩ : ∃ P, P = plainL s := ⟨_, rfl⟩
  rw [← hP] at hp ⊢
  clear hP
  have HP := Lib.hid hp; clear hp
  go_enter Tryz.func56, Tryz.ntmps56
  go_wp2_with fail
  go_loop [3] (fun i => ∃ k : Nat, k ≤ s.length ∧ i = .int .i64 (k : Int) ∧ (s.take k).all plB = true) (fun i => s.length - (intOf i).toNat)
  case atStart => exact ⟨0, by omega, rfl, rfl⟩
  case round =>
    obtain ⟨k, hk, rfl, hall⟩ := hrel
    by_cases hlt : k < s.length
    · have hik : (Instr.index 9 (str s) (.int .i64 (k : Int))).run Tryz.prog w = .ok (vb (s.getD k 0)) w := str_index s k hlt w
      have hts := take_snoc s k hlt
      have hgx : s.getD k 0 = s[k] := by rw [List.getD_eq_getElem?_getD, List.getElem?_eq_getElem hlt]; rfl
      rw [← hgx] at hts
      have hmem : s.getD k 0 ∈ s := by rw [hgx]; exact List.getElem_mem hlt
      obtain ⟨x, hx⟩ : ∃ x, x = s.getD k 0 := ⟨_, rfl⟩
      rw [← hx] at hik hts hmem
      clear hx hgx
      have hyes : plB x = true → (s.take (k + 1)).all plB = true := fun e => by rw [hts, List.all_append, hall]; simp [e]
      have hno : plB x = false → P = false := fun e => by
        rw [HP.out]
        have : s.all plB = false := by
          rw [← Bool.not_eq_true]
          intro h
          rw [List.all_eq_true] at h
          have := h x hmem
          rw [e] at this
          exact absurd this (by decide)
        rw [this]; rfl
      have HYES := Lib.hid hyes
      have HNO := Lib.hid hno
      have hlx := x.toNat_lt
      clear hts hmem hall hyes hno
      have hpx : plB x = ((decide (97 ≤ x.toNat) && decide (x.toNat ≤ 122)) || (decide (48 ≤ x.toNat) && decide (x.toNat ≤ 57)) || x.toNat == 45 || x.toNat == 95) := rfl
      have hv : vb x = .int .u8 (x.toNat : Int) := rfl
      rw [hv] at hik
      obtain ⟨X, hX⟩ : ∃ X, X = x.toNat := ⟨_, rfl⟩
      rw [← hX] at hik hlx hpx
      obtain ⟨pb, hpb⟩ : ∃ pb, pb = plB x := ⟨_, rfl⟩
      rw [← hpb] at hpx HYES HNO
      clear hv hX hpb
      rcases (show (0 ≤ X ∧ X ≤ 44) ∨ (45 ≤ X ∧ X ≤ 45) ∨ (46 ≤ X ∧ X ≤ 47) ∨ (48 ≤ X ∧ X ≤ 57) ∨ (58 ≤ X ∧ X ≤ 94) ∨ (95 ≤ X ∧ X ≤ 95) ∨ (96 ≤ X ∧ X ≤ 96) ∨ (97 ≤ X ∧ X ≤ 122) ∨ (123 ≤ X ∧ X ≤ 255) by omega) with ⟨hr1, hr2⟩ | ⟨hr1, hr2⟩ | ⟨hr1, hr2⟩ | ⟨hr1, hr2⟩ | ⟨hr1, hr2⟩ | ⟨hr1, hr2⟩ | ⟨hr1, hr2⟩ | ⟨hr1, hr2⟩ | ⟨hr1, hr2⟩
      · have hpv : pb = false := by rw [hpx]; simp only [Bool.or_eq_false_iff, Bool.and_eq_false_iff, decide_eq_false_iff_not, beq_eq_false_iff_ne, ne_eq]; omega
        subst hpv
        have e45 : ((X : Int) == 45) = false := by rw [beq_eq_false_iff_ne]; omega
        have e95 : ((X : Int) == 95) = false := by rw [beq_eq_false_iff_ne]; omega
        have g1 : (0 : Int) ≤ (X : Int) := by omega
        have g2 : (X : Int) ≤ 44 := by omega
        clear hpx
        obtain rfl := HNO.out rfl
        go_wp2_with fail
        go_ret
        exact ⟨rfl, rfl⟩
      · have hpv : pb = true := by rw [hpx]; simp only [Bool.or_eq_true, Bool.and_eq_true, decide_eq_true_eq, beq_iff_eq]; omega
        subst hpv
        obtain rfl : X = 45 := by omega
        have eX : ((45 : Nat) : Int) = 45 := rfl
        rw [eX] at hik
        clear hr1 hr2 eX hpx
        go_wp2_with fail
        go_round
        case rel => exact ⟨k + 1, by omega, by go_num, HYES.out rfl⟩
        case measure => simp [intOf]; omega
      · have hpv : pb = false := by rw [hpx]; simp only [Bool.or_eq_false_iff, Bool.and_eq_false_iff, decide_eq_false_iff_not, beq_eq_false_iff_ne, ne_eq]; omega
        subst hpv
        have e45 : ((X : Int) == 45) = false := by rw [beq_eq_false_iff_ne]; omega
        have e95 : ((X : Int) == 95) = false := by rw [beq_eq_false_iff_ne]; omega
        have g1 : (46 : Int) ≤ (X : Int) := by omega
        have g2 : (X : Int) ≤ 47 := by omega
        clear hpx
        obtain rfl := HNO.out rfl
        go_wp2_with fail
        go_ret
        exact ⟨rfl, rfl⟩
      · have hpv : pb = true := by rw [hpx]; simp only [Bool.or_eq_true, Bool.and_eq_true, decide_eq_true_eq, beq_iff_eq]; omega
        subst hpv
        have e45 : ((X : Int) == 45) = false := by rw [beq_eq_false_iff_ne]; omega
        have e95 : ((X : Int) == 95) = false := by rw [beq_eq_false_iff_ne]; omega
        have g1 : (48 : Int) ≤ (X : Int) := by omega
        have g2 : (X : Int) ≤ 57 := by omega
        clear hpx
        go_wp2_with fail
        go_round
        case rel => exact ⟨k + 1, by omega, by go_num, HYES.out rfl⟩
        case measure => simp [intOf]; omega
      · have hpv : pb = false := by rw [hpx]; simp only [Bool.or_eq_false_iff, Bool.and_eq_false_iff, decide_eq_false_iff_not, beq_eq_false_iff_ne, ne_eq]; omega
        subst hpv
        have e45 : ((X : Int) == 45) = false := by rw [beq_eq_false_iff_ne]; omega
        have e95 : ((X : Int) == 95) = false := by rw [beq_eq_false_iff_ne]; omega
        have g1 : (58 : Int) ≤ (X : Int) := by omega
        have g2 : (X : Int) ≤ 94 := by omega
        have d57 : decide ((X : Int) ≤ 57) = false := decide_eq_false (by omega)
        clear hpx
        obtain rfl := HNO.out rfl
        go_wp2_with fail
        go_ret
        exact ⟨rfl, rfl⟩
      · have hpv : pb = true := by rw [hpx]; simp only [Bool.or_eq_true, Bool.and_eq_true, decide_eq_true_eq, beq_iff_eq]; omega
        subst hpv
        obtain rfl : X = 95 := by omega
        have eX : ((95 : Nat) : Int) = 95 := rfl
        rw [eX] at hik
        clear hr1 hr2 eX hpx
        go_wp2_with fail
        go_round
        case rel => exact ⟨k + 1, by omega, by go_num, HYES.out rfl⟩
        case measure => simp [intOf]; omega
      · have hpv : pb = false := by rw [hpx]; simp only [Bool.or_eq_false_iff, Bool.and_eq_false_iff, decide_eq_false_iff_not, beq_eq_false_iff_ne, ne_eq]; omega
        subst hpv
        obtain rfl : X = 96 := by omega
        have eX : ((96 : Nat) : Int) = 96 := rfl
        rw [eX] at hik
        clear hr1 hr2 eX hpx
        obtain rfl := HNO.out rfl
        go_wp2_with fail
        go_ret
        exact ⟨rfl, rfl⟩
      · have hpv : pb = true := by rw [hpx]; simp only [Bool.or_eq_true, Bool.and_eq_true, decide_eq_true_eq, beq_iff_eq]; omega
        subst hpv
        have e45 : ((X : Int) == 45) = false := by rw [beq_eq_false_iff_ne]; omega
        have e95 : ((X : Int) == 95) = false := by rw [beq_eq_false_iff_ne]; omega
        have g1 : (97 : Int) ≤ (X : Int) := by omega
        have g2 : (X : Int) ≤ 122 := by omega
        clear hpx
        go_wp2_with fail
        go_round
        case rel => exact ⟨k + 1, by omega, by go_num, HYES.out rfl⟩
        case measure => simp [intOf]; omega
      · have hpv : pb = false := by rw [hpx]; simp only [Bool.or_eq_false_iff, Bool.and_eq_false_iff, decide_eq_false_iff_not, beq_eq_false_iff_ne, ne_eq]; omega
        subst hpv
        have e45 : ((X : Int) == 45) = false := by rw [beq_eq_false_iff_ne]; omega
        have e95 : ((X : Int) == 95) = false := by rw [beq_eq_false_iff_ne]; omega
        have g1 : (123 : Int) ≤ (X : Int) := by omega
        have g2 : (X : Int) ≤ 255 := by omega
        have d57 : decide ((X : Int) ≤ 57) = false := decide_eq_false (by omega)
        have d122 : decide ((X : Int) ≤ 122) = false := decide_eq_false (by omega)
        clear hpx
        obtain rfl := HNO.out rfl
        go_wp2_with fail
        go_ret
        exact ⟨rfl, rfl⟩
    · obtain rfl : k = s.length := by omega
      rw [List.take_length] at hall
      have hp := HP.out
      rw [hall, Bool.true_and] at hp
      clear HP
      by_cases h1 : 1 ≤ s.length <;> by_cases h32 : s.length ≤ 32
      · obtain rfl : P = true := by rw [hp, decide_eq_true h1, decide_eq_true h32]; rfl
        have h1' : (1 : Int) ≤ (s.length : Int) := by omega
        have h2' : (s.length : Int) ≤ 32 := by omega
        clear hp
        go_wp2_with fail
        go_ret
        first | exact ⟨rfl, rfl⟩ | exact ⟨by simp, rfl⟩
      · obtain rfl : P = false := by rw [hp, decide_eq_false h32, Bool.and_false]
        have h1' : (1 : Int) ≤ (s.length : Int) := by omega
        have h2' : ¬ (s.length : Int) ≤ 32 := by omega
        clear hp
        go_wp2_with fail
        go_ret
        first | exact ⟨rfl, rfl⟩ | exact ⟨by simp, rfl⟩ | exact ⟨by simp; omega, rfl⟩
      · obtain rfl : P = false := by rw [hp, decide_eq_false h1, Bool.false_and]
        have h1' : ¬ (1 : Int) ≤ (s.length : Int) := by omega
        clear hp
        go_wp2_with fail
        go_ret
        first | exact ⟨rfl, rfl⟩ | exact ⟨by simp, rfl⟩ | exact ⟨by simp; omega, rfl⟩
      · exfalso; omega
end
end Go.Proofs.YthpkmdojeegleaaGreatDoor
