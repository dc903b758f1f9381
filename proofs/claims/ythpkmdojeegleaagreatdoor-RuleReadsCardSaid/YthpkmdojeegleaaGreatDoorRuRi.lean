/- The reference's word, Right. -/
import Derived.Test.YthpkmdojeegleaaGreatDoorRuRefPlain
import Derived.Test.YthpkmdojeegleaaGreatDoorRuFn
import Derived.Test.YthpkmdojeegleaaGreatDoorRuVa
import Derived.Test.YthpkmdojeegleaaGreatDoorStrI
set_option maxRecDepth 100000
namespace Go.Proofs.YthpkmdojeegleaaGreatDoor
open Go.RowKit Go.Shelf
attribute [local go_sem] Oper.semAt_some
theorem refWord_any (s : List UInt8) (w : World) (hs : s.length ≤ 100000) : Calls Tryz.prog 39 #[str s] w fun e w' => e = .returned (.bool (wordB s)) ∧ w = w' := by
  have HC := Lib.hid (refPlain_any s w hs)
  rw [wordB_pl]
  obtain ⟨P, hP⟩ : ∃ P, P = plainL s := ⟨_, rfl⟩
  rw [← hP] at HC ⊢
  clear hP
  by_cases h1 : s = [42]
  · subst h1
    clear HC
    go_enter Tryz.func39, Tryz.ntmps39
    go_wp2_with fail
    go_ret
    exact ⟨rfl, rfl⟩
  · have h2 : (s == [42]) = false := by rw [beq_eq_false_iff_ne]; exact h1
    rw [h2, Bool.false_or]
    clear h1
    go_enter Tryz.func39, Tryz.ntmps39
    go_wp2_with fail
    refine HC.out.mono ?_
    rintro e w1 ⟨rfl, rfl⟩
    go_wp2_with fail
    go_ret
    exact ⟨rfl, rfl⟩
/-- The signs of a pattern, by number. -/
def hgB (x : Nat) : Bool := (decide (97 ≤ x) && decide (x ≤ 122)) || (decide (48 ≤ x) && decide (x ≤ 57)) || x == 45 || x == 46 || x == 95 || x == 42
theorem hgB_all : ∀ n : Fin 256, rhS.contains (UInt8.ofNat n.val) = hgB n.val := by decide +kernel
theorem hgB_of (b : UInt8) : rhS.contains b = hgB b.toNat := by
  have := hgB_all ⟨b.toNat, b.toNat_lt⟩
  simpa using this
set_option maxHeartbeats 4000000 in
theorem right_any (r : RuL) (w : World) (hs : SmallR r) : Calls Tryz.prog 18 #[ragg r] w fun e w' => e = .returned (.bool (validB r)) ∧ Below w.heap.size w w' := by
  obtain ⟨al, ro, te, ho, fr, ti⟩ := r
  obtain ⟨s1, s2, s3⟩ := hs
  simp only at s1 s2 s3
  have hp : validB ⟨al, ro, te, ho, fr, ti⟩ = (wordB ro && wordB te && (!ho.isEmpty && decide (ho.length ≤ 32) && ho.all (rhS.contains ·)) && decide (1 ≤ fr) && decide (fr ≤ ti) && decide (ti ≤ 65535)) := rfl
  obtain ⟨P, hP⟩ : ∃ P, P = validB ⟨al, ro, te, ho, fr, ti⟩ := ⟨_, rfl⟩
  rw [← hP] at hp ⊢
  clear hP
  have HC1 := Lib.hid (fun W => refWord_any ro W (by omega))
  have HC2 := Lib.hid (fun W => refWord_any te W (by omega))
  obtain ⟨b1, h1⟩ : ∃ b, b = wordB ro := ⟨_, rfl⟩
  obtain ⟨b2, h2⟩ : ∃ b, b = wordB te := ⟨_, rfl⟩
  rw [← h1] at HC1 hp
  rw [← h2] at HC2 hp
  clear h1 h2 s1 s2
  have HP := Lib.hid hp
  clear hp
  obtain ⟨W, hW⟩ : ∃ W, W = w.alloc (.cells #[.bool al, str ro, str te, str ho, .int .i64 fr, .int .i64 ti] 33) := ⟨_, rfl⟩
  have HB0 := Lib.hid (show Below w.heap.size w W from by rw [hW]; exact (Below.refl _ w).alloc (Nat.le_refl _) _)
  have hk0 : Blk W w.heap.size [.bool al, str ro, str te, str ho, .int .i64 fr, .int .i64 ti] := by rw [hW]; exact Blk.new w _ _
  have d0 := hk0.at (o := 0) rfl
  have d1 := hk0.at (o := 1) rfl
  have d2 := hk0.at (o := 2) rfl
  have d3 := hk0.at (o := 3) rfl
  have d4 := hk0.at (o := 4) rfl
  have d5 := hk0.at (o := 5) rfl
  clear hk0
  go_enter Tryz.func18, Tryz.ntmps18
  go_wp2_with fail
  rw [← hW]
  clear hW
  go_loop [3, 4] (fun i _ => ∃ k : Nat, k ≤ ho.length ∧ i = .int .i64 (k : Int) ∧ (ho.take k).all (rhS.contains ·) = true) (fun i _ => ho.length - (intOf i).toNat)
  case atStart => exact ⟨0, by omega, rfl, rfl⟩
  case round =>
    obtain ⟨k, hk, rfl, hall⟩ := hrel
    by_cases hlt : k < ho.length
    · have hik : (Instr.index 9 (str ho) (.int .i64 (k : Int))).run Tryz.prog W = .ok (vb (ho.getD k 0)) W := str_index ho k hlt W
      have hts := take_snoc ho k hlt
      have hgx : ho.getD k 0 = ho[k] := by rw [List.getD_eq_getElem?_getD, List.getElem?_eq_getElem hlt]; rfl
      rw [← hgx] at hts
      have hmem : ho.getD k 0 ∈ ho := by rw [hgx]; exact List.getElem_mem hlt
      obtain ⟨x, hx⟩ : ∃ x, x = ho.getD k 0 := ⟨_, rfl⟩
      rw [← hx] at hik hts hmem
      clear hx hgx
      have hyes : rhS.contains x = true → (ho.take (k + 1)).all (rhS.contains ·) = true := fun e => by rw [hts, List.all_append, hall]; simpa using e
      have hno : rhS.contains x = false → P = false := fun e => by
        rw [HP.out]
        have : ho.all (rhS.contains ·) = false := by
          rw [← Bool.not_eq_true]
          intro h
          rw [List.all_eq_true] at h
          have := h x hmem
          rw [e] at this
          exact absurd this (by decide)
        rw [this]; simp
      rw [hgB_of] at hyes hno
      have HYES := Lib.hid hyes
      have HNO := Lib.hid hno
      have hlx := x.toNat_lt
      clear hts hmem hall hyes hno
      have hv : vb x = .int .u8 (x.toNat : Int) := rfl
      rw [hv] at hik
      obtain ⟨X, hX⟩ : ∃ X, X = x.toNat := ⟨_, rfl⟩
      rw [← hX] at hik hlx HYES HNO
      clear hv hX
      rcases (show (0 ≤ X ∧ X ≤ 41) ∨ (42 ≤ X ∧ X ≤ 42) ∨ (43 ≤ X ∧ X ≤ 44) ∨ (45 ≤ X ∧ X ≤ 45) ∨ (46 ≤ X ∧ X ≤ 46) ∨ (47 ≤ X ∧ X ≤ 47) ∨ (48 ≤ X ∧ X ≤ 57) ∨ (58 ≤ X ∧ X ≤ 94) ∨ (95 ≤ X ∧ X ≤ 95) ∨ (96 ≤ X ∧ X ≤ 96) ∨ (97 ≤ X ∧ X ≤ 122) ∨ (123 ≤ X ∧ X ≤ 255) by omega) with ⟨hr1, hr2⟩ | ⟨hr1, hr2⟩ | ⟨hr1, hr2⟩ | ⟨hr1, hr2⟩ | ⟨hr1, hr2⟩ | ⟨hr1, hr2⟩ | ⟨hr1, hr2⟩ | ⟨hr1, hr2⟩ | ⟨hr1, hr2⟩ | ⟨hr1, hr2⟩ | ⟨hr1, hr2⟩ | ⟨hr1, hr2⟩
      · have hpv : hgB X = false := by
          unfold hgB
          simp only [Bool.or_eq_false_iff, Bool.and_eq_false_iff, decide_eq_false_iff_not, beq_eq_false_iff_ne, ne_eq]; omega
        have e45 : ((X : Int) == 45) = false := by rw [beq_eq_false_iff_ne]; omega
        have e46 : ((X : Int) == 46) = false := by rw [beq_eq_false_iff_ne]; omega
        have e95 : ((X : Int) == 95) = false := by rw [beq_eq_false_iff_ne]; omega
        have e42 : ((X : Int) == 42) = false := by rw [beq_eq_false_iff_ne]; omega
        have dl97 : decide ((97 : Int) ≤ (X : Int)) = false := decide_eq_false (by omega)
        have dl48 : decide ((48 : Int) ≤ (X : Int)) = false := decide_eq_false (by omega)
        have dr122 : decide ((X : Int) ≤ 122) = true := decide_eq_true (by omega)
        have dr57 : decide ((X : Int) ≤ 57) = true := decide_eq_true (by omega)
        have g1 : (0 : Int) ≤ (X : Int) := by omega
        have g2 : (X : Int) ≤ 41 := by omega
        obtain rfl := HNO.out hpv
        clear hpv HYES HNO
        go_wp2_with fail
        go_ret
        exact ⟨rfl, HB0.out⟩
      · obtain rfl : X = 42 := by omega
        have eX : ((42 : Nat) : Int) = 42 := rfl
        rw [eX] at hik
        have hpv : hgB 42 = true := by decide
        clear hr1 hr2 eX hlx
        have hyy := HYES.out hpv
        have HYY := Lib.hid hyy; clear hyy hpv HYES HNO
        go_wp2_with fail
        go_round
        case rel => exact ⟨k + 1, by omega, by go_num, HYY.out⟩
        case measure => simp [intOf]; omega
      · have hpv : hgB X = false := by
          unfold hgB
          simp only [Bool.or_eq_false_iff, Bool.and_eq_false_iff, decide_eq_false_iff_not, beq_eq_false_iff_ne, ne_eq]; omega
        have e45 : ((X : Int) == 45) = false := by rw [beq_eq_false_iff_ne]; omega
        have e46 : ((X : Int) == 46) = false := by rw [beq_eq_false_iff_ne]; omega
        have e95 : ((X : Int) == 95) = false := by rw [beq_eq_false_iff_ne]; omega
        have e42 : ((X : Int) == 42) = false := by rw [beq_eq_false_iff_ne]; omega
        have dl97 : decide ((97 : Int) ≤ (X : Int)) = false := decide_eq_false (by omega)
        have dl48 : decide ((48 : Int) ≤ (X : Int)) = false := decide_eq_false (by omega)
        have dr122 : decide ((X : Int) ≤ 122) = true := decide_eq_true (by omega)
        have dr57 : decide ((X : Int) ≤ 57) = true := decide_eq_true (by omega)
        have g1 : (43 : Int) ≤ (X : Int) := by omega
        have g2 : (X : Int) ≤ 44 := by omega
        obtain rfl := HNO.out hpv
        clear hpv HYES HNO
        go_wp2_with fail
        go_ret
        exact ⟨rfl, HB0.out⟩
      · obtain rfl : X = 45 := by omega
        have eX : ((45 : Nat) : Int) = 45 := rfl
        rw [eX] at hik
        have hpv : hgB 45 = true := by decide
        clear hr1 hr2 eX hlx
        have hyy := HYES.out hpv
        have HYY := Lib.hid hyy; clear hyy hpv HYES HNO
        go_wp2_with fail
        go_round
        case rel => exact ⟨k + 1, by omega, by go_num, HYY.out⟩
        case measure => simp [intOf]; omega
      · obtain rfl : X = 46 := by omega
        have eX : ((46 : Nat) : Int) = 46 := rfl
        rw [eX] at hik
        have hpv : hgB 46 = true := by decide
        clear hr1 hr2 eX hlx
        have hyy := HYES.out hpv
        have HYY := Lib.hid hyy; clear hyy hpv HYES HNO
        go_wp2_with fail
        go_round
        case rel => exact ⟨k + 1, by omega, by go_num, HYY.out⟩
        case measure => simp [intOf]; omega
      · obtain rfl : X = 47 := by omega
        have eX : ((47 : Nat) : Int) = 47 := rfl
        rw [eX] at hik
        have hpv : hgB 47 = false := by decide
        clear hr1 hr2 eX hlx
        obtain rfl := HNO.out hpv
        clear hpv HYES HNO
        go_wp2_with fail
        go_ret
        exact ⟨rfl, HB0.out⟩
      · have hpv : hgB X = true := by
          unfold hgB
          simp only [Bool.or_eq_true, Bool.and_eq_true, decide_eq_true_eq, beq_iff_eq]; omega
        have e45 : ((X : Int) == 45) = false := by rw [beq_eq_false_iff_ne]; omega
        have e46 : ((X : Int) == 46) = false := by rw [beq_eq_false_iff_ne]; omega
        have e95 : ((X : Int) == 95) = false := by rw [beq_eq_false_iff_ne]; omega
        have e42 : ((X : Int) == 42) = false := by rw [beq_eq_false_iff_ne]; omega
        have dl97 : decide ((97 : Int) ≤ (X : Int)) = false := decide_eq_false (by omega)
        have dl48 : decide ((48 : Int) ≤ (X : Int)) = true := decide_eq_true (by omega)
        have dr122 : decide ((X : Int) ≤ 122) = true := decide_eq_true (by omega)
        have dr57 : decide ((X : Int) ≤ 57) = true := decide_eq_true (by omega)
        have g1 : (48 : Int) ≤ (X : Int) := by omega
        have g2 : (X : Int) ≤ 57 := by omega
        have hyy := HYES.out hpv
        have HYY := Lib.hid hyy; clear hyy hpv HYES HNO
        go_wp2_with fail
        go_round
        case rel => exact ⟨k + 1, by omega, by go_num, HYY.out⟩
        case measure => simp [intOf]; omega
      · have hpv : hgB X = false := by
          unfold hgB
          simp only [Bool.or_eq_false_iff, Bool.and_eq_false_iff, decide_eq_false_iff_not, beq_eq_false_iff_ne, ne_eq]; omega
        have e45 : ((X : Int) == 45) = false := by rw [beq_eq_false_iff_ne]; omega
        have e46 : ((X : Int) == 46) = false := by rw [beq_eq_false_iff_ne]; omega
        have e95 : ((X : Int) == 95) = false := by rw [beq_eq_false_iff_ne]; omega
        have e42 : ((X : Int) == 42) = false := by rw [beq_eq_false_iff_ne]; omega
        have dl97 : decide ((97 : Int) ≤ (X : Int)) = false := decide_eq_false (by omega)
        have dl48 : decide ((48 : Int) ≤ (X : Int)) = true := decide_eq_true (by omega)
        have dr122 : decide ((X : Int) ≤ 122) = true := decide_eq_true (by omega)
        have dr57 : decide ((X : Int) ≤ 57) = false := decide_eq_false (by omega)
        have g1 : (58 : Int) ≤ (X : Int) := by omega
        have g2 : (X : Int) ≤ 94 := by omega
        obtain rfl := HNO.out hpv
        clear hpv HYES HNO
        go_wp2_with fail
        go_ret
        exact ⟨rfl, HB0.out⟩
      · obtain rfl : X = 95 := by omega
        have eX : ((95 : Nat) : Int) = 95 := rfl
        rw [eX] at hik
        have hpv : hgB 95 = true := by decide
        clear hr1 hr2 eX hlx
        have hyy := HYES.out hpv
        have HYY := Lib.hid hyy; clear hyy hpv HYES HNO
        go_wp2_with fail
        go_round
        case rel => exact ⟨k + 1, by omega, by go_num, HYY.out⟩
        case measure => simp [intOf]; omega
      · obtain rfl : X = 96 := by omega
        have eX : ((96 : Nat) : Int) = 96 := rfl
        rw [eX] at hik
        have hpv : hgB 96 = false := by decide
        clear hr1 hr2 eX hlx
        obtain rfl := HNO.out hpv
        clear hpv HYES HNO
        go_wp2_with fail
        go_ret
        exact ⟨rfl, HB0.out⟩
      · have hpv : hgB X = true := by
          unfold hgB
          simp only [Bool.or_eq_true, Bool.and_eq_true, decide_eq_true_eq, beq_iff_eq]; omega
        have e45 : ((X : Int) == 45) = false := by rw [beq_eq_false_iff_ne]; omega
        have e46 : ((X : Int) == 46) = false := by rw [beq_eq_false_iff_ne]; omega
        have e95 : ((X : Int) == 95) = false := by rw [beq_eq_false_iff_ne]; omega
        have e42 : ((X : Int) == 42) = false := by rw [beq_eq_false_iff_ne]; omega
        have dl97 : decide ((97 : Int) ≤ (X : Int)) = true := decide_eq_true (by omega)
        have dl48 : decide ((48 : Int) ≤ (X : Int)) = true := decide_eq_true (by omega)
        have dr122 : decide ((X : Int) ≤ 122) = true := decide_eq_true (by omega)
        have dr57 : decide ((X : Int) ≤ 57) = false := decide_eq_false (by omega)
        have g1 : (97 : Int) ≤ (X : Int) := by omega
        have g2 : (X : Int) ≤ 122 := by omega
        have hyy := HYES.out hpv
        have HYY := Lib.hid hyy; clear hyy hpv HYES HNO
        go_wp2_with fail
        go_round
        case rel => exact ⟨k + 1, by omega, by go_num, HYY.out⟩
        case measure => simp [intOf]; omega
      · have hpv : hgB X = false := by
          unfold hgB
          simp only [Bool.or_eq_false_iff, Bool.and_eq_false_iff, decide_eq_false_iff_not, beq_eq_false_iff_ne, ne_eq]; omega
        have e45 : ((X : Int) == 45) = false := by rw [beq_eq_false_iff_ne]; omega
        have e46 : ((X : Int) == 46) = false := by rw [beq_eq_false_iff_ne]; omega
        have e95 : ((X : Int) == 95) = false := by rw [beq_eq_false_iff_ne]; omega
        have e42 : ((X : Int) == 42) = false := by rw [beq_eq_false_iff_ne]; omega
        have dl97 : decide ((97 : Int) ≤ (X : Int)) = true := decide_eq_true (by omega)
        have dl48 : decide ((48 : Int) ≤ (X : Int)) = true := decide_eq_true (by omega)
        have dr122 : decide ((X : Int) ≤ 122) = false := decide_eq_false (by omega)
        have dr57 : decide ((X : Int) ≤ 57) = false := decide_eq_false (by omega)
        have g1 : (123 : Int) ≤ (X : Int) := by omega
        have g2 : (X : Int) ≤ 255 := by omega
        obtain rfl := HNO.out hpv
        clear hpv HYES HNO
        go_wp2_with fail
        go_ret
        exact ⟨rfl, HB0.out⟩
    · have hall2 : ho.all (rhS.contains ·) = true := by rw [← hall, List.take_of_length_le (by omega)]
      have hp := HP.out
      rw [hall2] at hp
      clear hall hall2 HP
      cases b1 with
      | false =>
        obtain rfl : P = false := by rw [hp]; simp [*]
        clear hp
        go_wp2_with fail
        refine (HC1.out _).mono ?_
        rintro e w1 ⟨rfl, rfl⟩
        go_wp2_with fail
        go_ret
        exact ⟨by first | rfl | simp [*], HB0.out⟩
      | true =>
        cases b2 with
        | false =>
          obtain rfl : P = false := by rw [hp]; simp [*]
          clear hp
          go_wp2_with fail
          refine (HC1.out _).mono ?_
          rintro e w1 ⟨rfl, rfl⟩
          go_wp2_with fail
          refine (HC2.out _).mono ?_
          rintro e w2 ⟨rfl, rfl⟩
          go_wp2_with fail
          go_ret
          exact ⟨by first | rfl | simp [*], HB0.out⟩
        | true =>
          by_cases q1 : ho = []
          case pos =>
            subst q1
            obtain rfl : P = false := by rw [hp]; simp [*]
            clear hp
            go_wp2_with fail
            refine (HC1.out _).mono ?_
            rintro e w1 ⟨rfl, rfl⟩
            go_wp2_with fail
            refine (HC2.out _).mono ?_
            rintro e w2 ⟨rfl, rfl⟩
            go_wp2_with fail
            go_ret
            exact ⟨by first | rfl | simp [*], HB0.out⟩
          case neg =>
            have q1i : ho.isEmpty = false := by cases ho; exact absurd rfl q1; rfl
            have q1l : 1 ≤ ho.length := List.length_pos_iff.2 q1
            have q1z : (1 : Int) ≤ (ho.length : Int) := by omega
            clear q1
            by_cases q2 : (ho.length : Int) ≤ 32
            case neg =>
              have q2d := decide_eq_false q2
              have q2n : decide (ho.length ≤ 32) = false := decide_eq_false (by omega)
              obtain rfl : P = false := by rw [hp]; simp [*]
              clear hp
              go_wp2_with fail
              refine (HC1.out _).mono ?_
              rintro e w1 ⟨rfl, rfl⟩
              go_wp2_with fail
              refine (HC2.out _).mono ?_
              rintro e w2 ⟨rfl, rfl⟩
              go_wp2_with fail
              go_ret
              exact ⟨by first | rfl | simp [*], HB0.out⟩
            case pos =>
              have q2d := decide_eq_true q2
              have q2n : decide (ho.length ≤ 32) = true := decide_eq_true (by omega)
              by_cases q3 : (1 : Int) ≤ fr
              case neg =>
                have q3d := decide_eq_false q3
                obtain rfl : P = false := by rw [hp]; simp [*]
                clear hp
                go_wp2_with fail
                refine (HC1.out _).mono ?_
                rintro e w1 ⟨rfl, rfl⟩
                go_wp2_with fail
                refine (HC2.out _).mono ?_
                rintro e w2 ⟨rfl, rfl⟩
                go_wp2_with fail
                go_ret
                exact ⟨by first | rfl | simp [*], HB0.out⟩
              case pos =>
                have q3d := decide_eq_true q3
                by_cases q4 : ti ≤ 65535
                case neg =>
                  have q4d := decide_eq_false q4
                  obtain rfl : P = false := by rw [hp]; simp [*]
                  clear hp
                  go_wp2_with fail
                  refine (HC1.out _).mono ?_
                  rintro e w1 ⟨rfl, rfl⟩
                  go_wp2_with fail
                  refine (HC2.out _).mono ?_
                  rintro e w2 ⟨rfl, rfl⟩
                  go_wp2_with fail
                  go_ret
                  exact ⟨by first | rfl | simp [*], HB0.out⟩
                case pos =>
                  have q4d := decide_eq_true q4
                  by_cases q5 : fr ≤ ti
                  case neg =>
                    have q5d := decide_eq_false q5
                    obtain rfl : P = false := by rw [hp]; simp [*]
                    clear hp
                    go_wp2_with fail
                    refine (HC1.out _).mono ?_
                    rintro e w1 ⟨rfl, rfl⟩
                    go_wp2_with fail
                    refine (HC2.out _).mono ?_
                    rintro e w2 ⟨rfl, rfl⟩
                    go_wp2_with fail
                    go_ret
                    exact ⟨by first | rfl | simp [*], HB0.out⟩
                  case pos =>
                    have q5d := decide_eq_true q5
                    obtain rfl : P = true := by rw [hp]; simp [*]
                    clear hp
                    go_wp2_with fail
                    refine (HC1.out _).mono ?_
                    rintro e w1 ⟨rfl, rfl⟩
                    go_wp2_with fail
                    refine (HC2.out _).mono ?_
                    rintro e w2 ⟨rfl, rfl⟩
                    go_wp2_with fail
                    go_ret
                    exact ⟨by first | rfl | simp [*], HB0.out⟩
end Go.Proofs.YthpkmdojeegleaaGreatDoor
