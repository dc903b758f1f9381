/- The reference's Covers. -/
import Derived.Test.YthpkmdojeegleaaGreatDoorRuOvR
set_option maxRecDepth 100000
namespace Go.Proofs.YthpkmdojeegleaaGreatDoor
open Go.RowKit Go.Shelf
attribute [local go_sem] Oper.semAt_some
set_option maxHeartbeats 4000000 in
theorem refCovers_any (r o : RuL) (w : World) (hs : SmallR r) (hs2 : SmallR o) : Calls Tryz.prog 41 #[ragg r, ragg o] w fun e w' => e = .returned (.bool (coversB r o)) ∧ Below w.heap.size w w' := by
  obtain ⟨al1, ro1, te1, ho1, fr1, ti1⟩ := r
  obtain ⟨al2, ro2, te2, ho2, fr2, ti2⟩ := o
  have hp : coversB ⟨al1, ro1, te1, ho1, fr1, ti1⟩ ⟨al2, ro2, te2, ho2, fr2, ti2⟩ = ((ro1 == [42] || ro1 == ro2) && (te1 == [42] || te1 == te2) && overP ho1 ho2 && decide (fr1 ≤ fr2) && decide (ti2 ≤ ti1)) := rfl
  obtain ⟨P, hP⟩ : ∃ P, P = coversB ⟨al1, ro1, te1, ho1, fr1, ti1⟩ ⟨al2, ro2, te2, ho2, fr2, ti2⟩ := ⟨_, rfl⟩
  rw [← hP] at hp ⊢
  clear hP
  have HC3 := Lib.hid (fun W => refOver_any ho1 ho2 W (by have : ho1.length ≤ 5000 := hs.2.2; omega) (by have : ho2.length ≤ 5000 := hs2.2.2; omega))
  obtain ⟨b3, h3⟩ : ∃ b, b = overP ho1 ho2 := ⟨_, rfl⟩
  rw [← h3] at HC3 hp
  clear h3 hs hs2
  obtain ⟨W, hW⟩ : ∃ W, W = (w.alloc (.cells #[.bool al1, str ro1, str te1, str ho1, .int .i64 fr1, .int .i64 ti1] 33)).alloc (.cells #[.bool al2, str ro2, str te2, str ho2, .int .i64 fr2, .int .i64 ti2] 33) := ⟨_, rfl⟩
  have HB0 := Lib.hid (show Below w.heap.size w W from by rw [hW]; exact ((Below.refl _ w).alloc (Nat.le_refl _) _).alloc (by simp) _)
  have hk0 : Blk W w.heap.size [.bool al1, str ro1, str te1, str ho1, .int .i64 fr1, .int .i64 ti1] := by rw [hW]; exact (Blk.new w _ _).alloc _
  have hk1 : Blk W (w.heap.size + 1) [.bool al2, str ro2, str te2, str ho2, .int .i64 fr2, .int .i64 ti2] := by
    rw [hW]
    have := Blk.new (w.alloc (.cells #[.bool al1, str ro1, str te1, str ho1, .int .i64 fr1, .int .i64 ti1] 33)) [.bool al2, str ro2, str te2, str ho2, .int .i64 fr2, .int .i64 ti2] 33
    rwa [World.size_alloc] at this
  have HK0 := Lib.hid hk0
  have HL0 := Lib.hid hk1
  have d0 := hk0.at (o := 0) rfl
  have g0 := hk1.at (o := 0) rfl
  have d1 := hk0.at (o := 1) rfl
  have g1 := hk1.at (o := 1) rfl
  have d2 := hk0.at (o := 2) rfl
  have g2 := hk1.at (o := 2) rfl
  have d3 := hk0.at (o := 3) rfl
  have g3 := hk1.at (o := 3) rfl
  have d4 := hk0.at (o := 4) rfl
  have g4 := hk1.at (o := 4) rfl
  have d5 := hk0.at (o := 5) rfl
  have g5 := hk1.at (o := 5) rfl
  rw [hW] at d0 d1 d2 d3 d4 d5 g0 g1 g2 g3 g4 g5
  clear hk0 hk1
  by_cases x1 : ro1 = [42]
  case pos =>
    subst x1
    by_cases y1 : te1 = [42]
    case pos =>
      subst y1
      cases b3 with
      | false =>
        obtain rfl : P = false := by rw [hp]; simp [*]
        clear hp
        go_enter Tryz.func41, Tryz.ntmps41
        go_wp2_with fail
        rw [← hW]
        refine (HC3.out _).mono ?_
        rintro e w1 ⟨rfl, hB⟩
        clear d0 d1 d2 d3 d4 d5 g0 g1 g2 g3 g4 g5
        have hk := HK0.out.below hB HK0.out.lt
        have hl := HL0.out.below hB HL0.out.lt
        have d0 := hk.at (o := 0) rfl
        have g0 := hl.at (o := 0) rfl
        have d1 := hk.at (o := 1) rfl
        have g1 := hl.at (o := 1) rfl
        have d2 := hk.at (o := 2) rfl
        have g2 := hl.at (o := 2) rfl
        have d3 := hk.at (o := 3) rfl
        have g3 := hl.at (o := 3) rfl
        have d4 := hk.at (o := 4) rfl
        have g4 := hl.at (o := 4) rfl
        have d5 := hk.at (o := 5) rfl
        have g5 := hl.at (o := 5) rfl
        have HB1 := Lib.hid (HB0.out.trans (hB.mono HB0.out.size)); clear hB hk hl
        go_wp2_with fail
        go_ret
        exact ⟨by first | rfl | simp [*], HB1.out⟩
      | true =>
        by_cases n4 : fr1 ≤ fr2
        case neg =>
          have n4d := decide_eq_false n4
          obtain rfl : P = false := by rw [hp]; simp [*]
          clear hp
          go_enter Tryz.func41, Tryz.ntmps41
          go_wp2_with fail
          rw [← hW]
          refine (HC3.out _).mono ?_
          rintro e w1 ⟨rfl, hB⟩
          clear d0 d1 d2 d3 d4 d5 g0 g1 g2 g3 g4 g5
          have hk := HK0.out.below hB HK0.out.lt
          have hl := HL0.out.below hB HL0.out.lt
          have d0 := hk.at (o := 0) rfl
          have g0 := hl.at (o := 0) rfl
          have d1 := hk.at (o := 1) rfl
          have g1 := hl.at (o := 1) rfl
          have d2 := hk.at (o := 2) rfl
          have g2 := hl.at (o := 2) rfl
          have d3 := hk.at (o := 3) rfl
          have g3 := hl.at (o := 3) rfl
          have d4 := hk.at (o := 4) rfl
          have g4 := hl.at (o := 4) rfl
          have d5 := hk.at (o := 5) rfl
          have g5 := hl.at (o := 5) rfl
          have HB1 := Lib.hid (HB0.out.trans (hB.mono HB0.out.size)); clear hB hk hl
          go_wp2_with fail
          go_ret
          exact ⟨by first | rfl | simp [*], HB1.out⟩
        case pos =>
          have n4d := decide_eq_true n4
          by_cases n5 : ti2 ≤ ti1
          case neg =>
            have n5d := decide_eq_false n5
            obtain rfl : P = false := by rw [hp]; simp [*]
            clear hp
            go_enter Tryz.func41, Tryz.ntmps41
            go_wp2_with fail
            rw [← hW]
            refine (HC3.out _).mono ?_
            rintro e w1 ⟨rfl, hB⟩
            clear d0 d1 d2 d3 d4 d5 g0 g1 g2 g3 g4 g5
            have hk := HK0.out.below hB HK0.out.lt
            have hl := HL0.out.below hB HL0.out.lt
            have d0 := hk.at (o := 0) rfl
            have g0 := hl.at (o := 0) rfl
            have d1 := hk.at (o := 1) rfl
            have g1 := hl.at (o := 1) rfl
            have d2 := hk.at (o := 2) rfl
            have g2 := hl.at (o := 2) rfl
            have d3 := hk.at (o := 3) rfl
            have g3 := hl.at (o := 3) rfl
            have d4 := hk.at (o := 4) rfl
            have g4 := hl.at (o := 4) rfl
            have d5 := hk.at (o := 5) rfl
            have g5 := hl.at (o := 5) rfl
            have HB1 := Lib.hid (HB0.out.trans (hB.mono HB0.out.size)); clear hB hk hl
            go_wp2_with fail
            go_ret
            exact ⟨by first | rfl | simp [*], HB1.out⟩
          case pos =>
            have n5d := decide_eq_true n5
            obtain rfl : P = true := by rw [hp]; simp [*]
            clear hp
            go_enter Tryz.func41, Tryz.ntmps41
            go_wp2_with fail
            rw [← hW]
            refine (HC3.out _).mono ?_
            rintro e w1 ⟨rfl, hB⟩
            clear d0 d1 d2 d3 d4 d5 g0 g1 g2 g3 g4 g5
            have hk := HK0.out.below hB HK0.out.lt
            have hl := HL0.out.below hB HL0.out.lt
            have d0 := hk.at (o := 0) rfl
            have g0 := hl.at (o := 0) rfl
            have d1 := hk.at (o := 1) rfl
            have g1 := hl.at (o := 1) rfl
            have d2 := hk.at (o := 2) rfl
            have g2 := hl.at (o := 2) rfl
            have d3 := hk.at (o := 3) rfl
            have g3 := hl.at (o := 3) rfl
            have d4 := hk.at (o := 4) rfl
            have g4 := hl.at (o := 4) rfl
            have d5 := hk.at (o := 5) rfl
            have g5 := hl.at (o := 5) rfl
            have HB1 := Lib.hid (HB0.out.trans (hB.mono HB0.out.size)); clear hB hk hl
            go_wp2_with fail
            go_ret
            exact ⟨by first | rfl | simp [*], HB1.out⟩
    case neg =>
      have y2 : (te1 == [42]) = false := beq_eq_false_iff_ne.2 y1
      by_cases y3 : te1 = te2
      case pos =>
        subst y3
        cases b3 with
        | false =>
          obtain rfl : P = false := by rw [hp]; simp [*]
          clear hp
          go_enter Tryz.func41, Tryz.ntmps41
          go_wp2_with fail
          rw [← hW]
          refine (HC3.out _).mono ?_
          rintro e w1 ⟨rfl, hB⟩
          clear d0 d1 d2 d3 d4 d5 g0 g1 g2 g3 g4 g5
          have hk := HK0.out.below hB HK0.out.lt
          have hl := HL0.out.below hB HL0.out.lt
          have d0 := hk.at (o := 0) rfl
          have g0 := hl.at (o := 0) rfl
          have d1 := hk.at (o := 1) rfl
          have g1 := hl.at (o := 1) rfl
          have d2 := hk.at (o := 2) rfl
          have g2 := hl.at (o := 2) rfl
          have d3 := hk.at (o := 3) rfl
          have g3 := hl.at (o := 3) rfl
          have d4 := hk.at (o := 4) rfl
          have g4 := hl.at (o := 4) rfl
          have d5 := hk.at (o := 5) rfl
          have g5 := hl.at (o := 5) rfl
          have HB1 := Lib.hid (HB0.out.trans (hB.mono HB0.out.size)); clear hB hk hl
          go_wp2_with fail
          go_ret
          exact ⟨by first | rfl | simp [*], HB1.out⟩
        | true =>
          by_cases n4 : fr1 ≤ fr2
          case neg =>
            have n4d := decide_eq_false n4
            obtain rfl : P = false := by rw [hp]; simp [*]
            clear hp
            go_enter Tryz.func41, Tryz.ntmps41
            go_wp2_with fail
            rw [← hW]
            refine (HC3.out _).mono ?_
            rintro e w1 ⟨rfl, hB⟩
            clear d0 d1 d2 d3 d4 d5 g0 g1 g2 g3 g4 g5
            have hk := HK0.out.below hB HK0.out.lt
            have hl := HL0.out.below hB HL0.out.lt
            have d0 := hk.at (o := 0) rfl
            have g0 := hl.at (o := 0) rfl
            have d1 := hk.at (o := 1) rfl
            have g1 := hl.at (o := 1) rfl
            have d2 := hk.at (o := 2) rfl
            have g2 := hl.at (o := 2) rfl
            have d3 := hk.at (o := 3) rfl
            have g3 := hl.at (o := 3) rfl
            have d4 := hk.at (o := 4) rfl
            have g4 := hl.at (o := 4) rfl
            have d5 := hk.at (o := 5) rfl
            have g5 := hl.at (o := 5) rfl
            have HB1 := Lib.hid (HB0.out.trans (hB.mono HB0.out.size)); clear hB hk hl
            go_wp2_with fail
            go_ret
            exact ⟨by first | rfl | simp [*], HB1.out⟩
          case pos =>
            have n4d := decide_eq_true n4
            by_cases n5 : ti2 ≤ ti1
            case neg =>
              have n5d := decide_eq_false n5
              obtain rfl : P = false := by rw [hp]; simp [*]
              clear hp
              go_enter Tryz.func41, Tryz.ntmps41
              go_wp2_with fail
              rw [← hW]
              refine (HC3.out _).mono ?_
              rintro e w1 ⟨rfl, hB⟩
              clear d0 d1 d2 d3 d4 d5 g0 g1 g2 g3 g4 g5
              have hk := HK0.out.below hB HK0.out.lt
              have hl := HL0.out.below hB HL0.out.lt
              have d0 := hk.at (o := 0) rfl
              have g0 := hl.at (o := 0) rfl
              have d1 := hk.at (o := 1) rfl
              have g1 := hl.at (o := 1) rfl
              have d2 := hk.at (o := 2) rfl
              have g2 := hl.at (o := 2) rfl
              have d3 := hk.at (o := 3) rfl
              have g3 := hl.at (o := 3) rfl
              have d4 := hk.at (o := 4) rfl
              have g4 := hl.at (o := 4) rfl
              have d5 := hk.at (o := 5) rfl
              have g5 := hl.at (o := 5) rfl
              have HB1 := Lib.hid (HB0.out.trans (hB.mono HB0.out.size)); clear hB hk hl
              go_wp2_with fail
              go_ret
              exact ⟨by first | rfl | simp [*], HB1.out⟩
            case pos =>
              have n5d := decide_eq_true n5
              obtain rfl : P = true := by rw [hp]; simp [*]
              clear hp
              go_enter Tryz.func41, Tryz.ntmps41
              go_wp2_with fail
              rw [← hW]
              refine (HC3.out _).mono ?_
              rintro e w1 ⟨rfl, hB⟩
              clear d0 d1 d2 d3 d4 d5 g0 g1 g2 g3 g4 g5
              have hk := HK0.out.below hB HK0.out.lt
              have hl := HL0.out.below hB HL0.out.lt
              have d0 := hk.at (o := 0) rfl
              have g0 := hl.at (o := 0) rfl
              have d1 := hk.at (o := 1) rfl
              have g1 := hl.at (o := 1) rfl
              have d2 := hk.at (o := 2) rfl
              have g2 := hl.at (o := 2) rfl
              have d3 := hk.at (o := 3) rfl
              have g3 := hl.at (o := 3) rfl
              have d4 := hk.at (o := 4) rfl
              have g4 := hl.at (o := 4) rfl
              have d5 := hk.at (o := 5) rfl
              have g5 := hl.at (o := 5) rfl
              have HB1 := Lib.hid (HB0.out.trans (hB.mono HB0.out.size)); clear hB hk hl
              go_wp2_with fail
              go_ret
              exact ⟨by first | rfl | simp [*], HB1.out⟩
      case neg =>
        have y4 : (te1 == te2) = false := beq_eq_false_iff_ne.2 y3
        obtain rfl : P = false := by rw [hp]; simp [*]
        clear hp
        go_enter Tryz.func41, Tryz.ntmps41
        go_wp2_with fail
        go_ret
        try rw [← hW]
        exact ⟨by first | rfl | simp [*], HB0.out⟩
  case neg =>
    have x2 : (ro1 == [42]) = false := beq_eq_false_iff_ne.2 x1
    by_cases x3 : ro1 = ro2
    case pos =>
      subst x3
      by_cases y1 : te1 = [42]
      case pos =>
        subst y1
        cases b3 with
        | false =>
          obtain rfl : P = false := by rw [hp]; simp [*]
          clear hp
          go_enter Tryz.func41, Tryz.ntmps41
          go_wp2_with fail
          rw [← hW]
          refine (HC3.out _).mono ?_
          rintro e w1 ⟨rfl, hB⟩
          clear d0 d1 d2 d3 d4 d5 g0 g1 g2 g3 g4 g5
          have hk := HK0.out.below hB HK0.out.lt
          have hl := HL0.out.below hB HL0.out.lt
          have d0 := hk.at (o := 0) rfl
          have g0 := hl.at (o := 0) rfl
          have d1 := hk.at (o := 1) rfl
          have g1 := hl.at (o := 1) rfl
          have d2 := hk.at (o := 2) rfl
          have g2 := hl.at (o := 2) rfl
          have d3 := hk.at (o := 3) rfl
          have g3 := hl.at (o := 3) rfl
          have d4 := hk.at (o := 4) rfl
          have g4 := hl.at (o := 4) rfl
          have d5 := hk.at (o := 5) rfl
          have g5 := hl.at (o := 5) rfl
          have HB1 := Lib.hid (HB0.out.trans (hB.mono HB0.out.size)); clear hB hk hl
          go_wp2_with fail
          go_ret
          exact ⟨by first | rfl | simp [*], HB1.out⟩
        | true =>
          by_cases n4 : fr1 ≤ fr2
          case neg =>
            have n4d := decide_eq_false n4
            obtain rfl : P = false := by rw [hp]; simp [*]
            clear hp
            go_enter Tryz.func41, Tryz.ntmps41
            go_wp2_with fail
            rw [← hW]
            refine (HC3.out _).mono ?_
            rintro e w1 ⟨rfl, hB⟩
            clear d0 d1 d2 d3 d4 d5 g0 g1 g2 g3 g4 g5
            have hk := HK0.out.below hB HK0.out.lt
            have hl := HL0.out.below hB HL0.out.lt
            have d0 := hk.at (o := 0) rfl
            have g0 := hl.at (o := 0) rfl
            have d1 := hk.at (o := 1) rfl
            have g1 := hl.at (o := 1) rfl
            have d2 := hk.at (o := 2) rfl
            have g2 := hl.at (o := 2) rfl
            have d3 := hk.at (o := 3) rfl
            have g3 := hl.at (o := 3) rfl
            have d4 := hk.at (o := 4) rfl
            have g4 := hl.at (o := 4) rfl
            have d5 := hk.at (o := 5) rfl
            have g5 := hl.at (o := 5) rfl
            have HB1 := Lib.hid (HB0.out.trans (hB.mono HB0.out.size)); clear hB hk hl
            go_wp2_with fail
            go_ret
            exact ⟨by first | rfl | simp [*], HB1.out⟩
          case pos =>
            have n4d := decide_eq_true n4
            by_cases n5 : ti2 ≤ ti1
            case neg =>
              have n5d := decide_eq_false n5
              obtain rfl : P = false := by rw [hp]; simp [*]
              clear hp
              go_enter Tryz.func41, Tryz.ntmps41
              go_wp2_with fail
              rw [← hW]
              refine (HC3.out _).mono ?_
              rintro e w1 ⟨rfl, hB⟩
              clear d0 d1 d2 d3 d4 d5 g0 g1 g2 g3 g4 g5
              have hk := HK0.out.below hB HK0.out.lt
              have hl := HL0.out.below hB HL0.out.lt
              have d0 := hk.at (o := 0) rfl
              have g0 := hl.at (o := 0) rfl
              have d1 := hk.at (o := 1) rfl
              have g1 := hl.at (o := 1) rfl
              have d2 := hk.at (o := 2) rfl
              have g2 := hl.at (o := 2) rfl
              have d3 := hk.at (o := 3) rfl
              have g3 := hl.at (o := 3) rfl
              have d4 := hk.at (o := 4) rfl
              have g4 := hl.at (o := 4) rfl
              have d5 := hk.at (o := 5) rfl
              have g5 := hl.at (o := 5) rfl
              have HB1 := Lib.hid (HB0.out.trans (hB.mono HB0.out.size)); clear hB hk hl
              go_wp2_with fail
              go_ret
              exact ⟨by first | rfl | simp [*], HB1.out⟩
            case pos =>
              have n5d := decide_eq_true n5
              obtain rfl : P = true := by rw [hp]; simp [*]
              clear hp
              go_enter Tryz.func41, Tryz.ntmps41
              go_wp2_with fail
              rw [← hW]
              refine (HC3.out _).mono ?_
              rintro e w1 ⟨rfl, hB⟩
              clear d0 d1 d2 d3 d4 d5 g0 g1 g2 g3 g4 g5
              have hk := HK0.out.below hB HK0.out.lt
              have hl := HL0.out.below hB HL0.out.lt
              have d0 := hk.at (o := 0) rfl
              have g0 := hl.at (o := 0) rfl
              have d1 := hk.at (o := 1) rfl
              have g1 := hl.at (o := 1) rfl
              have d2 := hk.at (o := 2) rfl
              have g2 := hl.at (o := 2) rfl
              have d3 := hk.at (o := 3) rfl
              have g3 := hl.at (o := 3) rfl
              have d4 := hk.at (o := 4) rfl
              have g4 := hl.at (o := 4) rfl
              have d5 := hk.at (o := 5) rfl
              have g5 := hl.at (o := 5) rfl
              have HB1 := Lib.hid (HB0.out.trans (hB.mono HB0.out.size)); clear hB hk hl
              go_wp2_with fail
              go_ret
              exact ⟨by first | rfl | simp [*], HB1.out⟩
      case neg =>
        have y2 : (te1 == [42]) = false := beq_eq_false_iff_ne.2 y1
        by_cases y3 : te1 = te2
        case pos =>
          subst y3
          cases b3 with
          | false =>
            obtain rfl : P = false := by rw [hp]; simp [*]
            clear hp
            go_enter Tryz.func41, Tryz.ntmps41
            go_wp2_with fail
            rw [← hW]
            refine (HC3.out _).mono ?_
            rintro e w1 ⟨rfl, hB⟩
            clear d0 d1 d2 d3 d4 d5 g0 g1 g2 g3 g4 g5
            have hk := HK0.out.below hB HK0.out.lt
            have hl := HL0.out.below hB HL0.out.lt
            have d0 := hk.at (o := 0) rfl
            have g0 := hl.at (o := 0) rfl
            have d1 := hk.at (o := 1) rfl
            have g1 := hl.at (o := 1) rfl
            have d2 := hk.at (o := 2) rfl
            have g2 := hl.at (o := 2) rfl
            have d3 := hk.at (o := 3) rfl
            have g3 := hl.at (o := 3) rfl
            have d4 := hk.at (o := 4) rfl
            have g4 := hl.at (o := 4) rfl
            have d5 := hk.at (o := 5) rfl
            have g5 := hl.at (o := 5) rfl
            have HB1 := Lib.hid (HB0.out.trans (hB.mono HB0.out.size)); clear hB hk hl
            go_wp2_with fail
            go_ret
            exact ⟨by first | rfl | simp [*], HB1.out⟩
          | true =>
            by_cases n4 : fr1 ≤ fr2
            case neg =>
              have n4d := decide_eq_false n4
              obtain rfl : P = false := by rw [hp]; simp [*]
              clear hp
              go_enter Tryz.func41, Tryz.ntmps41
              go_wp2_with fail
              rw [← hW]
              refine (HC3.out _).mono ?_
              rintro e w1 ⟨rfl, hB⟩
              clear d0 d1 d2 d3 d4 d5 g0 g1 g2 g3 g4 g5
              have hk := HK0.out.below hB HK0.out.lt
              have hl := HL0.out.below hB HL0.out.lt
              have d0 := hk.at (o := 0) rfl
              have g0 := hl.at (o := 0) rfl
              have d1 := hk.at (o := 1) rfl
              have g1 := hl.at (o := 1) rfl
              have d2 := hk.at (o := 2) rfl
              have g2 := hl.at (o := 2) rfl
              have d3 := hk.at (o := 3) rfl
              have g3 := hl.at (o := 3) rfl
              have d4 := hk.at (o := 4) rfl
              have g4 := hl.at (o := 4) rfl
              have d5 := hk.at (o := 5) rfl
              have g5 := hl.at (o := 5) rfl
              have HB1 := Lib.hid (HB0.out.trans (hB.mono HB0.out.size)); clear hB hk hl
              go_wp2_with fail
              go_ret
              exact ⟨by first | rfl | simp [*], HB1.out⟩
            case pos =>
              have n4d := decide_eq_true n4
              by_cases n5 : ti2 ≤ ti1
              case neg =>
                have n5d := decide_eq_false n5
                obtain rfl : P = false := by rw [hp]; simp [*]
                clear hp
                go_enter Tryz.func41, Tryz.ntmps41
                go_wp2_with fail
                rw [← hW]
                refine (HC3.out _).mono ?_
                rintro e w1 ⟨rfl, hB⟩
                clear d0 d1 d2 d3 d4 d5 g0 g1 g2 g3 g4 g5
                have hk := HK0.out.below hB HK0.out.lt
                have hl := HL0.out.below hB HL0.out.lt
                have d0 := hk.at (o := 0) rfl
                have g0 := hl.at (o := 0) rfl
                have d1 := hk.at (o := 1) rfl
                have g1 := hl.at (o := 1) rfl
                have d2 := hk.at (o := 2) rfl
                have g2 := hl.at (o := 2) rfl
                have d3 := hk.at (o := 3) rfl
                have g3 := hl.at (o := 3) rfl
                have d4 := hk.at (o := 4) rfl
                have g4 := hl.at (o := 4) rfl
                have d5 := hk.at (o := 5) rfl
                have g5 := hl.at (o := 5) rfl
                have HB1 := Lib.hid (HB0.out.trans (hB.mono HB0.out.size)); clear hB hk hl
                go_wp2_with fail
                go_ret
                exact ⟨by first | rfl | simp [*], HB1.out⟩
              case pos =>
                have n5d := decide_eq_true n5
                obtain rfl : P = true := by rw [hp]; simp [*]
                clear hp
                go_enter Tryz.func41, Tryz.ntmps41
                go_wp2_with fail
                rw [← hW]
                refine (HC3.out _).mono ?_
                rintro e w1 ⟨rfl, hB⟩
                clear d0 d1 d2 d3 d4 d5 g0 g1 g2 g3 g4 g5
                have hk := HK0.out.below hB HK0.out.lt
                have hl := HL0.out.below hB HL0.out.lt
                have d0 := hk.at (o := 0) rfl
                have g0 := hl.at (o := 0) rfl
                have d1 := hk.at (o := 1) rfl
                have g1 := hl.at (o := 1) rfl
                have d2 := hk.at (o := 2) rfl
                have g2 := hl.at (o := 2) rfl
                have d3 := hk.at (o := 3) rfl
                have g3 := hl.at (o := 3) rfl
                have d4 := hk.at (o := 4) rfl
                have g4 := hl.at (o := 4) rfl
                have d5 := hk.at (o := 5) rfl
                have g5 := hl.at (o := 5) rfl
                have HB1 := Lib.hid (HB0.out.trans (hB.mono HB0.out.size)); clear hB hk hl
                go_wp2_with fail
                go_ret
                exact ⟨by first | rfl | simp [*], HB1.out⟩
        case neg =>
          have y4 : (te1 == te2) = false := beq_eq_false_iff_ne.2 y3
          obtain rfl : P = false := by rw [hp]; simp [*]
          clear hp
          go_enter Tryz.func41, Tryz.ntmps41
          go_wp2_with fail
          go_ret
          try rw [← hW]
          exact ⟨by first | rfl | simp [*], HB0.out⟩
    case neg =>
      have x4 : (ro1 == ro2) = false := beq_eq_false_iff_ne.2 x3
      obtain rfl : P = false := by rw [hp]; simp [*]
      clear hp
      go_enter Tryz.func41, Tryz.ntmps41
      go_wp2_with fail
      go_ret
      try rw [← hW]
      exact ⟨by first | rfl | simp [*], HB0.out⟩
end Go.Proofs.YthpkmdojeegleaaGreatDoor
