/- The reference's Holds. -/
import Derived.Test.YtpihpoapapfnkaaGreatDoorRuRm
import Derived.Test.YtpihpoapapfnkaaGreatDoorRuVa
set_option maxRecDepth 100000
namespace Go.Proofs.YtpihpoapapfnkaaGreatDoor
open Go.RowKit Go.Shelf
attribute [local go_sem] Oper.semAt_some
set_option maxHeartbeats 4000000 in
theorem refHolds_any (r : RuL) (role ten host : List UInt8) (port : Int) (w : World) (hr : r.host.length ≤ 1000) (hh : host.length ≤ 1000) : Calls Tryz.prog 23 #[ragg r, str role, str ten, str host, .int .i64 port] w fun e w' => e = .returned (.bool (holdsB r role ten host port)) ∧ Below w.heap.size w w' := by
  obtain ⟨al, ro, te, ho, fr, ti⟩ := r
  simp only at hr
  have hp : holdsB ⟨al, ro, te, ho, fr, ti⟩ role ten host port = ((ro == [42] || ro == role) && (te == [42] || te == ten) && matchB ho host && decide (fr ≤ port) && decide (port ≤ ti)) := rfl
  obtain ⟨P, hP⟩ : ∃ P, P = holdsB ⟨al, ro, te, ho, fr, ti⟩ role ten host port := ⟨_, rfl⟩
  rw [← hP] at hp ⊢
  clear hP
  have HC3 := Lib.hid (fun W => refMatch_any ho host W hr hh)
  obtain ⟨b3, h3⟩ : ∃ b, b = matchB ho host := ⟨_, rfl⟩
  rw [← h3] at HC3 hp
  clear h3 hr hh
  obtain ⟨W, hW⟩ : ∃ W, W = w.alloc (.cells #[.bool al, str ro, str te, str ho, .int .i64 fr, .int .i64 ti] 33) := ⟨_, rfl⟩
  have HB0 := Lib.hid (show Below w.heap.size w W from by rw [hW]; exact (Below.refl _ w).alloc (Nat.le_refl _) _)
  have hk0 : Blk W w.heap.size [.bool al, str ro, str te, str ho, .int .i64 fr, .int .i64 ti] := by rw [hW]; exact Blk.new w _ _
  have HK0 := Lib.hid hk0
  have d0 := hk0.at (o := 0) rfl
  have d1 := hk0.at (o := 1) rfl
  have d2 := hk0.at (o := 2) rfl
  have d3 := hk0.at (o := 3) rfl
  have d4 := hk0.at (o := 4) rfl
  have d5 := hk0.at (o := 5) rfl
  rw [hW] at d0 d1 d2 d3 d4 d5
  clear hk0
  by_cases x1 : ro = [42]
  case pos =>
    subst x1
    by_cases y1 : te = [42]
    case pos =>
      subst y1
      cases b3 with
      | false =>
        obtain rfl : P = false := by rw [hp]; simp [*]
        clear hp
        go_enter Tryz.func23, Tryz.ntmps23
        go_wp2_with fail
        rw [← hW]
        refine (HC3.out _).mono ?_
        rintro e w1 ⟨rfl, hB⟩
        clear d0 d1 d2 d3 d4 d5
        have hk := HK0.out.below hB HK0.out.lt
        have d0 := hk.at (o := 0) rfl
        have d1 := hk.at (o := 1) rfl
        have d2 := hk.at (o := 2) rfl
        have d3 := hk.at (o := 3) rfl
        have d4 := hk.at (o := 4) rfl
        have d5 := hk.at (o := 5) rfl
        have HB1 := Lib.hid (HB0.out.trans (hB.mono HB0.out.size)); clear hB hk
        go_wp2_with fail
        go_ret
        exact ⟨by first | rfl | simp [*], HB1.out⟩
      | true =>
        by_cases n4 : fr ≤ port
        case neg =>
          have n4d := decide_eq_false n4
          obtain rfl : P = false := by rw [hp]; simp [*]
          clear hp
          go_enter Tryz.func23, Tryz.ntmps23
          go_wp2_with fail
          rw [← hW]
          refine (HC3.out _).mono ?_
          rintro e w1 ⟨rfl, hB⟩
          clear d0 d1 d2 d3 d4 d5
          have hk := HK0.out.below hB HK0.out.lt
          have d0 := hk.at (o := 0) rfl
          have d1 := hk.at (o := 1) rfl
          have d2 := hk.at (o := 2) rfl
          have d3 := hk.at (o := 3) rfl
          have d4 := hk.at (o := 4) rfl
          have d5 := hk.at (o := 5) rfl
          have HB1 := Lib.hid (HB0.out.trans (hB.mono HB0.out.size)); clear hB hk
          go_wp2_with fail
          go_ret
          exact ⟨by first | rfl | simp [*], HB1.out⟩
        case pos =>
          have n4d := decide_eq_true n4
          by_cases n5 : port ≤ ti
          case neg =>
            have n5d := decide_eq_false n5
            obtain rfl : P = false := by rw [hp]; simp [*]
            clear hp
            go_enter Tryz.func23, Tryz.ntmps23
            go_wp2_with fail
            rw [← hW]
            refine (HC3.out _).mono ?_
            rintro e w1 ⟨rfl, hB⟩
            clear d0 d1 d2 d3 d4 d5
            have hk := HK0.out.below hB HK0.out.lt
            have d0 := hk.at (o := 0) rfl
            have d1 := hk.at (o := 1) rfl
            have d2 := hk.at (o := 2) rfl
            have d3 := hk.at (o := 3) rfl
            have d4 := hk.at (o := 4) rfl
            have d5 := hk.at (o := 5) rfl
            have HB1 := Lib.hid (HB0.out.trans (hB.mono HB0.out.size)); clear hB hk
            go_wp2_with fail
            go_ret
            exact ⟨by first | rfl | simp [*], HB1.out⟩
          case pos =>
            have n5d := decide_eq_true n5
            obtain rfl : P = true := by rw [hp]; simp [*]
            clear hp
            go_enter Tryz.func23, Tryz.ntmps23
            go_wp2_with fail
            rw [← hW]
            refine (HC3.out _).mono ?_
            rintro e w1 ⟨rfl, hB⟩
            clear d0 d1 d2 d3 d4 d5
            have hk := HK0.out.below hB HK0.out.lt
            have d0 := hk.at (o := 0) rfl
            have d1 := hk.at (o := 1) rfl
            have d2 := hk.at (o := 2) rfl
            have d3 := hk.at (o := 3) rfl
            have d4 := hk.at (o := 4) rfl
            have d5 := hk.at (o := 5) rfl
            have HB1 := Lib.hid (HB0.out.trans (hB.mono HB0.out.size)); clear hB hk
            go_wp2_with fail
            go_ret
            exact ⟨by first | rfl | simp [*], HB1.out⟩
    case neg =>
      have y2 : (te == [42]) = false := beq_eq_false_iff_ne.2 y1
      by_cases y3 : te = ten
      case pos =>
        subst y3
        cases b3 with
        | false =>
          obtain rfl : P = false := by rw [hp]; simp [*]
          clear hp
          go_enter Tryz.func23, Tryz.ntmps23
          go_wp2_with fail
          rw [← hW]
          refine (HC3.out _).mono ?_
          rintro e w1 ⟨rfl, hB⟩
          clear d0 d1 d2 d3 d4 d5
          have hk := HK0.out.below hB HK0.out.lt
          have d0 := hk.at (o := 0) rfl
          have d1 := hk.at (o := 1) rfl
          have d2 := hk.at (o := 2) rfl
          have d3 := hk.at (o := 3) rfl
          have d4 := hk.at (o := 4) rfl
          have d5 := hk.at (o := 5) rfl
          have HB1 := Lib.hid (HB0.out.trans (hB.mono HB0.out.size)); clear hB hk
          go_wp2_with fail
          go_ret
          exact ⟨by first | rfl | simp [*], HB1.out⟩
        | true =>
          by_cases n4 : fr ≤ port
          case neg =>
            have n4d := decide_eq_false n4
            obtain rfl : P = false := by rw [hp]; simp [*]
            clear hp
            go_enter Tryz.func23, Tryz.ntmps23
            go_wp2_with fail
            rw [← hW]
            refine (HC3.out _).mono ?_
            rintro e w1 ⟨rfl, hB⟩
            clear d0 d1 d2 d3 d4 d5
            have hk := HK0.out.below hB HK0.out.lt
            have d0 := hk.at (o := 0) rfl
            have d1 := hk.at (o := 1) rfl
            have d2 := hk.at (o := 2) rfl
            have d3 := hk.at (o := 3) rfl
            have d4 := hk.at (o := 4) rfl
            have d5 := hk.at (o := 5) rfl
            have HB1 := Lib.hid (HB0.out.trans (hB.mono HB0.out.size)); clear hB hk
            go_wp2_with fail
            go_ret
            exact ⟨by first | rfl | simp [*], HB1.out⟩
          case pos =>
            have n4d := decide_eq_true n4
            by_cases n5 : port ≤ ti
            case neg =>
              have n5d := decide_eq_false n5
              obtain rfl : P = false := by rw [hp]; simp [*]
              clear hp
              go_enter Tryz.func23, Tryz.ntmps23
              go_wp2_with fail
              rw [← hW]
              refine (HC3.out _).mono ?_
              rintro e w1 ⟨rfl, hB⟩
              clear d0 d1 d2 d3 d4 d5
              have hk := HK0.out.below hB HK0.out.lt
              have d0 := hk.at (o := 0) rfl
              have d1 := hk.at (o := 1) rfl
              have d2 := hk.at (o := 2) rfl
              have d3 := hk.at (o := 3) rfl
              have d4 := hk.at (o := 4) rfl
              have d5 := hk.at (o := 5) rfl
              have HB1 := Lib.hid (HB0.out.trans (hB.mono HB0.out.size)); clear hB hk
              go_wp2_with fail
              go_ret
              exact ⟨by first | rfl | simp [*], HB1.out⟩
            case pos =>
              have n5d := decide_eq_true n5
              obtain rfl : P = true := by rw [hp]; simp [*]
              clear hp
              go_enter Tryz.func23, Tryz.ntmps23
              go_wp2_with fail
              rw [← hW]
              refine (HC3.out _).mono ?_
              rintro e w1 ⟨rfl, hB⟩
              clear d0 d1 d2 d3 d4 d5
              have hk := HK0.out.below hB HK0.out.lt
              have d0 := hk.at (o := 0) rfl
              have d1 := hk.at (o := 1) rfl
              have d2 := hk.at (o := 2) rfl
              have d3 := hk.at (o := 3) rfl
              have d4 := hk.at (o := 4) rfl
              have d5 := hk.at (o := 5) rfl
              have HB1 := Lib.hid (HB0.out.trans (hB.mono HB0.out.size)); clear hB hk
              go_wp2_with fail
              go_ret
              exact ⟨by first | rfl | simp [*], HB1.out⟩
      case neg =>
        have y4 : (te == ten) = false := beq_eq_false_iff_ne.2 y3
        obtain rfl : P = false := by rw [hp]; simp [*]
        clear hp
        go_enter Tryz.func23, Tryz.ntmps23
        go_wp2_with fail
        go_ret
        try rw [← hW]
        exact ⟨by first | rfl | simp [*], HB0.out⟩
  case neg =>
    have x2 : (ro == [42]) = false := beq_eq_false_iff_ne.2 x1
    by_cases x3 : ro = role
    case pos =>
      subst x3
      by_cases y1 : te = [42]
      case pos =>
        subst y1
        cases b3 with
        | false =>
          obtain rfl : P = false := by rw [hp]; simp [*]
          clear hp
          go_enter Tryz.func23, Tryz.ntmps23
          go_wp2_with fail
          rw [← hW]
          refine (HC3.out _).mono ?_
          rintro e w1 ⟨rfl, hB⟩
          clear d0 d1 d2 d3 d4 d5
          have hk := HK0.out.below hB HK0.out.lt
          have d0 := hk.at (o := 0) rfl
          have d1 := hk.at (o := 1) rfl
          have d2 := hk.at (o := 2) rfl
          have d3 := hk.at (o := 3) rfl
          have d4 := hk.at (o := 4) rfl
          have d5 := hk.at (o := 5) rfl
          have HB1 := Lib.hid (HB0.out.trans (hB.mono HB0.out.size)); clear hB hk
          go_wp2_with fail
          go_ret
          exact ⟨by first | rfl | simp [*], HB1.out⟩
        | true =>
          by_cases n4 : fr ≤ port
          case neg =>
            have n4d := decide_eq_false n4
            obtain rfl : P = false := by rw [hp]; simp [*]
            clear hp
            go_enter Tryz.func23, Tryz.ntmps23
            go_wp2_with fail
            rw [← hW]
            refine (HC3.out _).mono ?_
            rintro e w1 ⟨rfl, hB⟩
            clear d0 d1 d2 d3 d4 d5
            have hk := HK0.out.below hB HK0.out.lt
            have d0 := hk.at (o := 0) rfl
            have d1 := hk.at (o := 1) rfl
            have d2 := hk.at (o := 2) rfl
            have d3 := hk.at (o := 3) rfl
            have d4 := hk.at (o := 4) rfl
            have d5 := hk.at (o := 5) rfl
            have HB1 := Lib.hid (HB0.out.trans (hB.mono HB0.out.size)); clear hB hk
            go_wp2_with fail
            go_ret
            exact ⟨by first | rfl | simp [*], HB1.out⟩
          case pos =>
            have n4d := decide_eq_true n4
            by_cases n5 : port ≤ ti
            case neg =>
              have n5d := decide_eq_false n5
              obtain rfl : P = false := by rw [hp]; simp [*]
              clear hp
              go_enter Tryz.func23, Tryz.ntmps23
              go_wp2_with fail
              rw [← hW]
              refine (HC3.out _).mono ?_
              rintro e w1 ⟨rfl, hB⟩
              clear d0 d1 d2 d3 d4 d5
              have hk := HK0.out.below hB HK0.out.lt
              have d0 := hk.at (o := 0) rfl
              have d1 := hk.at (o := 1) rfl
              have d2 := hk.at (o := 2) rfl
              have d3 := hk.at (o := 3) rfl
              have d4 := hk.at (o := 4) rfl
              have d5 := hk.at (o := 5) rfl
              have HB1 := Lib.hid (HB0.out.trans (hB.mono HB0.out.size)); clear hB hk
              go_wp2_with fail
              go_ret
              exact ⟨by first | rfl | simp [*], HB1.out⟩
            case pos =>
              have n5d := decide_eq_true n5
              obtain rfl : P = true := by rw [hp]; simp [*]
              clear hp
              go_enter Tryz.func23, Tryz.ntmps23
              go_wp2_with fail
              rw [← hW]
              refine (HC3.out _).mono ?_
              rintro e w1 ⟨rfl, hB⟩
              clear d0 d1 d2 d3 d4 d5
              have hk := HK0.out.below hB HK0.out.lt
              have d0 := hk.at (o := 0) rfl
              have d1 := hk.at (o := 1) rfl
              have d2 := hk.at (o := 2) rfl
              have d3 := hk.at (o := 3) rfl
              have d4 := hk.at (o := 4) rfl
              have d5 := hk.at (o := 5) rfl
              have HB1 := Lib.hid (HB0.out.trans (hB.mono HB0.out.size)); clear hB hk
              go_wp2_with fail
              go_ret
              exact ⟨by first | rfl | simp [*], HB1.out⟩
      case neg =>
        have y2 : (te == [42]) = false := beq_eq_false_iff_ne.2 y1
        by_cases y3 : te = ten
        case pos =>
          subst y3
          cases b3 with
          | false =>
            obtain rfl : P = false := by rw [hp]; simp [*]
            clear hp
            go_enter Tryz.func23, Tryz.ntmps23
            go_wp2_with fail
            rw [← hW]
            refine (HC3.out _).mono ?_
            rintro e w1 ⟨rfl, hB⟩
            clear d0 d1 d2 d3 d4 d5
            have hk := HK0.out.below hB HK0.out.lt
            have d0 := hk.at (o := 0) rfl
            have d1 := hk.at (o := 1) rfl
            have d2 := hk.at (o := 2) rfl
            have d3 := hk.at (o := 3) rfl
            have d4 := hk.at (o := 4) rfl
            have d5 := hk.at (o := 5) rfl
            have HB1 := Lib.hid (HB0.out.trans (hB.mono HB0.out.size)); clear hB hk
            go_wp2_with fail
            go_ret
            exact ⟨by first | rfl | simp [*], HB1.out⟩
          | true =>
            by_cases n4 : fr ≤ port
            case neg =>
              have n4d := decide_eq_false n4
              obtain rfl : P = false := by rw [hp]; simp [*]
              clear hp
              go_enter Tryz.func23, Tryz.ntmps23
              go_wp2_with fail
              rw [← hW]
              refine (HC3.out _).mono ?_
              rintro e w1 ⟨rfl, hB⟩
              clear d0 d1 d2 d3 d4 d5
              have hk := HK0.out.below hB HK0.out.lt
              have d0 := hk.at (o := 0) rfl
              have d1 := hk.at (o := 1) rfl
              have d2 := hk.at (o := 2) rfl
              have d3 := hk.at (o := 3) rfl
              have d4 := hk.at (o := 4) rfl
              have d5 := hk.at (o := 5) rfl
              have HB1 := Lib.hid (HB0.out.trans (hB.mono HB0.out.size)); clear hB hk
              go_wp2_with fail
              go_ret
              exact ⟨by first | rfl | simp [*], HB1.out⟩
            case pos =>
              have n4d := decide_eq_true n4
              by_cases n5 : port ≤ ti
              case neg =>
                have n5d := decide_eq_false n5
                obtain rfl : P = false := by rw [hp]; simp [*]
                clear hp
                go_enter Tryz.func23, Tryz.ntmps23
                go_wp2_with fail
                rw [← hW]
                refine (HC3.out _).mono ?_
                rintro e w1 ⟨rfl, hB⟩
                clear d0 d1 d2 d3 d4 d5
                have hk := HK0.out.below hB HK0.out.lt
                have d0 := hk.at (o := 0) rfl
                have d1 := hk.at (o := 1) rfl
                have d2 := hk.at (o := 2) rfl
                have d3 := hk.at (o := 3) rfl
                have d4 := hk.at (o := 4) rfl
                have d5 := hk.at (o := 5) rfl
                have HB1 := Lib.hid (HB0.out.trans (hB.mono HB0.out.size)); clear hB hk
                go_wp2_with fail
                go_ret
                exact ⟨by first | rfl | simp [*], HB1.out⟩
              case pos =>
                have n5d := decide_eq_true n5
                obtain rfl : P = true := by rw [hp]; simp [*]
                clear hp
                go_enter Tryz.func23, Tryz.ntmps23
                go_wp2_with fail
                rw [← hW]
                refine (HC3.out _).mono ?_
                rintro e w1 ⟨rfl, hB⟩
                clear d0 d1 d2 d3 d4 d5
                have hk := HK0.out.below hB HK0.out.lt
                have d0 := hk.at (o := 0) rfl
                have d1 := hk.at (o := 1) rfl
                have d2 := hk.at (o := 2) rfl
                have d3 := hk.at (o := 3) rfl
                have d4 := hk.at (o := 4) rfl
                have d5 := hk.at (o := 5) rfl
                have HB1 := Lib.hid (HB0.out.trans (hB.mono HB0.out.size)); clear hB hk
                go_wp2_with fail
                go_ret
                exact ⟨by first | rfl | simp [*], HB1.out⟩
        case neg =>
          have y4 : (te == ten) = false := beq_eq_false_iff_ne.2 y3
          obtain rfl : P = false := by rw [hp]; simp [*]
          clear hp
          go_enter Tryz.func23, Tryz.ntmps23
          go_wp2_with fail
          go_ret
          try rw [← hW]
          exact ⟨by first | rfl | simp [*], HB0.out⟩
    case neg =>
      have x4 : (ro == role) = false := beq_eq_false_iff_ne.2 x3
      obtain rfl : P = false := by rw [hp]; simp [*]
      clear hp
      go_enter Tryz.func23, Tryz.ntmps23
      go_wp2_with fail
      go_ret
      try rw [← hW]
      exact ⟨by first | rfl | simp [*], HB0.out⟩
end Go.Proofs.YtpihpoapapfnkaaGreatDoor
