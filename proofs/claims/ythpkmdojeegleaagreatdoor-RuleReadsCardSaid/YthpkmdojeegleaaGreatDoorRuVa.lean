/- rule.valid, rule.Holds, the closure of New. -/
import Derived.Test.YthpkmdojeegleaaGreatDoorRuMa
namespace Go.Proofs.YthpkmdojeegleaaGreatDoor
open Go.RowKit Go.Shelf
/-- What a rule's texts may measure. -/
def SmallR (r : RuL) : Prop := r.role.length ≤ 5000 ∧ r.ten.length ≤ 5000 ∧ r.host.length ≤ 5000
set_option maxRecDepth 100000 in
set_option maxHeartbeats 4000000 in
theorem valid_any (r : RuL) (w : World) (hE : Env w) (hs : SmallR r) : Calls Tryz.prog 34 #[ragg r] w fun e w' => e = .returned (.bool (validB r)) ∧ Below w.heap.size w w' := by
  obtain ⟨al, ro, te, ho, fr, ti⟩ := r
  obtain ⟨s1, s2, s3⟩ := hs
  have hp : validB ⟨al, ro, te, ho, fr, ti⟩ = (wordB ro && wordB te && patB ho && decide (1 ≤ fr) && decide (fr ≤ ti) && decide (ti ≤ 65535)) := rfl
  obtain ⟨P, hP⟩ : ∃ P, P = validB ⟨al, ro, te, ho, fr, ti⟩ := ⟨_, rfl⟩
  rw [← hP] at hp ⊢
  clear hP
  have HC1 := Lib.hid (fun W => isWord_any ro W (by have : ro.length ≤ 5000 := s1; omega))
  have HC2 := Lib.hid (fun W => isWord_any te W (by have : te.length ≤ 5000 := s2; omega))
  have HC3 := Lib.hid (fun W => isPattern_any ho W (by have : ho.length ≤ 5000 := s3; omega))
  obtain ⟨b1, h1⟩ : ∃ b, b = wordB ro := ⟨_, rfl⟩
  obtain ⟨b2, h2⟩ : ∃ b, b = wordB te := ⟨_, rfl⟩
  obtain ⟨b3, h3⟩ : ∃ b, b = patB ho := ⟨_, rfl⟩
  rw [← h1] at HC1 hp
  rw [← h2] at HC2 hp
  rw [← h3] at HC3 hp
  clear h1 h2 h3 s1 s2 s3
  obtain ⟨W, hW⟩ : ∃ W, W = w.alloc (.cells #[.bool al, str ro, str te, str ho, .int .i64 fr, .int .i64 ti] 41) := ⟨_, rfl⟩
  have HB0 := Lib.hid (show Below w.heap.size w W from by rw [hW]; exact (Below.refl _ w).alloc (Nat.le_refl _) _)
  have HE0 := Lib.hid (hE.below HB0.out)
  have hk0 : Blk W w.heap.size [.bool al, str ro, str te, str ho, .int .i64 fr, .int .i64 ti] := by rw [hW]; exact Blk.new w _ _
  have HK0 := Lib.hid hk0
  clear hE
  have d0 := hk0.at (o := 0) rfl
  have d1 := hk0.at (o := 1) rfl
  have d2 := hk0.at (o := 2) rfl
  have d3 := hk0.at (o := 3) rfl
  have d4 := hk0.at (o := 4) rfl
  have d5 := hk0.at (o := 5) rfl
  rw [hW] at d0 d1 d2 d3 d4 d5
  clear hk0
  cases b1 with
  | false =>
    obtain rfl : P = false := by rw [hp]; simp
    clear hp
    go_enter Tryz.func34, Tryz.ntmps34
    go_wp2_with fail
    try rw [← hW]
    refine (HC1.out _).mono ?_
    rintro e w1 ⟨rfl, hB⟩
    clear d0 d1 d2 d3 d4 d5
    have hk := HK0.out.below hB HK0.out.lt
    have d0 := hk.at (o := 0) rfl
    have d1 := hk.at (o := 1) rfl
    have d2 := hk.at (o := 2) rfl
    have d3 := hk.at (o := 3) rfl
    have d4 := hk.at (o := 4) rfl
    have d5 := hk.at (o := 5) rfl
    have HK1 := Lib.hid hk; have HB1 := Lib.hid (HB0.out.trans (hB.mono HB0.out.size)); have HE1 := Lib.hid (HE0.out.below hB); clear hB hk
    go_wp2_with fail
    go_ret
    exact ⟨by first | rfl | simp [*], HB1.out⟩
  | true =>
    cases b2 with
    | false =>
      obtain rfl : P = false := by rw [hp]; simp
      clear hp
      go_enter Tryz.func34, Tryz.ntmps34
      go_wp2_with fail
      try rw [← hW]
      refine (HC1.out _).mono ?_
      rintro e w1 ⟨rfl, hB⟩
      clear d0 d1 d2 d3 d4 d5
      have hk := HK0.out.below hB HK0.out.lt
      have d0 := hk.at (o := 0) rfl
      have d1 := hk.at (o := 1) rfl
      have d2 := hk.at (o := 2) rfl
      have d3 := hk.at (o := 3) rfl
      have d4 := hk.at (o := 4) rfl
      have d5 := hk.at (o := 5) rfl
      have HK1 := Lib.hid hk; have HB1 := Lib.hid (HB0.out.trans (hB.mono HB0.out.size)); have HE1 := Lib.hid (HE0.out.below hB); clear hB hk
      go_wp2_with fail
      refine (HC2.out _).mono ?_
      rintro e w2 ⟨rfl, hB⟩
      clear d0 d1 d2 d3 d4 d5
      have hk := HK1.out.below hB HK1.out.lt
      have d0 := hk.at (o := 0) rfl
      have d1 := hk.at (o := 1) rfl
      have d2 := hk.at (o := 2) rfl
      have d3 := hk.at (o := 3) rfl
      have d4 := hk.at (o := 4) rfl
      have d5 := hk.at (o := 5) rfl
      have HK2 := Lib.hid hk; have HB2 := Lib.hid (HB1.out.trans (hB.mono HB1.out.size)); have HE2 := Lib.hid (HE1.out.below hB); clear hB hk
      go_wp2_with fail
      go_ret
      exact ⟨by first | rfl | simp [*], HB2.out⟩
    | true =>
      cases b3 with
      | false =>
        obtain rfl : P = false := by rw [hp]; simp
        clear hp
        go_enter Tryz.func34, Tryz.ntmps34
        go_wp2_with fail
        try rw [← hW]
        refine (HC1.out _).mono ?_
        rintro e w1 ⟨rfl, hB⟩
        clear d0 d1 d2 d3 d4 d5
        have hk := HK0.out.below hB HK0.out.lt
        have d0 := hk.at (o := 0) rfl
        have d1 := hk.at (o := 1) rfl
        have d2 := hk.at (o := 2) rfl
        have d3 := hk.at (o := 3) rfl
        have d4 := hk.at (o := 4) rfl
        have d5 := hk.at (o := 5) rfl
        have HK1 := Lib.hid hk; have HB1 := Lib.hid (HB0.out.trans (hB.mono HB0.out.size)); have HE1 := Lib.hid (HE0.out.below hB); clear hB hk
        go_wp2_with fail
        refine (HC2.out _).mono ?_
        rintro e w2 ⟨rfl, hB⟩
        clear d0 d1 d2 d3 d4 d5
        have hk := HK1.out.below hB HK1.out.lt
        have d0 := hk.at (o := 0) rfl
        have d1 := hk.at (o := 1) rfl
        have d2 := hk.at (o := 2) rfl
        have d3 := hk.at (o := 3) rfl
        have d4 := hk.at (o := 4) rfl
        have d5 := hk.at (o := 5) rfl
        have HK2 := Lib.hid hk; have HB2 := Lib.hid (HB1.out.trans (hB.mono HB1.out.size)); have HE2 := Lib.hid (HE1.out.below hB); clear hB hk
        go_wp2_with fail
        refine (HC3.out _).mono ?_
        rintro e w3 ⟨rfl, hB⟩
        clear d0 d1 d2 d3 d4 d5
        have hk := HK2.out.below hB HK2.out.lt
        have d0 := hk.at (o := 0) rfl
        have d1 := hk.at (o := 1) rfl
        have d2 := hk.at (o := 2) rfl
        have d3 := hk.at (o := 3) rfl
        have d4 := hk.at (o := 4) rfl
        have d5 := hk.at (o := 5) rfl
        have HK3 := Lib.hid hk; have HB3 := Lib.hid (HB2.out.trans (hB.mono HB2.out.size)); have HE3 := Lib.hid (HE2.out.below hB); clear hB hk
        go_wp2_with fail
        go_ret
        exact ⟨by first | rfl | simp [*], HB3.out⟩
      | true =>
        by_cases n4 : 1 ≤ fr
        case neg =>
          obtain rfl : P = false := by rw [hp]; simp [n4]
          have n4d := decide_eq_false n4
          clear hp
          go_enter Tryz.func34, Tryz.ntmps34
          go_wp2_with fail
          try rw [← hW]
          refine (HC1.out _).mono ?_
          rintro e w1 ⟨rfl, hB⟩
          clear d0 d1 d2 d3 d4 d5
          have hk := HK0.out.below hB HK0.out.lt
          have d0 := hk.at (o := 0) rfl
          have d1 := hk.at (o := 1) rfl
          have d2 := hk.at (o := 2) rfl
          have d3 := hk.at (o := 3) rfl
          have d4 := hk.at (o := 4) rfl
          have d5 := hk.at (o := 5) rfl
          have HK1 := Lib.hid hk; have HB1 := Lib.hid (HB0.out.trans (hB.mono HB0.out.size)); have HE1 := Lib.hid (HE0.out.below hB); clear hB hk
          go_wp2_with fail
          refine (HC2.out _).mono ?_
          rintro e w2 ⟨rfl, hB⟩
          clear d0 d1 d2 d3 d4 d5
          have hk := HK1.out.below hB HK1.out.lt
          have d0 := hk.at (o := 0) rfl
          have d1 := hk.at (o := 1) rfl
          have d2 := hk.at (o := 2) rfl
          have d3 := hk.at (o := 3) rfl
          have d4 := hk.at (o := 4) rfl
          have d5 := hk.at (o := 5) rfl
          have HK2 := Lib.hid hk; have HB2 := Lib.hid (HB1.out.trans (hB.mono HB1.out.size)); have HE2 := Lib.hid (HE1.out.below hB); clear hB hk
          go_wp2_with fail
          refine (HC3.out _).mono ?_
          rintro e w3 ⟨rfl, hB⟩
          clear d0 d1 d2 d3 d4 d5
          have hk := HK2.out.below hB HK2.out.lt
          have d0 := hk.at (o := 0) rfl
          have d1 := hk.at (o := 1) rfl
          have d2 := hk.at (o := 2) rfl
          have d3 := hk.at (o := 3) rfl
          have d4 := hk.at (o := 4) rfl
          have d5 := hk.at (o := 5) rfl
          have HK3 := Lib.hid hk; have HB3 := Lib.hid (HB2.out.trans (hB.mono HB2.out.size)); have HE3 := Lib.hid (HE2.out.below hB); clear hB hk
          go_wp2_with fail
          go_ret
          exact ⟨by first | rfl | simp [*], HB3.out⟩
        case pos =>
          have n4d := decide_eq_true n4
          by_cases n5 : fr ≤ ti
          case neg =>
            obtain rfl : P = false := by rw [hp]; simp [n5]
            have n5d := decide_eq_false n5
            clear hp
            go_enter Tryz.func34, Tryz.ntmps34
            go_wp2_with fail
            try rw [← hW]
            refine (HC1.out _).mono ?_
            rintro e w1 ⟨rfl, hB⟩
            clear d0 d1 d2 d3 d4 d5
            have hk := HK0.out.below hB HK0.out.lt
            have d0 := hk.at (o := 0) rfl
            have d1 := hk.at (o := 1) rfl
            have d2 := hk.at (o := 2) rfl
            have d3 := hk.at (o := 3) rfl
            have d4 := hk.at (o := 4) rfl
            have d5 := hk.at (o := 5) rfl
            have HK1 := Lib.hid hk; have HB1 := Lib.hid (HB0.out.trans (hB.mono HB0.out.size)); have HE1 := Lib.hid (HE0.out.below hB); clear hB hk
            go_wp2_with fail
            refine (HC2.out _).mono ?_
            rintro e w2 ⟨rfl, hB⟩
            clear d0 d1 d2 d3 d4 d5
            have hk := HK1.out.below hB HK1.out.lt
            have d0 := hk.at (o := 0) rfl
            have d1 := hk.at (o := 1) rfl
            have d2 := hk.at (o := 2) rfl
            have d3 := hk.at (o := 3) rfl
            have d4 := hk.at (o := 4) rfl
            have d5 := hk.at (o := 5) rfl
            have HK2 := Lib.hid hk; have HB2 := Lib.hid (HB1.out.trans (hB.mono HB1.out.size)); have HE2 := Lib.hid (HE1.out.below hB); clear hB hk
            go_wp2_with fail
            refine (HC3.out _).mono ?_
            rintro e w3 ⟨rfl, hB⟩
            clear d0 d1 d2 d3 d4 d5
            have hk := HK2.out.below hB HK2.out.lt
            have d0 := hk.at (o := 0) rfl
            have d1 := hk.at (o := 1) rfl
            have d2 := hk.at (o := 2) rfl
            have d3 := hk.at (o := 3) rfl
            have d4 := hk.at (o := 4) rfl
            have d5 := hk.at (o := 5) rfl
            have HK3 := Lib.hid hk; have HB3 := Lib.hid (HB2.out.trans (hB.mono HB2.out.size)); have HE3 := Lib.hid (HE2.out.below hB); clear hB hk
            go_wp2_with fail
            go_ret
            exact ⟨by first | rfl | simp [*], HB3.out⟩
          case pos =>
            have n5d := decide_eq_true n5
            by_cases n6 : ti ≤ 65535
            case neg =>
              obtain rfl : P = false := by rw [hp]; simp [n6]
              have n6d := decide_eq_false n6
              clear hp
              go_enter Tryz.func34, Tryz.ntmps34
              go_wp2_with fail
              try rw [← hW]
              refine (HC1.out _).mono ?_
              rintro e w1 ⟨rfl, hB⟩
              clear d0 d1 d2 d3 d4 d5
              have hk := HK0.out.below hB HK0.out.lt
              have d0 := hk.at (o := 0) rfl
              have d1 := hk.at (o := 1) rfl
              have d2 := hk.at (o := 2) rfl
              have d3 := hk.at (o := 3) rfl
              have d4 := hk.at (o := 4) rfl
              have d5 := hk.at (o := 5) rfl
              have HK1 := Lib.hid hk; have HB1 := Lib.hid (HB0.out.trans (hB.mono HB0.out.size)); have HE1 := Lib.hid (HE0.out.below hB); clear hB hk
              go_wp2_with fail
              refine (HC2.out _).mono ?_
              rintro e w2 ⟨rfl, hB⟩
              clear d0 d1 d2 d3 d4 d5
              have hk := HK1.out.below hB HK1.out.lt
              have d0 := hk.at (o := 0) rfl
              have d1 := hk.at (o := 1) rfl
              have d2 := hk.at (o := 2) rfl
              have d3 := hk.at (o := 3) rfl
              have d4 := hk.at (o := 4) rfl
              have d5 := hk.at (o := 5) rfl
              have HK2 := Lib.hid hk; have HB2 := Lib.hid (HB1.out.trans (hB.mono HB1.out.size)); have HE2 := Lib.hid (HE1.out.below hB); clear hB hk
              go_wp2_with fail
              refine (HC3.out _).mono ?_
              rintro e w3 ⟨rfl, hB⟩
              clear d0 d1 d2 d3 d4 d5
              have hk := HK2.out.below hB HK2.out.lt
              have d0 := hk.at (o := 0) rfl
              have d1 := hk.at (o := 1) rfl
              have d2 := hk.at (o := 2) rfl
              have d3 := hk.at (o := 3) rfl
              have d4 := hk.at (o := 4) rfl
              have d5 := hk.at (o := 5) rfl
              have HK3 := Lib.hid hk; have HB3 := Lib.hid (HB2.out.trans (hB.mono HB2.out.size)); have HE3 := Lib.hid (HE2.out.below hB); clear hB hk
              go_wp2_with fail
              go_ret
              exact ⟨by first | rfl | simp [*], HB3.out⟩
            case pos =>
              have n6d := decide_eq_true n6
              obtain rfl := hp
              go_enter Tryz.func34, Tryz.ntmps34
              go_wp2_with fail
              try rw [← hW]
              refine (HC1.out _).mono ?_
              rintro e w1 ⟨rfl, hB⟩
              clear d0 d1 d2 d3 d4 d5
              have hk := HK0.out.below hB HK0.out.lt
              have d0 := hk.at (o := 0) rfl
              have d1 := hk.at (o := 1) rfl
              have d2 := hk.at (o := 2) rfl
              have d3 := hk.at (o := 3) rfl
              have d4 := hk.at (o := 4) rfl
              have d5 := hk.at (o := 5) rfl
              have HK1 := Lib.hid hk; have HB1 := Lib.hid (HB0.out.trans (hB.mono HB0.out.size)); have HE1 := Lib.hid (HE0.out.below hB); clear hB hk
              go_wp2_with fail
              refine (HC2.out _).mono ?_
              rintro e w2 ⟨rfl, hB⟩
              clear d0 d1 d2 d3 d4 d5
              have hk := HK1.out.below hB HK1.out.lt
              have d0 := hk.at (o := 0) rfl
              have d1 := hk.at (o := 1) rfl
              have d2 := hk.at (o := 2) rfl
              have d3 := hk.at (o := 3) rfl
              have d4 := hk.at (o := 4) rfl
              have d5 := hk.at (o := 5) rfl
              have HK2 := Lib.hid hk; have HB2 := Lib.hid (HB1.out.trans (hB.mono HB1.out.size)); have HE2 := Lib.hid (HE1.out.below hB); clear hB hk
              go_wp2_with fail
              refine (HC3.out _).mono ?_
              rintro e w3 ⟨rfl, hB⟩
              clear d0 d1 d2 d3 d4 d5
              have hk := HK2.out.below hB HK2.out.lt
              have d0 := hk.at (o := 0) rfl
              have d1 := hk.at (o := 1) rfl
              have d2 := hk.at (o := 2) rfl
              have d3 := hk.at (o := 3) rfl
              have d4 := hk.at (o := 4) rfl
              have d5 := hk.at (o := 5) rfl
              have HK3 := Lib.hid hk; have HB3 := Lib.hid (HB2.out.trans (hB.mono HB2.out.size)); have HE3 := Lib.hid (HE2.out.below hB); clear hB hk
              go_wp2_with fail
              go_ret
              exact ⟨by first | rfl | simp [*], HB3.out⟩
set_option maxRecDepth 100000 in
set_option maxHeartbeats 4000000 in
theorem holds_any (r : RuL) (role ten host : List UInt8) (port : Int) (w : World) (hE : Env w) (hs : SmallR r) (hh : host.length ≤ 1000) :
    Calls Tryz.prog 43 #[ragg r, str role, str ten, str host, .int .i64 port] w fun e w' => e = .returned (.bool (holdsB r role ten host port)) ∧ Below w.heap.size w w' := by
  obtain ⟨al, ro, te, ho, fr, ti⟩ := r
  obtain ⟨s1, s2, s3⟩ := hs
  have hp : holdsB ⟨al, ro, te, ho, fr, ti⟩ role ten host port = (forB ro role && forB te ten && matchB ho host && decide (fr ≤ port) && decide (port ≤ ti)) := rfl
  obtain ⟨P, hP⟩ : ∃ P, P = holdsB ⟨al, ro, te, ho, fr, ti⟩ role ten host port := ⟨_, rfl⟩
  rw [← hP] at hp ⊢
  clear hP
  have HC1 := Lib.hid (fun W => isFor_any ro role W)
  have HC2 := Lib.hid (fun W => isFor_any te ten W)
  have HC3 := Lib.hid (fun W (h : Env W) => match_any ho host W h (by have : ho.length ≤ 5000 := s3; omega) hh)
  obtain ⟨b1, h1⟩ : ∃ b, b = forB ro role := ⟨_, rfl⟩
  obtain ⟨b2, h2⟩ : ∃ b, b = forB te ten := ⟨_, rfl⟩
  obtain ⟨b3, h3⟩ : ∃ b, b = matchB ho host := ⟨_, rfl⟩
  rw [← h1] at HC1 hp
  rw [← h2] at HC2 hp
  rw [← h3] at HC3 hp
  clear h1 h2 h3 s1 s2 s3 hh
  obtain ⟨W, hW⟩ : ∃ W, W = w.alloc (.cells #[.bool al, str ro, str te, str ho, .int .i64 fr, .int .i64 ti] 41) := ⟨_, rfl⟩
  have HB0 := Lib.hid (show Below w.heap.size w W from by rw [hW]; exact (Below.refl _ w).alloc (Nat.le_refl _) _)
  have HE0 := Lib.hid (hE.below HB0.out)
  have hk0 : Blk W w.heap.size [.bool al, str ro, str te, str ho, .int .i64 fr, .int .i64 ti] := by rw [hW]; exact Blk.new w _ _
  have HK0 := Lib.hid hk0
  clear hE
  have d0 := hk0.at (o := 0) rfl
  have d1 := hk0.at (o := 1) rfl
  have d2 := hk0.at (o := 2) rfl
  have d3 := hk0.at (o := 3) rfl
  have d4 := hk0.at (o := 4) rfl
  have d5 := hk0.at (o := 5) rfl
  rw [hW] at d0 d1 d2 d3 d4 d5
  clear hk0
  cases b1 with
  | false =>
    obtain rfl : P = false := by rw [hp]; simp
    clear hp
    go_enter Tryz.func43, Tryz.ntmps43
    go_wp2_with fail
    try rw [← hW]
    refine (HC1.out _).mono ?_
    rintro e w1 ⟨rfl, rfl⟩
    have HB1 := HB0; have HE1 := HE0; have HK1 := HK0
    go_wp2_with fail
    go_ret
    try rw [← hW]
    exact ⟨by first | rfl | simp [*], HB1.out⟩
  | true =>
    cases b2 with
    | false =>
      obtain rfl : P = false := by rw [hp]; simp
      clear hp
      go_enter Tryz.func43, Tryz.ntmps43
      go_wp2_with fail
      try rw [← hW]
      refine (HC1.out _).mono ?_
      rintro e w1 ⟨rfl, rfl⟩
      have HB1 := HB0; have HE1 := HE0; have HK1 := HK0
      go_wp2_with fail
      try rw [← hW]
      refine (HC2.out _).mono ?_
      rintro e w2 ⟨rfl, rfl⟩
      have HB2 := HB1; have HE2 := HE1; have HK2 := HK1
      go_wp2_with fail
      go_ret
      try rw [← hW]
      exact ⟨by first | rfl | simp [*], HB2.out⟩
    | true =>
      cases b3 with
      | false =>
        obtain rfl : P = false := by rw [hp]; simp
        clear hp
        go_enter Tryz.func43, Tryz.ntmps43
        go_wp2_with fail
        try rw [← hW]
        refine (HC1.out _).mono ?_
        rintro e w1 ⟨rfl, rfl⟩
        have HB1 := HB0; have HE1 := HE0; have HK1 := HK0
        go_wp2_with fail
        try rw [← hW]
        refine (HC2.out _).mono ?_
        rintro e w2 ⟨rfl, rfl⟩
        have HB2 := HB1; have HE2 := HE1; have HK2 := HK1
        go_wp2_with fail
        try rw [← hW]
        refine (HC3.out _ HE2.out).mono ?_
        rintro e w3 ⟨rfl, hB⟩
        clear d0 d1 d2 d3 d4 d5
        have hk := HK2.out.below hB HK2.out.lt
        have d0 := hk.at (o := 0) rfl
        have d1 := hk.at (o := 1) rfl
        have d2 := hk.at (o := 2) rfl
        have d3 := hk.at (o := 3) rfl
        have d4 := hk.at (o := 4) rfl
        have d5 := hk.at (o := 5) rfl
        have HK3 := Lib.hid hk; have HB3 := Lib.hid (HB2.out.trans (hB.mono HB2.out.size)); have HE3 := Lib.hid (HE2.out.below hB); clear hB hk
        go_wp2_with fail
        go_ret
        exact ⟨by first | rfl | simp [*], HB3.out⟩
      | true =>
        by_cases n4 : fr ≤ port
        case neg =>
          obtain rfl : P = false := by rw [hp]; simp [n4]
          have n4d := decide_eq_false n4
          clear hp
          go_enter Tryz.func43, Tryz.ntmps43
          go_wp2_with fail
          try rw [← hW]
          refine (HC1.out _).mono ?_
          rintro e w1 ⟨rfl, rfl⟩
          have HB1 := HB0; have HE1 := HE0; have HK1 := HK0
          go_wp2_with fail
          try rw [← hW]
          refine (HC2.out _).mono ?_
          rintro e w2 ⟨rfl, rfl⟩
          have HB2 := HB1; have HE2 := HE1; have HK2 := HK1
          go_wp2_with fail
          try rw [← hW]
          refine (HC3.out _ HE2.out).mono ?_
          rintro e w3 ⟨rfl, hB⟩
          clear d0 d1 d2 d3 d4 d5
          have hk := HK2.out.below hB HK2.out.lt
          have d0 := hk.at (o := 0) rfl
          have d1 := hk.at (o := 1) rfl
          have d2 := hk.at (o := 2) rfl
          have d3 := hk.at (o := 3) rfl
          have d4 := hk.at (o := 4) rfl
          have d5 := hk.at (o := 5) rfl
          have HK3 := Lib.hid hk; have HB3 := Lib.hid (HB2.out.trans (hB.mono HB2.out.size)); have HE3 := Lib.hid (HE2.out.below hB); clear hB hk
          go_wp2_with fail
          go_ret
          exact ⟨by first | rfl | simp [*], HB3.out⟩
        case pos =>
          have n4d := decide_eq_true n4
          by_cases n5 : port ≤ ti
          case neg =>
            obtain rfl : P = false := by rw [hp]; simp [n5]
            have n5d := decide_eq_false n5
            clear hp
            go_enter Tryz.func43, Tryz.ntmps43
            go_wp2_with fail
            try rw [← hW]
            refine (HC1.out _).mono ?_
            rintro e w1 ⟨rfl, rfl⟩
            have HB1 := HB0; have HE1 := HE0; have HK1 := HK0
            go_wp2_with fail
            try rw [← hW]
            refine (HC2.out _).mono ?_
            rintro e w2 ⟨rfl, rfl⟩
            have HB2 := HB1; have HE2 := HE1; have HK2 := HK1
            go_wp2_with fail
            try rw [← hW]
            refine (HC3.out _ HE2.out).mono ?_
            rintro e w3 ⟨rfl, hB⟩
            clear d0 d1 d2 d3 d4 d5
            have hk := HK2.out.below hB HK2.out.lt
            have d0 := hk.at (o := 0) rfl
            have d1 := hk.at (o := 1) rfl
            have d2 := hk.at (o := 2) rfl
            have d3 := hk.at (o := 3) rfl
            have d4 := hk.at (o := 4) rfl
            have d5 := hk.at (o := 5) rfl
            have HK3 := Lib.hid hk; have HB3 := Lib.hid (HB2.out.trans (hB.mono HB2.out.size)); have HE3 := Lib.hid (HE2.out.below hB); clear hB hk
            go_wp2_with fail
            go_ret
            exact ⟨by first | rfl | simp [*], HB3.out⟩
          case pos =>
            have n5d := decide_eq_true n5
            obtain rfl := hp
            go_enter Tryz.func43, Tryz.ntmps43
            go_wp2_with fail
            try rw [← hW]
            refine (HC1.out _).mono ?_
            rintro e w1 ⟨rfl, rfl⟩
            have HB1 := HB0; have HE1 := HE0; have HK1 := HK0
            go_wp2_with fail
            try rw [← hW]
            refine (HC2.out _).mono ?_
            rintro e w2 ⟨rfl, rfl⟩
            have HB2 := HB1; have HE2 := HE1; have HK2 := HK1
            go_wp2_with fail
            try rw [← hW]
            refine (HC3.out _ HE2.out).mono ?_
            rintro e w3 ⟨rfl, hB⟩
            clear d0 d1 d2 d3 d4 d5
            have hk := HK2.out.below hB HK2.out.lt
            have d0 := hk.at (o := 0) rfl
            have d1 := hk.at (o := 1) rfl
            have d2 := hk.at (o := 2) rfl
            have d3 := hk.at (o := 3) rfl
            have d4 := hk.at (o := 4) rfl
            have d5 := hk.at (o := 5) rfl
            have HK3 := Lib.hid hk; have HB3 := Lib.hid (HB2.out.trans (hB.mono HB2.out.size)); have HE3 := Lib.hid (HE2.out.below hB); clear hB hk
            go_wp2_with fail
            go_ret
            exact ⟨by first | rfl | simp [*], HB3.out⟩
end Go.Proofs.YthpkmdojeegleaaGreatDoor
