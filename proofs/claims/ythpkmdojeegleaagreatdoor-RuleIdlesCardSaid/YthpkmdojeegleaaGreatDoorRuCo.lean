/- rule.coversHost, rule.Covers. -/
import Derived.Test.YthpkmdojeegleaaGreatDoorRuVa
namespace Go.Proofs.YthpkmdojeegleaaGreatDoor
open Go.RowKit Go.Shelf
set_option maxRecDepth 100000 in
set_option maxHeartbeats 4000000 in
theorem coversH_any (a b : List UInt8) (w : World) (hE : Env w) (ha : a.length ≤ 10000) (hb : b.length ≤ 10000) : Calls Tryz.prog 58 #[str a, str b] w fun e w' => e = .returned (.bool (overP a b)) ∧ Below w.heap.size w w' := by
  have hd : overP a b = if a = b then true else if a.count 42 ≠ 1 then false else ((Lib.cut a [42]).2.1 == [] && Lib.hasPrefix b (Lib.cut a [42]).1) || ((Lib.cut a [42]).1 == [] && Lib.hasSuffix b (Lib.cut a [42]).2.1) := by unfold overP; rfl
  have HCT := Lib.hid (Tryz.strings_Count_one ⟨a.toArray⟩ 42 w)
  simp only [] at HCT
  have hcl := List.count_le_length (a := (42 : UInt8)) (l := a)
  have HC := Lib.hid (cut_ru a [42] w hE (by omega))
  obtain ⟨P, hP⟩ : ∃ P, P = overP a b := ⟨_, rfl⟩
  rw [← hP] at hd ⊢
  obtain ⟨A, B, z, hc⟩ : ∃ A B z, Lib.cut a [42] = (A, B, z) := ⟨_, _, _, rfl⟩
  rw [hc] at HC hd
  simp only at HC hd
  have hct : Lib.countByte a 42 = a.count 42 := rfl
  rw [hct] at HCT
  obtain ⟨n, hn⟩ : ∃ n, n = a.count 42 := ⟨_, rfl⟩
  rw [← hn] at HCT hd hcl
  have HPF := Lib.hid (fun W => Tryz.strings_HasPrefix ⟨b.toArray⟩ ⟨A.toArray⟩ W)
  have HSF := Lib.hid (fun W => Tryz.strings_HasSuffix ⟨b.toArray⟩ ⟨B.toArray⟩ W (by simp [ByteArray.size]; omega))
  simp only [] at HPF HSF
  obtain ⟨p, hp⟩ : ∃ p, p = Lib.hasPrefix b A := ⟨_, rfl⟩
  obtain ⟨q, hq⟩ : ∃ q, q = Lib.hasSuffix b B := ⟨_, rfl⟩
  rw [← hp] at HPF hd
  rw [← hq] at HSF hd
  clear hP hc hct hn hp hq hE
  by_cases hab : a = b
  · rw [if_pos hab] at hd
    subst hab hd
    clear HCT HC HPF HSF
    go_enter Tryz.func58, Tryz.ntmps58
    go_wp2_with fail
    go_ret
    exact ⟨rfl, Below.refl _ _⟩
  · rw [if_neg hab] at hd
    have hab2 : (a == b) = false := by rw [beq_eq_false_iff_ne]; exact hab
    by_cases h1 : n = 1
    · rw [if_neg (by simp [h1])] at hd
      subst h1
      have hA : A = [] ∨ (A.isEmpty = false ∧ (A == []) = false) := by cases A; exact .inl rfl; exact .inr ⟨rfl, rfl⟩
      have hB : B = [] ∨ (B.isEmpty = false ∧ (B == []) = false) := by cases B; exact .inl rfl; exact .inr ⟨rfl, rfl⟩
      rcases hA with rfl | ⟨hA1, hA2⟩ <;> rcases hB with rfl | ⟨hB1, hB2⟩ <;> cases p <;> cases q
      all_goals
        try rw [hA2] at hd
        try rw [hB2] at hd
        first | (have hd3 : P = true := hd.trans (by first | rfl | decide)
                 subst hd3) | (have hd3 : P = false := hd.trans (by first | rfl | decide)
                               subst hd3)
        clear hd
        go_enter Tryz.func58, Tryz.ntmps58
        go_wp2_with fail
        refine HCT.out.mono ?_
        rintro e w1 ⟨rfl, rfl⟩
        go_wp2_with fail
        refine HC.out.mono ?_
        rintro e w2 ⟨rfl, hB2⟩
        have HB2 := Lib.hid hB2; clear hB2 HC HCT
        go_wp2_with fail
        try (refine (HPF.out _).mono ?_; rintro e w3 ⟨rfl, rfl⟩; go_wp2_with fail)
        try (refine (HSF.out _).mono ?_; rintro e w3 ⟨rfl, rfl⟩; go_wp2_with fail)
        go_ret
        first | exact ⟨rfl, HB2.out⟩ | exact ⟨by simp, HB2.out⟩
    · rw [if_pos h1] at hd
      subst hd
      have hn1 : ((n : Int) == 1) = false := by rw [beq_eq_false_iff_ne]; omega
      have hn2 : ((n : Int) != 1) = true := by rw [bne_iff_ne]; omega
      clear h1 HC HPF HSF
      go_enter Tryz.func58, Tryz.ntmps58
      go_wp2_with fail
      refine HCT.out.mono ?_
      rintro e w1 ⟨rfl, rfl⟩
      go_wp2_with fail
      go_ret
      exact ⟨rfl, Below.refl _ _⟩
set_option maxRecDepth 100000 in
set_option maxHeartbeats 4000000 in
theorem covers_any (r o : RuL) (w : World) (hE : Env w) (hs : SmallR r) (hs2 : SmallR o) : Calls Tryz.prog 40 #[ragg r, ragg o] w fun e w' => e = .returned (.bool (coversB r o)) ∧ Below w.heap.size w w' := by
  obtain ⟨al1, ro1, te1, ho1, fr1, ti1⟩ := r
  obtain ⟨al2, ro2, te2, ho2, fr2, ti2⟩ := o
  have hp : coversB ⟨al1, ro1, te1, ho1, fr1, ti1⟩ ⟨al2, ro2, te2, ho2, fr2, ti2⟩ = (forB ro1 ro2 && forB te1 te2 && overP ho1 ho2 && decide (fr1 ≤ fr2) && decide (ti2 ≤ ti1)) := rfl
  obtain ⟨P, hP⟩ : ∃ P, P = coversB ⟨al1, ro1, te1, ho1, fr1, ti1⟩ ⟨al2, ro2, te2, ho2, fr2, ti2⟩ := ⟨_, rfl⟩
  rw [← hP] at hp ⊢
  clear hP
  have HC1 := Lib.hid (fun W => isFor_any ro1 ro2 W)
  have HC2 := Lib.hid (fun W => isFor_any te1 te2 W)
  have HC3 := Lib.hid (fun W (h : Env W) => coversH_any ho1 ho2 W h (by have : ho1.length ≤ 5000 := hs.2.2; omega) (by have : ho2.length ≤ 5000 := hs2.2.2; omega))
  obtain ⟨b1, h1⟩ : ∃ b, b = forB ro1 ro2 := ⟨_, rfl⟩
  obtain ⟨b2, h2⟩ : ∃ b, b = forB te1 te2 := ⟨_, rfl⟩
  obtain ⟨b3, h3⟩ : ∃ b, b = overP ho1 ho2 := ⟨_, rfl⟩
  rw [← h1] at HC1 hp
  rw [← h2] at HC2 hp
  rw [← h3] at HC3 hp
  clear h1 h2 h3 hs hs2
  obtain ⟨W, hW⟩ : ∃ W, W = (w.alloc (.cells #[.bool al1, str ro1, str te1, str ho1, .int .i64 fr1, .int .i64 ti1] 41)).alloc (.cells #[.bool al2, str ro2, str te2, str ho2, .int .i64 fr2, .int .i64 ti2] 41) := ⟨_, rfl⟩
  have HB0 := Lib.hid (show Below w.heap.size w W from by rw [hW]; exact ((Below.refl _ w).alloc (Nat.le_refl _) _).alloc (by simp) _)
  have HE0 := Lib.hid (hE.below HB0.out)
  have hk0 : Blk W w.heap.size [.bool al1, str ro1, str te1, str ho1, .int .i64 fr1, .int .i64 ti1] := by rw [hW]; exact (Blk.new w _ _).alloc _
  have hk1 : Blk W (w.heap.size + 1) [.bool al2, str ro2, str te2, str ho2, .int .i64 fr2, .int .i64 ti2] := by
    rw [hW]
    have := Blk.new (w.alloc (.cells #[.bool al1, str ro1, str te1, str ho1, .int .i64 fr1, .int .i64 ti1] 41)) [.bool al2, str ro2, str te2, str ho2, .int .i64 fr2, .int .i64 ti2] 41
    rwa [World.size_alloc] at this
  have HK0 := Lib.hid hk0
  have HL0 := Lib.hid hk1
  clear hE
  have d0 := hk0.at (o := 0) rfl
  have g0 := hk1.at (o := 0) rfl
  have d1 := hk0.at (o := 1) rfl
  have g1 := hk1.at (o := 1) rfl
  have d2 := hk0.at (o := 2) rfl
  have g2 := hk1.at (o := 2) rfl
  have d3 := hk0.at (o := 3) rfl
  have g3 := hk1.at (o := 3) rfl
  have d4 := hk0.at (o := 4) rfl
  have g4 := hk1.at (o := 4) rfl
  have d5 := hk0.at (o := 5) rfl
  have g5 := hk1.at (o := 5) rfl
  rw [hW] at d0 d1 d2 d3 d4 d5 g0 g1 g2 g3 g4 g5
  clear hk0 hk1
  cases b1 with
  | false =>
    obtain rfl : P = false := by rw [hp]; simp
    clear hp
    go_enter Tryz.func40, Tryz.ntmps40
    go_wp2_with fail
    try rw [← hW]
    refine (HC1.out _).mono ?_
    rintro e w1 ⟨rfl, rfl⟩
    have HB1 := HB0; have HE1 := HE0; have HK1 := HK0; have HL1 := HL0
    go_wp2_with fail
    go_ret
    try rw [← hW]
    exact ⟨by first | rfl | simp [*], HB1.out⟩
  | true =>
    cases b2 with
    | false =>
      obtain rfl : P = false := by rw [hp]; simp
      clear hp
      go_enter Tryz.func40, Tryz.ntmps40
      go_wp2_with fail
      try rw [← hW]
      refine (HC1.out _).mono ?_
      rintro e w1 ⟨rfl, rfl⟩
      have HB1 := HB0; have HE1 := HE0; have HK1 := HK0; have HL1 := HL0
      go_wp2_with fail
      try rw [← hW]
      refine (HC2.out _).mono ?_
      rintro e w2 ⟨rfl, rfl⟩
      have HB2 := HB1; have HE2 := HE1; have HK2 := HK1; have HL2 := HL1
      go_wp2_with fail
      go_ret
      try rw [← hW]
      exact ⟨by first | rfl | simp [*], HB2.out⟩
    | true =>
      cases b3 with
      | false =>
        obtain rfl : P = false := by rw [hp]; simp
        clear hp
        go_enter Tryz.func40, Tryz.ntmps40
        go_wp2_with fail
        try rw [← hW]
        refine (HC1.out _).mono ?_
        rintro e w1 ⟨rfl, rfl⟩
        have HB1 := HB0; have HE1 := HE0; have HK1 := HK0; have HL1 := HL0
        go_wp2_with fail
        try rw [← hW]
        refine (HC2.out _).mono ?_
        rintro e w2 ⟨rfl, rfl⟩
        have HB2 := HB1; have HE2 := HE1; have HK2 := HK1; have HL2 := HL1
        go_wp2_with fail
        try rw [← hW]
        refine (HC3.out _ HE2.out).mono ?_
        rintro e w3 ⟨rfl, hB⟩
        clear d0 d1 d2 d3 d4 d5 g0 g1 g2 g3 g4 g5
        have hk := HK2.out.below hB HK2.out.lt
        have hl := HL2.out.below hB HL2.out.lt
        have d0 := hk.at (o := 0) rfl
        have g0 := hl.at (o := 0) rfl
        have d1 := hk.at (o := 1) rfl
        have g1 := hl.at (o := 1) rfl
        have d2 := hk.at (o := 2) rfl
        have g2 := hl.at (o := 2) rfl
        have d3 := hk.at (o := 3) rfl
        have g3 := hl.at (o := 3) rfl
        have d4 := hk.at (o := 4) rfl
        have g4 := hl.at (o := 4) rfl
        have d5 := hk.at (o := 5) rfl
        have g5 := hl.at (o := 5) rfl
        have HK3 := Lib.hid hk; have HL3 := Lib.hid hl; have HB3 := Lib.hid (HB2.out.trans (hB.mono HB2.out.size)); clear hB hk hl
        go_wp2_with fail
        go_ret
        try rw [← hW]
        exact ⟨by first | rfl | simp [*], HB3.out⟩
      | true =>
        by_cases n4 : fr1 ≤ fr2
        case neg =>
          obtain rfl : P = false := by rw [hp]; simp [n4]
          have n4d := decide_eq_false n4
          clear hp
          go_enter Tryz.func40, Tryz.ntmps40
          go_wp2_with fail
          try rw [← hW]
          refine (HC1.out _).mono ?_
          rintro e w1 ⟨rfl, rfl⟩
          have HB1 := HB0; have HE1 := HE0; have HK1 := HK0; have HL1 := HL0
          go_wp2_with fail
          try rw [← hW]
          refine (HC2.out _).mono ?_
          rintro e w2 ⟨rfl, rfl⟩
          have HB2 := HB1; have HE2 := HE1; have HK2 := HK1; have HL2 := HL1
          go_wp2_with fail
          try rw [← hW]
          refine (HC3.out _ HE2.out).mono ?_
          rintro e w3 ⟨rfl, hB⟩
          clear d0 d1 d2 d3 d4 d5 g0 g1 g2 g3 g4 g5
          have hk := HK2.out.below hB HK2.out.lt
          have hl := HL2.out.below hB HL2.out.lt
          have d0 := hk.at (o := 0) rfl
          have g0 := hl.at (o := 0) rfl
          have d1 := hk.at (o := 1) rfl
          have g1 := hl.at (o := 1) rfl
          have d2 := hk.at (o := 2) rfl
          have g2 := hl.at (o := 2) rfl
          have d3 := hk.at (o := 3) rfl
          have g3 := hl.at (o := 3) rfl
          have d4 := hk.at (o := 4) rfl
          have g4 := hl.at (o := 4) rfl
          have d5 := hk.at (o := 5) rfl
          have g5 := hl.at (o := 5) rfl
          have HK3 := Lib.hid hk; have HL3 := Lib.hid hl; have HB3 := Lib.hid (HB2.out.trans (hB.mono HB2.out.size)); clear hB hk hl
          go_wp2_with fail
          go_ret
          try rw [← hW]
          exact ⟨by first | rfl | simp [*], HB3.out⟩
        case pos =>
          have n4d := decide_eq_true n4
          by_cases n5 : ti2 ≤ ti1
          case neg =>
            obtain rfl : P = false := by rw [hp]; simp [n5]
            have n5d := decide_eq_false n5
            clear hp
            go_enter Tryz.func40, Tryz.ntmps40
            go_wp2_with fail
            try rw [← hW]
            refine (HC1.out _).mono ?_
            rintro e w1 ⟨rfl, rfl⟩
            have HB1 := HB0; have HE1 := HE0; have HK1 := HK0; have HL1 := HL0
            go_wp2_with fail
            try rw [← hW]
            refine (HC2.out _).mono ?_
            rintro e w2 ⟨rfl, rfl⟩
            have HB2 := HB1; have HE2 := HE1; have HK2 := HK1; have HL2 := HL1
            go_wp2_with fail
            try rw [← hW]
            refine (HC3.out _ HE2.out).mono ?_
            rintro e w3 ⟨rfl, hB⟩
            clear d0 d1 d2 d3 d4 d5 g0 g1 g2 g3 g4 g5
            have hk := HK2.out.below hB HK2.out.lt
            have hl := HL2.out.below hB HL2.out.lt
            have d0 := hk.at (o := 0) rfl
            have g0 := hl.at (o := 0) rfl
            have d1 := hk.at (o := 1) rfl
            have g1 := hl.at (o := 1) rfl
            have d2 := hk.at (o := 2) rfl
            have g2 := hl.at (o := 2) rfl
            have d3 := hk.at (o := 3) rfl
            have g3 := hl.at (o := 3) rfl
            have d4 := hk.at (o := 4) rfl
            have g4 := hl.at (o := 4) rfl
            have d5 := hk.at (o := 5) rfl
            have g5 := hl.at (o := 5) rfl
            have HK3 := Lib.hid hk; have HL3 := Lib.hid hl; have HB3 := Lib.hid (HB2.out.trans (hB.mono HB2.out.size)); clear hB hk hl
            go_wp2_with fail
            go_ret
            try rw [← hW]
            exact ⟨by first | rfl | simp [*], HB3.out⟩
          case pos =>
            have n5d := decide_eq_true n5
            obtain rfl := hp
            go_enter Tryz.func40, Tryz.ntmps40
            go_wp2_with fail
            try rw [← hW]
            refine (HC1.out _).mono ?_
            rintro e w1 ⟨rfl, rfl⟩
            have HB1 := HB0; have HE1 := HE0; have HK1 := HK0; have HL1 := HL0
            go_wp2_with fail
            try rw [← hW]
            refine (HC2.out _).mono ?_
            rintro e w2 ⟨rfl, rfl⟩
            have HB2 := HB1; have HE2 := HE1; have HK2 := HK1; have HL2 := HL1
            go_wp2_with fail
            try rw [← hW]
            refine (HC3.out _ HE2.out).mono ?_
            rintro e w3 ⟨rfl, hB⟩
            clear d0 d1 d2 d3 d4 d5 g0 g1 g2 g3 g4 g5
            have hk := HK2.out.below hB HK2.out.lt
            have hl := HL2.out.below hB HL2.out.lt
            have d0 := hk.at (o := 0) rfl
            have g0 := hl.at (o := 0) rfl
            have d1 := hk.at (o := 1) rfl
            have g1 := hl.at (o := 1) rfl
            have d2 := hk.at (o := 2) rfl
            have g2 := hl.at (o := 2) rfl
            have d3 := hk.at (o := 3) rfl
            have g3 := hl.at (o := 3) rfl
            have d4 := hk.at (o := 4) rfl
            have g4 := hl.at (o := 4) rfl
            have d5 := hk.at (o := 5) rfl
            have g5 := hl.at (o := 5) rfl
            have HK3 := Lib.hid hk; have HL3 := Lib.hid hl; have HB3 := Lib.hid (HB2.out.trans (hB.mono HB2.out.size)); clear hB hk hl
            go_wp2_with fail
            go_ret
            try rw [← hW]
            exact ⟨by first | rfl | simp [*], HB3.out⟩
end Go.Proofs.YthpkmdojeegleaaGreatDoor
