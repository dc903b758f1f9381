/- The reference's Text. -/
import Derived.Test.YthpkmdojeegleaaGreatDoorRuDc
import Derived.Test.YthpkmdojeegleaaGreatDoorRuRi
set_option maxRecDepth 100000
namespace Go.Proofs.YthpkmdojeegleaaGreatDoor
open Go.RowKit Go.Shelf
attribute [local go_sem] Oper.semAt_some
theorem valid_parts {r : RuL} (h : validB r = true) : r.role.length ≤ 32 ∧ r.ten.length ≤ 32 ∧ r.host.length ≤ 32 ∧ 1 ≤ r.frm ∧ r.frm ≤ r.til ∧ r.til ≤ 65535 := by
  have hw : ∀ s, wordB s = true → s.length ≤ 32 := by
    intro s h
    unfold wordB at h
    simp only [Bool.or_eq_true, Bool.and_eq_true, decide_eq_true_eq, beq_iff_eq] at h
    rcases h with rfl | h
    · decide
    · exact h.2
  unfold validB patB at h
  simp only [Bool.and_eq_true, decide_eq_true_eq] at h
  obtain ⟨⟨⟨⟨⟨h1, h2⟩, ⟨_, h3⟩, _⟩, h4⟩, h5⟩, h6⟩ := h
  exact ⟨hw _ h1, hw _ h2, h3, h4, h5, h6⟩
theorem itoa_nat (n : Nat) : Lib.itoa (n : Int) = Lib.decDigits n := Lib.itoa_nonneg n
theorem itoa_short (z : Int) (h0 : 0 ≤ z) (h1 : z ≤ 65535) : (Lib.itoa z).length ≤ 19 := by
  obtain ⟨n, rfl⟩ := Int.eq_ofNat_of_zero_le h0
  rw [itoa_nat, Lib.decDigits_length]
  exact nDigits_le n 18 (by omega)
theorem refDecI (z : Int) (w : World) (h0 : 0 ≤ z) (h1 : z ≤ 65535) : Calls Tryz.prog 35 #[.int .u64 z] w fun e w' => e = .returned (str (Lib.itoa z)) ∧ Below w.heap.size w w' := by
  obtain ⟨n, rfl⟩ := Int.eq_ofNat_of_zero_le h0
  rw [itoa_nat]
  exact refDec_any n w (by omega)
/-- What the reference's Text gives. -/
def textR (r : RuL) : List UInt8 × Int := if validB r = true then (lineL r, 0) else ([], 4)
set_option maxHeartbeats 4000000 in
theorem refText_any (r : RuL) (w : World) (hs : SmallR r) : Calls Tryz.prog 16 #[ragg r] w fun e w' => e = .returned (.tuple #[str (textR r).1, .int .i64 (textR r).2]) ∧ Below w.heap.size w w' := by
  have hv : validB r = true → _ := valid_parts
  have HC := Lib.hid (fun W => right_any r W hs)
  have hT : textR r = if validB r = true then (lineL r, 0) else ([], 4) := rfl
  obtain ⟨T, hTd⟩ : ∃ T, T = textR r := ⟨_, rfl⟩
  rw [← hTd] at hT ⊢
  obtain ⟨P, hP⟩ : ∃ P, P = validB r := ⟨_, rfl⟩
  rw [← hP] at HC hT hv
  clear hTd hP hs
  obtain ⟨al, ro, te, ho, fr, ti⟩ := r
  obtain ⟨W, hW⟩ : ∃ W, W = w.alloc (.cells #[.bool al, str ro, str te, str ho, .int .i64 fr, .int .i64 ti] 33) := ⟨_, rfl⟩
  have HB0 := Lib.hid (show Below w.heap.size w W from by rw [hW]; exact (Below.refl _ w).alloc (Nat.le_refl _) _)
  have HK0 := Lib.hid (show Blk W w.heap.size [.bool al, str ro, str te, str ho, .int .i64 fr, .int .i64 ti] from by rw [hW]; exact Blk.new w _ _)
  have d0 := HK0.out.at (o := 0) rfl
  have d1 := HK0.out.at (o := 1) rfl
  have d2 := HK0.out.at (o := 2) rfl
  have d3 := HK0.out.at (o := 3) rfl
  have d4 := HK0.out.at (o := 4) rfl
  have d5 := HK0.out.at (o := 5) rfl
  rw [hW] at d0 d1 d2 d3 d4 d5
  cases P with
  | false =>
    obtain rfl : T = ([], 4) := hT.trans (if_neg (by simp))
    clear hT hv
    go_enter Tryz.func16, Tryz.ntmps16
    go_wp2_with fail
    rw [← hW]
    refine (HC.out _).mono ?_
    rintro e w1 ⟨rfl, hB⟩
    clear d0 d1 d2 d3 d4 d5
    have hk := HK0.out.below hB HK0.out.lt
    have d0 := hk.at (o := 0) rfl
    have d1 := hk.at (o := 1) rfl
    have d2 := hk.at (o := 2) rfl
    have d3 := hk.at (o := 3) rfl
    have d4 := hk.at (o := 4) rfl
    have d5 := hk.at (o := 5) rfl
    have HK1 := Lib.hid hk; have HB1 := Lib.hid (HB0.out.trans (hB.mono HB0.out.size)); clear hB hk hW
    go_wp2_with fail
    exact bodyPost_ret (v := .tuple #[str [], .int .i64 4]) (by simp [results, Tryz.results16, go_sem]) rfl ⟨rfl, HB1.out⟩
  | true =>
    obtain rfl : T = (lineL ⟨al, ro, te, ho, fr, ti⟩, 0) := hT.trans (if_pos rfl)
    obtain ⟨l1, l2, l3, b1, b2, b3⟩ := hv rfl
    simp only at l1 l2 l3 b1 b2 b3
    have hL : lineL ⟨al, ro, te, ho, fr, ti⟩ = verbL al ++ 32 :: (ro ++ 32 :: (te ++ 32 :: (ho ++ 32 :: portsL fr ti))) := rfl
    rw [hL]
    clear hT hv hL
    rcases (show (fr = 1 ∧ ti = 65535) ∨ ((fr ≠ 1 ∨ ti ≠ 65535) ∧ fr = ti) ∨ ((fr ≠ 1 ∨ ti ≠ 65535) ∧ fr ≠ ti) by omega) with ⟨rfl, rfl⟩ | ⟨hn, rfl⟩ | ⟨hn, hne⟩
    · skip
      have hp : portsL 1 65535 = if (1 : Int) = 1 ∧ (65535 : Int) = 65535 then [42] else [] := rfl
      rw [if_pos ⟨rfl, rfl⟩] at hp
      rw [hp]
      clear hp
      all_goals cases al
      all_goals
        go_enter Tryz.func16, Tryz.ntmps16
        go_wp2_with fail
        rw [← hW]
        refine (HC.out _).mono ?_
        rintro e w1 ⟨rfl, hB⟩
        clear d0 d1 d2 d3 d4 d5
        have hk := HK0.out.below hB HK0.out.lt
        have d0 := hk.at (o := 0) rfl
        have d1 := hk.at (o := 1) rfl
        have d2 := hk.at (o := 2) rfl
        have d3 := hk.at (o := 3) rfl
        have d4 := hk.at (o := 4) rfl
        have d5 := hk.at (o := 5) rfl
        have HK1 := Lib.hid hk; have HB1 := Lib.hid (HB0.out.trans (hB.mono HB0.out.size)); clear hB hk hW
        go_wp2_with fail
        refine bodyPost_ret (v := .tuple #[str (verbL _ ++ 32 :: (ro ++ 32 :: (te ++ 32 :: (ho ++ 32 :: [42])))), .int .i64 0]) ?_ rfl ⟨rfl, HB1.out⟩
        simp [results, Tryz.results16, go_sem]
        apply ByteArray.ext
        simp [ByteArray.data_append, verbL, allowS, denyS]
    · skip
      have HD1 := Lib.hid (fun W => refDecI fr W (by omega) (by omega))
      have hp : portsL fr fr = if fr = 1 ∧ fr = 65535 then [42] else if fr = fr then Lib.itoa fr else Lib.itoa fr ++ [45] ++ Lib.itoa fr := rfl
      have k1 := itoa_short fr (by omega) (by omega)
      obtain ⟨D1, h1⟩ : ∃ D, D = Lib.itoa fr := ⟨_, rfl⟩
      rw [← h1] at HD1 hp k1
      clear h1
      rw [if_neg (by omega), if_pos rfl] at hp
      rw [hp]
      clear hp
      have w1 : IntKind.u64.wrap fr = fr := by simp [IntKind.wrap, IntKind.bits, IntKind.signed]; omega
      have hq1 : fr = 1 ∨ (fr == 1) = false := by by_cases e : fr = 1; exact .inl e; exact .inr (by rw [beq_eq_false_iff_ne]; exact e)
      have hne1 : fr ≠ 65535 ∨ fr ≠ 1 := by omega
      rcases hq1 with rfl | hq1
      all_goals cases al
      all_goals
        go_enter Tryz.func16, Tryz.ntmps16
        go_wp2_with fail
        rw [← hW]
        refine (HC.out _).mono ?_
        rintro e w1 ⟨rfl, hB⟩
        clear d0 d1 d2 d3 d4 d5
        have hk := HK0.out.below hB HK0.out.lt
        have d0 := hk.at (o := 0) rfl
        have d1 := hk.at (o := 1) rfl
        have d2 := hk.at (o := 2) rfl
        have d3 := hk.at (o := 3) rfl
        have d4 := hk.at (o := 4) rfl
        have d5 := hk.at (o := 5) rfl
        have HK1 := Lib.hid hk; have HB1 := Lib.hid (HB0.out.trans (hB.mono HB0.out.size)); clear hB hk hW
        go_wp2_with fail
        refine (HD1.out _).mono ?_
        rintro e w2 ⟨rfl, hB⟩
        clear d0 d1 d2 d3 d4 d5
        have hk := HK1.out.below hB HK1.out.lt
        have d0 := hk.at (o := 0) rfl
        have d1 := hk.at (o := 1) rfl
        have d2 := hk.at (o := 2) rfl
        have d3 := hk.at (o := 3) rfl
        have d4 := hk.at (o := 4) rfl
        have d5 := hk.at (o := 5) rfl
        have HK2 := Lib.hid hk; have HB2 := Lib.hid (HB1.out.trans (hB.mono HB1.out.size)); clear hB hk
        go_wp2_with fail
        refine bodyPost_ret (v := .tuple #[str (verbL _ ++ 32 :: (ro ++ 32 :: (te ++ 32 :: (ho ++ 32 :: D1)))), .int .i64 0]) ?_ rfl ⟨rfl, HB2.out⟩
        simp [results, Tryz.results16, go_sem]
        apply ByteArray.ext
        simp [ByteArray.data_append, verbL, allowS, denyS]
    · skip
      have HD1 := Lib.hid (fun W => refDecI fr W (by omega) (by omega))
      have HD2 := Lib.hid (fun W => refDecI ti W (by omega) (by omega))
      have hp : portsL fr ti = if fr = 1 ∧ ti = 65535 then [42] else if fr = ti then Lib.itoa fr else Lib.itoa fr ++ [45] ++ Lib.itoa ti := rfl
      have k1 := itoa_short fr (by omega) (by omega)
      have k2 := itoa_short ti (by omega) (by omega)
      obtain ⟨D1, h1⟩ : ∃ D, D = Lib.itoa fr := ⟨_, rfl⟩
      obtain ⟨D2, h2⟩ : ∃ D, D = Lib.itoa ti := ⟨_, rfl⟩
      rw [← h1] at HD1 hp k1
      rw [← h2] at HD2 hp k2
      clear h1 h2
      rw [if_neg (by omega), if_neg hne] at hp
      rw [hp]
      clear hp
      have w1 : IntKind.u64.wrap fr = fr := by simp [IntKind.wrap, IntKind.bits, IntKind.signed]; omega
      have w2 : IntKind.u64.wrap ti = ti := by simp [IntKind.wrap, IntKind.bits, IntKind.signed]; omega
      have hq1 : fr = 1 ∨ (fr == 1) = false := by by_cases e : fr = 1; exact .inl e; exact .inr (by rw [beq_eq_false_iff_ne]; exact e)
      have hfi : (fr == ti) = false := by rw [beq_eq_false_iff_ne]; exact hne
      have hfn : (fr != ti) = true := by rw [bne_iff_ne]; exact hne
      have ht9 : fr = 1 → (ti == 65535) = false := fun e => by rw [beq_eq_false_iff_ne]; omega
      have HT9 := Lib.hid ht9
      clear ht9
      rcases hq1 with rfl | hq1
      have ht9 := HT9.out rfl
      all_goals cases al
      all_goals
        go_enter Tryz.func16, Tryz.ntmps16
        go_wp2_with fail
        rw [← hW]
        refine (HC.out _).mono ?_
        rintro e w1 ⟨rfl, hB⟩
        clear d0 d1 d2 d3 d4 d5
        have hk := HK0.out.below hB HK0.out.lt
        have d0 := hk.at (o := 0) rfl
        have d1 := hk.at (o := 1) rfl
        have d2 := hk.at (o := 2) rfl
        have d3 := hk.at (o := 3) rfl
        have d4 := hk.at (o := 4) rfl
        have d5 := hk.at (o := 5) rfl
        have HK1 := Lib.hid hk; have HB1 := Lib.hid (HB0.out.trans (hB.mono HB0.out.size)); clear hB hk hW
        go_wp2_with fail
        refine (HD1.out _).mono ?_
        rintro e w2 ⟨rfl, hB⟩
        clear d0 d1 d2 d3 d4 d5
        have hk := HK1.out.below hB HK1.out.lt
        have d0 := hk.at (o := 0) rfl
        have d1 := hk.at (o := 1) rfl
        have d2 := hk.at (o := 2) rfl
        have d3 := hk.at (o := 3) rfl
        have d4 := hk.at (o := 4) rfl
        have d5 := hk.at (o := 5) rfl
        have HK2 := Lib.hid hk; have HB2 := Lib.hid (HB1.out.trans (hB.mono HB1.out.size)); clear hB hk
        go_wp2_with fail
        refine (HD2.out _).mono ?_
        rintro e w3 ⟨rfl, hB⟩
        clear d0 d1 d2 d3 d4 d5
        have hk := HK2.out.below hB HK2.out.lt
        have d0 := hk.at (o := 0) rfl
        have d1 := hk.at (o := 1) rfl
        have d2 := hk.at (o := 2) rfl
        have d3 := hk.at (o := 3) rfl
        have d4 := hk.at (o := 4) rfl
        have d5 := hk.at (o := 5) rfl
        have HK3 := Lib.hid hk; have HB3 := Lib.hid (HB2.out.trans (hB.mono HB2.out.size)); clear hB hk
        go_wp2_with fail
        refine bodyPost_ret (v := .tuple #[str (verbL _ ++ 32 :: (ro ++ 32 :: (te ++ 32 :: (ho ++ 32 :: (D1 ++ [45] ++ D2))))), .int .i64 0]) ?_ rfl ⟨rfl, HB3.out⟩
        simp [results, Tryz.results16, go_sem]
        apply ByteArray.ext
        simp [ByteArray.data_append, verbL, allowS, denyS]
end Go.Proofs.YthpkmdojeegleaaGreatDoor
