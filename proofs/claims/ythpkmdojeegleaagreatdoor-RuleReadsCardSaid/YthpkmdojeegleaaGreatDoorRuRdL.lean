/- RuleReads' walk. -/
import Derived.Test.YthpkmdojeegleaaGreatDoorRuRP
import Derived.Test.YthpkmdojeegleaaGreatDoorRuBl
import Derived.Test.YthpkmdojeegleaaGreatDoorRuEq
import Derived.Test.YthpkmdojeegleaaGreatDoorRuIdN
set_option maxRecDepth 100000
namespace Go.Proofs.YthpkmdojeegleaaGreatDoor
open Go.RowKit Go.Shelf
attribute [local go_sem] Oper.semAt_some
theorem u8_rngR {u : Int} (h : (Lit.int .u8 u).wf = true) : 0 ≤ u ∧ u ≤ 255 := by
  simp [Lit.wf, IntKind.min, IntKind.max, IntKind.bits, IntKind.signed] at h
  omega
theorem slice_hR (A : Option Addr) (n c k : Nat) (hk : k ≤ c) (w : World) : (Instr.slice tRfs (.slice A n c) none (some (.int .i64 (k : Int))) none).run Tryz.prog w = .ok (.slice A k c) w := by
  rw [run_slice_h w tRfs A n c Tryz.underlying28 .i64 k (by omega) (by omega)]
  by_cases h0 : c = 0 <;> simp [sliced, go_sem, h0]
theorem RlIn.take {W : World} {B n c : Nat} {A : Option Addr} {xs : List RuL} (h : RlIn W B (.slice A n c) xs) (M : Nat) (hM : M ≤ xs.length) : RlIn W B (.slice A M c) (xs.take M) := by
  obtain ⟨A', c', e, h1, h2, h3⟩ := h
  injection e with e1 e2 e4
  subst e1 e4
  have hl : (xs.take M).length = M := by rw [List.length_take]; omega
  refine ⟨A, c, by rw [hl], by omega, h2, fun h0 => ?_⟩
  obtain ⟨g, o, e, hg, hc⟩ := h3 (by omega)
  refine ⟨g, o, e, hg, fun k hk i hi => ?_⟩
  rw [hc k (by omega) i hi, List.getElem_take]
theorem parseP_facts (s : List UInt8) : ((parseP s).2.2 ≠ 0 → (parseP s).1 = []) ∧ (parseP s).1.length ≤ 32 ∧ (∀ r ∈ (parseP s).1, validB r = true) := by
  have hv := scanA_valid [] 0 (spl 10 s) (by simp)
  unfold parseP
  split
  · exact ⟨fun _ => rfl, by simp, fun r h => by cases h⟩
  · split
    · exact ⟨fun _ => rfl, by simp, fun r h => by cases h⟩
    · split
      · exact ⟨fun _ => rfl, by simp, fun r h => by cases h⟩
      · rename_i h
        exact ⟨fun h => absurd rfl h, show (scanA [] 0 (spl 10 s)).1.length ≤ 32 by omega, hv⟩
theorem lenP_any (B : Nat) (pv : Value) (xs : List RuL) (w : World) (hp : PolO w B pv xs) : Calls Tryz.prog 12 #[pv] w fun e w' => e = .returned (.int .i64 (xs.length : Int)) ∧ Below w.heap.size w w' := by
  rcases hp with ⟨rfl, rfl⟩ | ⟨p, v, rfl, _, hc, hr⟩
  · exact (lenN_any w).mono fun e w' ⟨h1, h2⟩ => ⟨h1, h2 ▸ Below.refl _ _⟩
  · obtain ⟨A, c, rfl, _⟩ := hr
    go_enter Tryz.func12, Tryz.ntmps12
    go_wp2_with fail
    go_ret
    exact ⟨rfl, Below.refl _ _⟩
set_option maxHeartbeats 4000000 in
theorem reads_law (text : List UInt8) (u : Int) (w : World) (ht : text.length ≤ 9223372036854775807) (hu : (Lit.int .u8 u).wf = true) (hE : Env w) :
    Calls Tryz.prog 3 #[str text, .int .u8 u] w fun e w' => e = .returned (.bool true) ∧ Below w.heap.size w w' := by
  obtain ⟨hu0, hu1⟩ := u8_rngR hu
  obtain ⟨K, hKu⟩ : ∃ K : Nat, (K : Int) = 1 + u % 4 := ⟨(1 + u % 4).toNat, by omega⟩
  have hK1 : 1 ≤ K := by omega
  have hK2 : K ≤ 9 := by omega
  have hum : 0 ≤ u % 4 ∧ u % 4 < 4 := by omega
  have HKU := Lib.hid hKu; clear hKu hu
  have HA := Lib.hid (awake16 w hE)
  have HE := Lib.hid hE
  have HT1 := Lib.hid (fun W => cutText_any text 4200 W ht (by omega) (by omega))
  have e42 : ∀ s : List UInt8, s.take (4200 : Int).toNat = s.take 4200 := fun _ => rfl
  rw [e42] at HT1
  have hl42 : (text.take 4200).length ≤ 4200 := by rw [List.length_take]; omega
  obtain ⟨tx, htx⟩ : ∃ tx, tx = text.take 4200 := ⟨_, rfl⟩
  rw [← htx] at HT1 hl42
  obtain ⟨pf1, pf2, pf3⟩ := parseP_facts tx
  have HP1 := Lib.hid (fun W (h : Env W) => parse_any tx W h (by omega))
  have HP2 := Lib.hid (fun W => refParse_any tx W (by omega))
  unfold ParR at HP1
  unfold RefP at HP2
  obtain ⟨L, N, E, hLNE⟩ : ∃ L N E, parseP tx = (L, N, E) := ⟨_, _, _, rfl⟩
  rw [hLNE] at HP1 HP2 pf1 pf2 pf3
  simp only at HP1 HP2 pf1 pf2 pf3
  have HPF1 := Lib.hid pf1
  have HPF3 := Lib.hid pf3
  clear htx hLNE pf1 pf3 hE e42 ht
  go_enter Tryz.func3, Tryz.ntmps3
  go_wp2_with fail
  refine HA.out.mono ?_
  rintro e W1 ⟨rfl, hB⟩
  have HB1 := Lib.hid hB
  have HE1 := Lib.hid (HE.out.below hB)
  clear hB HA
  go_wp2_with fail
  refine (HT1.out _).mono ?_
  rintro e w1 ⟨rfl, rfl⟩
  go_wp2_with fail
  refine (HP1.out _ HE1.out).mono ?_
  rintro e W2 ⟨pv, rfl, hq1, hq2, hB⟩
  have hpo : PolO W2 W2.heap.size pv L := by
    by_cases h0 : E = 0
    · exact (hq2 h0).2
    · exact .inl ⟨hq1 h0, HPF1.out h0⟩
  have hcs : (E = 0 ∧ ∃ p, pv = .pointer (some ⟨p, 0, none⟩)) ∨ (E ≠ 0 ∧ pv = .pointer none ∧ L = []) := by
    by_cases h0 : E = 0
    · exact .inl ⟨h0, (hq2 h0).1⟩
    · exact .inr ⟨h0, hq1 h0, HPF1.out h0⟩
  have HPO2 := Lib.hid hpo
  have HB2 := Lib.hid (HB1.out.trans (hB.mono HB1.out.size))
  have HE2 := Lib.hid (HE1.out.below hB)
  have HCS := Lib.hid hcs
  clear hq1 hq2 hB hpo hcs
  go_wp2_with fail
  refine (HP2.out _).mono ?_
  rintro e W3 ⟨v, rfl, hO, hB⟩
  obtain ⟨A2, c2, rfl, hc21, hc22⟩ := hO.form
  have HL3 := Lib.hid (hO.rlIn)
  have HPO3 := Lib.hid ((HPO2.out.below hB (Nat.le_refl _)).more hB.size)
  have HB3 := Lib.hid (HB2.out.trans (hB.mono HB2.out.size))
  have HE3 := Lib.hid (HE2.out.below hB)
  clear hO hB
  have hE8 : (E == 0) = true ∨ (E == 0) = false := by cases (E == 0) <;> simp
  obtain ⟨M, hM, hMr⟩ : ∃ M : Nat, M = min L.length K ∧ M ≤ L.length := ⟨_, rfl, by omega⟩
  have HMIN := Lib.hid (show min (L.length : Int) (K : Int) = (M : Int) by omega)
  have HTK := Lib.hid (show L.take K = L.take M by rw [hM, List.take_eq_take_iff]; omega)
  have HSL := Lib.hid (fun W => slice_hR A2 L.length c2 M (by omega) W)
  clear hM hE8
  rcases HCS.out with ⟨rfl, p, rfl⟩ | ⟨hE0, rfl, rfl⟩
  · skip
    clear HCS HPF1 HP1 HP2
    have hz0 : ((0 : Int) == 0) = true := rfl
    go_wp2_with fail
    refine (rules_w _ _ L 1000 _ HPO3.out (Nat.le_refl _) (by omega) (by omega) (by omega)).mono ?_
    rintro e W4 ⟨u4, rfl, hO, hB⟩
    rw [List.take_of_length_le (by omega)] at hO
    have HO4 := Lib.hid hO
    have HL4 := Lib.hid ((HL3.out.below hB (Nat.le_refl _)).more hB.size)
    have HPO4 := Lib.hid ((HPO3.out.below hB (Nat.le_refl _)).more hB.size)
    have HB4 := Lib.hid (HB3.out.trans (hB.mono HB3.out.size))
    have HE4 := Lib.hid (HE3.out.below hB)
    clear hO hB
    go_wp2_with fail
    refine (equalRf_same _ u4 _ L W4 HO4.out.rlIn HL4.out (Nat.le_refl _) (by omega)).mono ?_
    rintro e W5 ⟨rfl, hB⟩
    have HL5 := Lib.hid ((HL4.out.below hB (Nat.le_refl _)).more hB.size)
    have HPO5 := Lib.hid ((HPO4.out.below hB (Nat.le_refl _)).more hB.size)
    have HB5 := Lib.hid (HB4.out.trans (hB.mono HB4.out.size))
    have HE5 := Lib.hid (HE4.out.below hB)
    clear hB
    go_wp2_with fail
    refine (lenP_any _ _ L W5 HPO5.out).mono ?_
    rintro e W6 ⟨rfl, hB⟩
    have HL6 := Lib.hid ((HL5.out.below hB (Nat.le_refl _)).more hB.size)
    have HPO6 := Lib.hid ((HPO5.out.below hB (Nat.le_refl _)).more hB.size)
    have HB6 := Lib.hid (HB5.out.trans (hB.mono HB5.out.size))
    have HE6 := Lib.hid (HE5.out.below hB)
    clear hB
    have hku := HKU.out
    go_wp2_with fail
    clear hku
    refine wp_region_noPanic ?_
    refine wp_region_held (S := fun _ => True) (by kernel_rfl) ?_
    change wpAnyH _ _ _ _ _ _ _ _ W6.drew
    obtain ⟨V, hV⟩ : ∃ V, V = W6.drew := ⟨_, rfl⟩
    have hB : Below W6.heap.size W6 V := by rw [hV]; exact (Below.refl _ _).drew
    have HL7 := Lib.hid ((HL6.out.below hB (Nat.le_refl _)).more hB.size)
    have HPO7 := Lib.hid ((HPO6.out.below hB (Nat.le_refl _)).more hB.size)
    have HB7 := Lib.hid (HB6.out.trans (hB.mono HB6.out.size))
    have HE7 := Lib.hid (HE6.out.below hB)
    rw [← hV]
    clear hV hB
    refine takeH 0 64 (.pointer (some ⟨p, 0, none⟩)) rfl rfl (by kernel_rfl) (by kernel_rfl) (by kernel_rfl) (fun _ _ _ h => h) rfl (fun w' _ => by go_simp) trivial ?_
    go_frame
    refine takeH 1 65 (.int .i64 (K : Int)) rfl rfl (by kernel_rfl) (by kernel_rfl) (by kernel_rfl) (fun _ _ _ h => h) rfl (fun w' _ => by go_simp; exact HKU.out.symm) trivial ?_
    go_frame
    refine takeH 3 67 (.slice A2 L.length c2) rfl rfl (by kernel_rfl) (by kernel_rfl) (by kernel_rfl) (fun _ _ _ h => h) rfl (fun w' _ => by go_simp) trivial ?_
    go_frame
    refine takeH 4 68 (.slice A2 L.length c2) rfl rfl (by kernel_rfl) (by kernel_rfl) (by kernel_rfl) (fun _ _ _ h => h) rfl (fun w' _ => by go_simp) trivial ?_
    go_frame
    refine takeH 5 69 (.int .i64 (L.length : Int)) rfl rfl (by kernel_rfl) (by kernel_rfl) (by kernel_rfl) (fun _ _ _ h => h) rfl (fun w' _ => by go_simp) trivial ?_
    go_frame
    refine takeH 6 70 (.int .i64 (K : Int)) rfl rfl (by kernel_rfl) (by kernel_rfl) (by kernel_rfl) (fun _ _ _ h => h) rfl (fun w' _ => by go_simp; exact HKU.out.symm) trivial ?_
    go_frame
    refine takeH 7 71 (.int .i64 (M : Int)) rfl rfl (by kernel_rfl) (by kernel_rfl) (by kernel_rfl) (fun _ _ _ h => h) rfl (fun w' _ => by go_simp; exact HMIN.out) trivial ?_
    go_frame
    have hsl := HSL.out
    refine takeH 8 72 (.slice A2 M c2) rfl rfl (by kernel_rfl) (by kernel_rfl) (by kernel_rfl) (fun _ _ _ h => h) rfl (fun w' _ => by go_simp) trivial ?_
    go_frame
    clear hsl
    refine wpAnyH_all (rs := [2]) (by kernel_rfl) (by simp) ?_
    simp only [List.mem_singleton, forall_eq]
    refine wpOp_callD 66 rfl rfl rfl 11 #[.pointer (some ⟨p, 0, none⟩), .int .i64 (K : Int)] (by go_simp) ?_
    refine (rules_w _ _ L K V HPO7.out (Nat.le_refl _) (by omega) hK1 (by omega)).mono ?_
    rintro e W8 ⟨u8, rfl, hO, hB⟩
    rw [HTK.out] at hO
    have HO8 := Lib.hid hO
    have HL8 := Lib.hid ((HL7.out.below hB (Nat.le_refl _)).more hB.size)
    have HPO8 := Lib.hid ((HPO7.out.below hB (Nat.le_refl _)).more hB.size)
    have HB8 := Lib.hid (HB7.out.trans (hB.mono HB7.out.size))
    have HE8 := Lib.hid (HE7.out.below hB)
    clear hO hB
    refine ⟨_, rfl, trivial, ?_⟩
    go_frame
    refine wpAnyH_all (rs := [9]) (by kernel_rfl) (by simp) ?_
    simp only [List.mem_singleton, forall_eq]
    refine wpOp_callD 73 rfl rfl rfl 10 #[u8, .slice A2 M c2] (by go_simp) ?_
    refine (equalRf_same _ u8 (.slice A2 M c2) (L.take M) W8 HO8.out.rlIn (HL8.out.take M hMr) (Nat.le_refl _) (by rw [List.length_take]; omega)).mono ?_
    rintro e W9 ⟨rfl, hB⟩
    have HL9 := Lib.hid ((HL8.out.below hB (Nat.le_refl _)).more hB.size)
    have HPO9 := Lib.hid ((HPO8.out.below hB (Nat.le_refl _)).more hB.size)
    have HB9 := Lib.hid (HB8.out.trans (hB.mono HB8.out.size))
    have HE9 := Lib.hid (HE8.out.below hB)
    clear hB
    refine ⟨_, rfl, trivial, ?_⟩
    go_frame
    refine takeH 10 74 (.bool false) rfl rfl (by kernel_rfl) (by kernel_rfl) (by kernel_rfl) (fun _ _ _ h => h) rfl (fun w' _ => by go_simp) trivial ?_
    go_frame
    refine wpAnyH_done (by kernel_rfl) ?_ _
    refine NoPanic.normal ?_
    go_wp2_with fail
    refine (polText_any _ _ L W9 HE9.out HPO9.out (Nat.le_refl _) HPF3.out (by omega)).mono ?_
    rintro e X1 ⟨rfl, hB⟩
    have HL10 := Lib.hid ((HL9.out.below hB (Nat.le_refl _)).more hB.size)
    have HPO10 := Lib.hid ((HPO9.out.below hB (Nat.le_refl _)).more hB.size)
    have HB10 := Lib.hid (HB9.out.trans (hB.mono HB9.out.size))
    have HE10 := Lib.hid (HE9.out.below hB)
    clear hB
    have htl := textL_len L HPF3.out
    have HPT := Lib.hid (parseP_text HPF3.out pf2)
    have HPP := Lib.hid (parse_any (textL L) X1 HE10.out (by omega))
    unfold ParR at HPP
    rw [HPT.out] at HPP
    obtain ⟨TL, hTL⟩ : ∃ t, t = textL L := ⟨_, rfl⟩
    rw [← hTL] at HPP ⊢
    have HTL := Lib.hid hTL
    clear hTL htl
    go_wp2_with fail
    refine HPP.out.mono ?_
    rintro e X2 ⟨qv, rfl, _, hq2, hB⟩
    simp only at hq2 ⊢
    obtain ⟨⟨q, rfl⟩, hqo⟩ := hq2 (by trivial)
    have HQ11 := Lib.hid hqo
    have HL11 := Lib.hid ((HL10.out.below hB (Nat.le_refl _)).more hB.size)
    have HPO11 := Lib.hid ((HPO10.out.below hB (Nat.le_refl _)).more hB.size)
    have HB11 := Lib.hid (HB10.out.trans (hB.mono HB10.out.size))
    have HE11 := Lib.hid (HE10.out.below hB)
    clear hB hq2 hqo
    go_wp2_with fail
    refine (rules_w _ _ L 1000 _ HQ11.out (Nat.le_refl _) (by omega) (by omega) (by omega)).mono ?_
    rintro e X3 ⟨u12, rfl, hO, hB⟩
    rw [List.take_of_length_le (by omega)] at hO
    have HO12 := Lib.hid hO
    have HQ12 := Lib.hid ((HQ11.out.below hB (Nat.le_refl _)).more hB.size)
    have HL12 := Lib.hid ((HL11.out.below hB (Nat.le_refl _)).more hB.size)
    have HPO12 := Lib.hid ((HPO11.out.below hB (Nat.le_refl _)).more hB.size)
    have HB12 := Lib.hid (HB11.out.trans (hB.mono HB11.out.size))
    have HE12 := Lib.hid (HE11.out.below hB)
    clear hO hB
    go_wp2_with fail
    refine (equalRf_same _ u12 _ L X3 HO12.out.rlIn HL12.out (Nat.le_refl _) (by omega)).mono ?_
    rintro e X4 ⟨rfl, hB⟩
    have HQ13 := Lib.hid ((HQ12.out.below hB (Nat.le_refl _)).more hB.size)
    have HL13 := Lib.hid ((HL12.out.below hB (Nat.le_refl _)).more hB.size)
    have HPO13 := Lib.hid ((HPO12.out.below hB (Nat.le_refl _)).more hB.size)
    have HB13 := Lib.hid (HB12.out.trans (hB.mono HB12.out.size))
    have HE13 := Lib.hid (HE12.out.below hB)
    clear hB
    go_wp2_with fail
    refine (polText_any _ _ L X4 HE13.out HQ13.out (Nat.le_refl _) HPF3.out (by omega)).mono ?_
    rintro e X5 ⟨rfl, hB⟩
    have HL14 := Lib.hid ((HL13.out.below hB (Nat.le_refl _)).more hB.size)
    have HPO14 := Lib.hid ((HPO13.out.below hB (Nat.le_refl _)).more hB.size)
    have HB14 := Lib.hid (HB13.out.trans (hB.mono HB13.out.size))
    have HE14 := Lib.hid (HE13.out.below hB)
    clear hB
    rw [← HTL.out]
    go_wp2_with fail
    refine (polText_any _ _ L X5 HE14.out HPO14.out (Nat.le_refl _) HPF3.out (by omega)).mono ?_
    rintro e X6 ⟨rfl, hB⟩
    have HL15 := Lib.hid ((HL14.out.below hB (Nat.le_refl _)).more hB.size)
    have HPO15 := Lib.hid ((HPO14.out.below hB (Nat.le_refl _)).more hB.size)
    have HB15 := Lib.hid (HB14.out.trans (hB.mono HB14.out.size))
    have HE15 := Lib.hid (HE14.out.below hB)
    clear hB
    rw [← HTL.out]
    go_wp2_with fail
    go_ret
    exact ⟨by first | rfl | simp, HB15.out⟩
  · skip
    clear HCS HPF1 HP1 HP2
    have hq0 : (E == 0) = false := by rw [beq_eq_false_iff_ne]; exact hE0
    go_wp2_with fail
    refine (rules_w _ _ ([] : List RuL) 1000 _ HPO3.out (Nat.le_refl _) (by omega) (by omega) (by omega)).mono ?_
    rintro e W4 ⟨u4, rfl, hO, hB⟩
    rw [List.take_of_length_le (by omega)] at hO
    have HO4 := Lib.hid hO
    have HL4 := Lib.hid ((HL3.out.below hB (Nat.le_refl _)).more hB.size)
    have HPO4 := Lib.hid ((HPO3.out.below hB (Nat.le_refl _)).more hB.size)
    have HB4 := Lib.hid (HB3.out.trans (hB.mono HB3.out.size))
    have HE4 := Lib.hid (HE3.out.below hB)
    clear hO hB
    go_wp2_with fail
    refine (equalRf_same _ u4 _ ([] : List RuL) W4 HO4.out.rlIn HL4.out (Nat.le_refl _) (by omega)).mono ?_
    rintro e W5 ⟨rfl, hB⟩
    have HL5 := Lib.hid ((HL4.out.below hB (Nat.le_refl _)).more hB.size)
    have HPO5 := Lib.hid ((HPO4.out.below hB (Nat.le_refl _)).more hB.size)
    have HB5 := Lib.hid (HB4.out.trans (hB.mono HB4.out.size))
    have HE5 := Lib.hid (HE4.out.below hB)
    clear hB
    go_wp2_with fail
    refine (lenP_any _ _ ([] : List RuL) W5 HPO5.out).mono ?_
    rintro e W6 ⟨rfl, hB⟩
    have HL6 := Lib.hid ((HL5.out.below hB (Nat.le_refl _)).more hB.size)
    have HPO6 := Lib.hid ((HPO5.out.below hB (Nat.le_refl _)).more hB.size)
    have HB6 := Lib.hid (HB5.out.trans (hB.mono HB5.out.size))
    have HE6 := Lib.hid (HE5.out.below hB)
    clear hB
    have hku := HKU.out
    go_wp2_with fail
    clear hku
    refine wp_region_noPanic ?_
    refine wp_region_held (S := fun _ => True) (by kernel_rfl) ?_
    change wpAnyH _ _ _ _ _ _ _ _ W6.drew
    obtain ⟨V, hV⟩ : ∃ V, V = W6.drew := ⟨_, rfl⟩
    have hB : Below W6.heap.size W6 V := by rw [hV]; exact (Below.refl _ _).drew
    have HL7 := Lib.hid ((HL6.out.below hB (Nat.le_refl _)).more hB.size)
    have HPO7 := Lib.hid ((HPO6.out.below hB (Nat.le_refl _)).more hB.size)
    have HB7 := Lib.hid (HB6.out.trans (hB.mono HB6.out.size))
    have HE7 := Lib.hid (HE6.out.below hB)
    rw [← hV]
    clear hV hB
    refine takeH 0 64 (.pointer none) rfl rfl (by kernel_rfl) (by kernel_rfl) (by kernel_rfl) (fun _ _ _ h => h) rfl (fun w' _ => by go_simp) trivial ?_
    go_frame
    refine takeH 1 65 (.int .i64 (K : Int)) rfl rfl (by kernel_rfl) (by kernel_rfl) (by kernel_rfl) (fun _ _ _ h => h) rfl (fun w' _ => by go_simp; exact HKU.out.symm) trivial ?_
    go_frame
    refine takeH 3 67 (.slice A2 ([] : List RuL).length c2) rfl rfl (by kernel_rfl) (by kernel_rfl) (by kernel_rfl) (fun _ _ _ h => h) rfl (fun w' _ => by go_simp) trivial ?_
    go_frame
    refine takeH 4 68 (.slice A2 ([] : List RuL).length c2) rfl rfl (by kernel_rfl) (by kernel_rfl) (by kernel_rfl) (fun _ _ _ h => h) rfl (fun w' _ => by go_simp) trivial ?_
    go_frame
    refine takeH 5 69 (.int .i64 (([] : List RuL).length : Int)) rfl rfl (by kernel_rfl) (by kernel_rfl) (by kernel_rfl) (fun _ _ _ h => h) rfl (fun w' _ => by go_simp) trivial ?_
    go_frame
    refine takeH 6 70 (.int .i64 (K : Int)) rfl rfl (by kernel_rfl) (by kernel_rfl) (by kernel_rfl) (fun _ _ _ h => h) rfl (fun w' _ => by go_simp; exact HKU.out.symm) trivial ?_
    go_frame
    refine takeH 7 71 (.int .i64 (M : Int)) rfl rfl (by kernel_rfl) (by kernel_rfl) (by kernel_rfl) (fun _ _ _ h => h) rfl (fun w' _ => by go_simp; exact HMIN.out) trivial ?_
    go_frame
    have hsl := fun W => (show (Instr.slice tRfs (.slice A2 0 c2) none (some (.int .i64 (M : Int))) none).run Tryz.prog W = .ok (.slice A2 M c2) W from HSL.out W)
    refine takeH 8 72 (.slice A2 M c2) rfl rfl (by kernel_rfl) (by kernel_rfl) (by kernel_rfl) (fun _ _ _ h => h) rfl (fun w' _ => by go_simp) trivial ?_
    go_frame
    clear hsl
    refine wpAnyH_all (rs := [2]) (by kernel_rfl) (by simp) ?_
    simp only [List.mem_singleton, forall_eq]
    refine wpOp_callD 66 rfl rfl rfl 11 #[.pointer none, .int .i64 (K : Int)] (by go_simp) ?_
    refine (rules_w _ _ ([] : List RuL) K V HPO7.out (Nat.le_refl _) (by omega) hK1 (by omega)).mono ?_
    rintro e W8 ⟨u8, rfl, hO, hB⟩
    rw [HTK.out] at hO
    have HO8 := Lib.hid hO
    have HL8 := Lib.hid ((HL7.out.below hB (Nat.le_refl _)).more hB.size)
    have HPO8 := Lib.hid ((HPO7.out.below hB (Nat.le_refl _)).more hB.size)
    have HB8 := Lib.hid (HB7.out.trans (hB.mono HB7.out.size))
    have HE8 := Lib.hid (HE7.out.below hB)
    clear hO hB
    refine ⟨_, rfl, trivial, ?_⟩
    go_frame
    refine wpAnyH_all (rs := [9]) (by kernel_rfl) (by simp) ?_
    simp only [List.mem_singleton, forall_eq]
    refine wpOp_callD 73 rfl rfl rfl 10 #[u8, .slice A2 M c2] (by go_simp) ?_
    refine (equalRf_same _ u8 (.slice A2 M c2) (([] : List RuL).take M) W8 HO8.out.rlIn (HL8.out.take M hMr) (Nat.le_refl _) (by rw [List.length_take]; omega)).mono ?_
    rintro e W9 ⟨rfl, hB⟩
    have HL9 := Lib.hid ((HL8.out.below hB (Nat.le_refl _)).more hB.size)
    have HPO9 := Lib.hid ((HPO8.out.below hB (Nat.le_refl _)).more hB.size)
    have HB9 := Lib.hid (HB8.out.trans (hB.mono HB8.out.size))
    have HE9 := Lib.hid (HE8.out.below hB)
    clear hB
    refine ⟨_, rfl, trivial, ?_⟩
    go_frame
    refine takeH 10 74 (.bool false) rfl rfl (by kernel_rfl) (by kernel_rfl) (by kernel_rfl) (fun _ _ _ h => h) rfl (fun w' _ => by go_simp) trivial ?_
    go_frame
    refine wpAnyH_done (by kernel_rfl) ?_ _
    refine NoPanic.normal ?_
    go_wp2_with fail
    refine (polText_any _ _ [] W9 HE9.out HPO9.out (Nat.le_refl _) (fun r h => by cases h) (by decide)).mono ?_
    rintro e X1 ⟨rfl, hB⟩
    have HB10 := Lib.hid (HB9.out.trans (hB.mono HB9.out.size))
    clear hB
    rw [show textL [] = [] from rfl]
    go_wp2_with fail
    go_ret
    exact ⟨by first | rfl | simp, HB10.out⟩
end Go.Proofs.YthpkmdojeegleaaGreatDoor
