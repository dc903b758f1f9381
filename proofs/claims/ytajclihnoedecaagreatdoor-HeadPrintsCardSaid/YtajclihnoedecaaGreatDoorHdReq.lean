/- head.parseRequestLine (of ASCII lines), head.parseField. -/
import Derived.Test.YtajclihnoedecaaGreatDoorHdTok
import Derived.OwnWalk
namespace Go.Proofs.YtajclihnoedecaaGreatDoor
open Go.RowKit Go.Shelf
def reqT (l : List UInt8) : List UInt8 × List UInt8 × Bool := match reqL l with | some (m, t) => (m, t, true) | none => ([], [], false)
def fieldT (l : List UInt8) : List UInt8 × List UInt8 × Bool := match fieldL l with | some (m, t) => (m, t, true) | none => ([], [], false)
theorem cut_len (s sep : List UInt8) : (Lib.cut s sep).1.length ≤ s.length ∧ (Lib.cut s sep).2.1.length ≤ s.length := by
  unfold Lib.cut
  split
  · simp; omega
  · simp
theorem cut_allP (p : UInt8 → Bool) (s sep : List UInt8) (h : s.all p = true) : (Lib.cut s sep).1.all p = true ∧ (Lib.cut s sep).2.1.all p = true := by
  rw [List.all_eq_true] at h
  unfold Lib.cut
  split
  · exact ⟨List.all_eq_true.2 fun x hx => h x (List.mem_of_mem_take hx), List.all_eq_true.2 fun x hx => h x (List.mem_of_mem_drop hx)⟩
  · exact ⟨List.all_eq_true.2 h, rfl⟩
theorem trimS_len (s cs : List UInt8) : (Lib.trimS s cs).length ≤ s.length := by
  have dw : ∀ (l : List UInt8) (p : UInt8 → Bool), (l.dropWhile p).length ≤ l.length := fun l p => (List.dropWhile_sublist p).length_le
  unfold Lib.trimS Lib.trimLeftS Lib.trimRightS
  have h1 := dw (s.reverse.dropWhile (cs.contains ·)).reverse (cs.contains ·)
  have h2 := dw s.reverse (cs.contains ·)
  simp only [List.length_reverse] at h1 h2
  omega
set_option maxRecDepth 100000 in
set_option maxHeartbeats 1000000 in
theorem reqLine_any (l : List UInt8) (w : World) (hE : Env w) (hs : l.length ≤ 100000) :
    Calls Tryz.prog 31 #[str l] w fun e w' => e = .returned (.tuple #[str (reqT l).1, str (reqT l).2.1, .bool (reqT l).2.2]) ∧ Below w.heap.size w w' := by
  have hd : reqT l = if tokB (Lib.cut l [32]).1 = true ∧ tgtB (Lib.cut (Lib.cut l [32]).2.1 [32]).1 = true ∧ (Lib.cut (Lib.cut l [32]).2.1 [32]).2.1 = verS
      then ((Lib.cut l [32]).1, (Lib.cut (Lib.cut l [32]).2.1 [32]).1, true) else ([], [], false) := by
    unfold reqT reqL
    split <;> (rename_i h; split at h <;> simp_all)
  have HE := Lib.hid hE
  have HC1 := Lib.hid (cut_env l [32] w hE hs)
  obtain ⟨l1, l2⟩ := cut_len l [32]
  obtain ⟨A, B, b, hc⟩ : ∃ A B b, Lib.cut l [32] = (A, B, b) := ⟨_, _, _, rfl⟩
  rw [hc] at HC1 l1 l2 hd
  simp only at l1 l2 hd
  have HC2 := Lib.hid (fun W (h : Env W) => cut_env B [32] W h (by omega))
  obtain ⟨m1, m2⟩ := cut_len B [32]
  obtain ⟨C, D, c, hc2⟩ : ∃ C D c, Lib.cut B [32] = (C, D, c) := ⟨_, _, _, rfl⟩
  rw [hc2] at HC2 m1 m2 hd
  simp only at m1 m2 hd
  have HT := Lib.hid (fun W => token_any A W (by omega))
  have HG := Lib.hid (fun W => isTarget_any C W (by omega))
  obtain ⟨R, hR⟩ : ∃ R, R = reqT l := ⟨_, rfl⟩
  rw [← hR] at hd ⊢
  obtain ⟨T, hT⟩ : ∃ T, T = tokB A := ⟨_, rfl⟩
  obtain ⟨G, hG⟩ : ∃ G, G = tgtB C := ⟨_, rfl⟩
  rw [← hT] at hd HT
  rw [← hG] at hd HG
  clear hR hT hG hc hc2 l1 l2 m1 m2 hE hs
  cases T with
  | false =>
    rw [if_neg (by simp)] at hd
    subst hd
    go_enter Tryz.func31, Tryz.ntmps31
    go_wp2_with fail
    refine HC1.out.mono ?_
    rintro e w1 ⟨rfl, hB⟩
    have HB := Lib.hid hB; have HE1 := Lib.hid (HE.out.below hB); clear hB
    go_wp2_with fail
    refine (HC2.out _ HE1.out).mono ?_
    rintro e w2 ⟨rfl, hB⟩
    have HB2 := Lib.hid (HB.out.trans (hB.mono HB.out.size)); clear hB
    go_wp2_with fail
    refine (HT.out _).mono ?_
    rintro e w3 ⟨rfl, hB⟩
    have HB3 := Lib.hid (HB2.out.trans (hB.mono HB2.out.size)); clear hB
    go_wp2_with fail
    go_ret3
    exact ⟨rfl, HB3.out⟩
  | true =>
    cases G with
    | false =>
      rw [if_neg (by simp)] at hd
      subst hd
      go_enter Tryz.func31, Tryz.ntmps31
      go_wp2_with fail
      refine HC1.out.mono ?_
      rintro e w1 ⟨rfl, hB⟩
      have HB := Lib.hid hB; have HE1 := Lib.hid (HE.out.below hB); clear hB
      go_wp2_with fail
      refine (HC2.out _ HE1.out).mono ?_
      rintro e w2 ⟨rfl, hB⟩
      have HB2 := Lib.hid (HB.out.trans (hB.mono HB.out.size)); clear hB
      go_wp2_with fail
      refine (HT.out _).mono ?_
      rintro e w3 ⟨rfl, hB⟩
      have HB3 := Lib.hid (HB2.out.trans (hB.mono HB2.out.size)); clear hB
      go_wp2_with fail
      refine (HG.out _).mono ?_
      rintro e w3 ⟨rfl, hB⟩
      have HB4 := Lib.hid (HB3.out.trans (hB.mono HB3.out.size)); clear hB
      go_wp2_with fail
      go_ret3
      exact ⟨rfl, HB4.out⟩
    | true =>
      by_cases hD : D = verS
      · rw [if_pos ⟨rfl, rfl, hD⟩] at hd
        subst hd hD
        unfold verS at HC2
        go_enter Tryz.func31, Tryz.ntmps31
        go_wp2_with fail
        refine HC1.out.mono ?_
        rintro e w1 ⟨rfl, hB⟩
        have HB := Lib.hid hB; have HE1 := Lib.hid (HE.out.below hB); clear hB
        go_wp2_with fail
        refine (HC2.out _ HE1.out).mono ?_
        rintro e w2 ⟨rfl, hB⟩
        have HB2 := Lib.hid (HB.out.trans (hB.mono HB.out.size)); clear hB
        go_wp2_with fail
        refine (HT.out _).mono ?_
        rintro e w3 ⟨rfl, hB⟩
        have HB3 := Lib.hid (HB2.out.trans (hB.mono HB2.out.size)); clear hB
        go_wp2_with fail
        refine (HG.out _).mono ?_
        rintro e w3 ⟨rfl, hB⟩
        have HB4 := Lib.hid (HB3.out.trans (hB.mono HB3.out.size)); clear hB
        go_wp2_with fail
        go_ret3
        exact ⟨rfl, HB4.out⟩
      · rw [if_neg (by simp [hD])] at hd
        subst hd
        have hne : (D == [72, 84, 84, 80, 47, 49, 46, 49]) = false := by rw [beq_eq_false_iff_ne]; exact hD
        clear hD
        go_enter Tryz.func31, Tryz.ntmps31
        go_wp2_with fail
        refine HC1.out.mono ?_
        rintro e w1 ⟨rfl, hB⟩
        have HB := Lib.hid hB; have HE1 := Lib.hid (HE.out.below hB); clear hB
        go_wp2_with fail
        refine (HC2.out _ HE1.out).mono ?_
        rintro e w2 ⟨rfl, hB⟩
        have HB2 := Lib.hid (HB.out.trans (hB.mono HB.out.size)); clear hB
        go_wp2_with fail
        refine (HT.out _).mono ?_
        rintro e w3 ⟨rfl, hB⟩
        have HB3 := Lib.hid (HB2.out.trans (hB.mono HB2.out.size)); clear hB
        go_wp2_with fail
        refine (HG.out _).mono ?_
        rintro e w3 ⟨rfl, hB⟩
        have HB4 := Lib.hid (HB3.out.trans (hB.mono HB3.out.size)); clear hB
        go_wp2_with fail
        go_ret3
        exact ⟨rfl, HB4.out⟩
theorem fieldT_eq (l : List UInt8) : fieldT l = if (Lib.cut l [58]).2.2 = true ∧ tokB (Lib.cut l [58]).1 = true ∧ txtB (Lib.trimS (Lib.cut l [58]).2.1 [32, 9]) = true
    then ((Lib.cut l [58]).1, Lib.trimS (Lib.cut l [58]).2.1 [32, 9], true) else ([], [], false) := by
  unfold fieldT fieldL
  split <;> (rename_i h; split at h <;> simp_all)
/-- What parseField has under way: its pair's block. -/
theorem blk_two {w w' : World} {b : Nat} {x y : Value} (h : Blk w b [x, y]) (hb : Below w.heap.size w w') : Blk w' b [x, y] := h.below hb h.lt
set_option maxRecDepth 100000 in
set_option maxHeartbeats 1000000 in
theorem field_any (l : List UInt8) (w : World) (hE : Env w) (hs : l.length ≤ 100000) :
    Calls Tryz.prog 43 #[str l] w fun e w' => e = .returned (.tuple #[.agg #[str (fieldT l).1, str (fieldT l).2.1], .bool (fieldT l).2.2]) ∧ Below w.heap.size w w' := by
  have hd := fieldT_eq l
  have hb0 := (Below.refl w.heap.size w).alloc (Nat.le_refl _) (.cells #[str [], str []] 51)
  have HE := Lib.hid (hE.below hb0)
  have HC1 := Lib.hid (cut_env l [58] _ (hE.below hb0) hs)
  obtain ⟨l1, l2⟩ := cut_len l [58]
  obtain ⟨A, B, b, hc⟩ : ∃ A B b, Lib.cut l [58] = (A, B, b) := ⟨_, _, _, rfl⟩
  rw [hc] at HC1 l1 l2 hd
  simp only at l1 l2 hd
  have m1 := trimS_len B [32, 9]
  have HC2 := Lib.hid (fun W => trim_env B [32, 9] W (by omega) (by decide) (by decide +kernel))
  obtain ⟨C, hC⟩ : ∃ C, C = Lib.trimS B [32, 9] := ⟨_, rfl⟩
  rw [← hC] at HC2 m1 hd
  have HT := Lib.hid (fun W => token_any A W (by omega))
  have HX := Lib.hid (fun W => isText_any C W (by omega))
  obtain ⟨R, hR⟩ : ∃ R, R = fieldT l := ⟨_, rfl⟩
  rw [← hR] at hd ⊢
  obtain ⟨T, hT⟩ : ∃ T, T = tokB A := ⟨_, rfl⟩
  obtain ⟨G, hG⟩ : ∃ G, G = txtB C := ⟨_, rfl⟩
  rw [← hT] at hd HT
  rw [← hG] at hd HX
  have HB0 := Lib.hid hb0
  have HK0 := Lib.hid (Blk.new w [str [], str []] 51)
  clear hR hT hG hc hC l1 l2 m1 hE hs hb0
  cases b with
  | false =>
    rw [if_neg (by simp)] at hd
    subst hd
    go_enter Tryz.func43, Tryz.ntmps43
    go_wp2_with fail
    refine HC1.out.mono ?_
    rintro e w1 ⟨rfl, hB⟩
    have HK1 := Lib.hid (blk_two HK0.out hB); have HB1 := Lib.hid (HB0.out.trans (hB.mono HB0.out.size)); clear hB
    go_wp2_with fail
    refine (HC2.out _).mono ?_
    rintro e w2 ⟨rfl, hB⟩
    have HK2 := Lib.hid (blk_two HK1.out hB); have HB2 := Lib.hid (HB1.out.trans (hB.mono HB1.out.size)); clear hB
    have c0 := HK2.out.at (o := 0) rfl
    have c1 := HK2.out.at (o := 1) rfl
    have f0 := HK2.out.free 0
    have f1 := HK2.out.free 1
    have hlt := HK2.out.lt
    go_wp2_with fail
    exact bodyPost_ret (v := .tuple #[.agg #[str [], str []], .bool false]) (by simp [results, Tryz.results43, go_sem, c0, c1]) rfl ⟨rfl, (HB2.out.setCell (p := ⟨w.heap.size, 0, none⟩) (Nat.le_refl _) _).setCell (p := ⟨w.heap.size, 1, none⟩) (Nat.le_refl _) _⟩
  | true =>
    cases T with
    | false =>
      rw [if_neg (by simp)] at hd
      subst hd
      go_enter Tryz.func43, Tryz.ntmps43
      go_wp2_with fail
      refine HC1.out.mono ?_
      rintro e w1 ⟨rfl, hB⟩
      have HK1 := Lib.hid (blk_two HK0.out hB); have HB1 := Lib.hid (HB0.out.trans (hB.mono HB0.out.size)); clear hB
      go_wp2_with fail
      refine (HC2.out _).mono ?_
      rintro e w2 ⟨rfl, hB⟩
      have HK2 := Lib.hid (blk_two HK1.out hB); have HB2 := Lib.hid (HB1.out.trans (hB.mono HB1.out.size)); clear hB
      go_wp2_with fail
      refine (HT.out _).mono ?_
      rintro e w3 ⟨rfl, hB⟩
      have HK3 := Lib.hid (blk_two HK2.out hB); have HB3 := Lib.hid (HB2.out.trans (hB.mono HB2.out.size)); clear hB
      have c0 := HK3.out.at (o := 0) rfl
      have c1 := HK3.out.at (o := 1) rfl
      have f0 := HK3.out.free 0
      have f1 := HK3.out.free 1
      have hlt := HK3.out.lt
      go_wp2_with fail
      exact bodyPost_ret (v := .tuple #[.agg #[str [], str []], .bool false]) (by simp [results, Tryz.results43, go_sem, c0, c1]) rfl ⟨rfl, (HB3.out.setCell (p := ⟨w.heap.size, 0, none⟩) (Nat.le_refl _) _).setCell (p := ⟨w.heap.size, 1, none⟩) (Nat.le_refl _) _⟩
    | true =>
      cases G with
      | false =>
        rw [if_neg (by simp)] at hd
        subst hd
        go_enter Tryz.func43, Tryz.ntmps43
        go_wp2_with fail
        refine HC1.out.mono ?_
        rintro e w1 ⟨rfl, hB⟩
        have HK1 := Lib.hid (blk_two HK0.out hB); have HB1 := Lib.hid (HB0.out.trans (hB.mono HB0.out.size)); clear hB
        go_wp2_with fail
        refine (HC2.out _).mono ?_
        rintro e w2 ⟨rfl, hB⟩
        have HK2 := Lib.hid (blk_two HK1.out hB); have HB2 := Lib.hid (HB1.out.trans (hB.mono HB1.out.size)); clear hB
        go_wp2_with fail
        refine (HT.out _).mono ?_
        rintro e w3 ⟨rfl, hB⟩
        have HK3 := Lib.hid (blk_two HK2.out hB); have HB3 := Lib.hid (HB2.out.trans (hB.mono HB2.out.size)); clear hB
        go_wp2_with fail
        refine (HX.out _).mono ?_
        rintro e w4 ⟨rfl, rfl⟩
        have c0 := HK3.out.at (o := 0) rfl
        have c1 := HK3.out.at (o := 1) rfl
        have f0 := HK3.out.free 0
        have f1 := HK3.out.free 1
        have hlt := HK3.out.lt
        go_wp2_with fail
        exact bodyPost_ret (v := .tuple #[.agg #[str [], str []], .bool false]) (by simp [results, Tryz.results43, go_sem, c0, c1]) rfl ⟨rfl, (HB3.out.setCell (p := ⟨w.heap.size, 0, none⟩) (Nat.le_refl _) _).setCell (p := ⟨w.heap.size, 1, none⟩) (Nat.le_refl _) _⟩
      | true =>
        rw [if_pos ⟨rfl, rfl, rfl⟩] at hd
        subst hd
        go_enter Tryz.func43, Tryz.ntmps43
        go_wp2_with fail
        refine HC1.out.mono ?_
        rintro e w1 ⟨rfl, hB⟩
        have HK1 := Lib.hid (blk_two HK0.out hB); have HB1 := Lib.hid (HB0.out.trans (hB.mono HB0.out.size)); clear hB
        go_wp2_with fail
        refine (HC2.out _).mono ?_
        rintro e w2 ⟨rfl, hB⟩
        have HK2 := Lib.hid (blk_two HK1.out hB); have HB2 := Lib.hid (HB1.out.trans (hB.mono HB1.out.size)); clear hB
        go_wp2_with fail
        refine (HT.out _).mono ?_
        rintro e w3 ⟨rfl, hB⟩
        have HK3 := Lib.hid (blk_two HK2.out hB); have HB3 := Lib.hid (HB2.out.trans (hB.mono HB2.out.size)); clear hB
        go_wp2_with fail
        refine (HX.out _).mono ?_
        rintro e w4 ⟨rfl, rfl⟩
        have c0 := HK3.out.at (o := 0) rfl
        have c1 := HK3.out.at (o := 1) rfl
        have f0 := HK3.out.free 0
        have f1 := HK3.out.free 1
        have hlt := HK3.out.lt
        go_wp2_with fail
        exact bodyPost_ret (v := .tuple #[.agg #[str A, str C], .bool true]) (by simp [results, Tryz.results43, go_sem, c0, c1]) rfl ⟨rfl, (HB3.out.setCell (p := ⟨w.heap.size, 0, none⟩) (Nat.le_refl _) _).setCell (p := ⟨w.heap.size, 1, none⟩) (Nat.le_refl _) _⟩
end Go.Proofs.YtajclihnoedecaaGreatDoor
