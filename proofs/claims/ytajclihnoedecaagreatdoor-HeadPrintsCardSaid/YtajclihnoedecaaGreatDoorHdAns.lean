/- head.ParseAnswer: the status line, the closure, the whole. -/
import Derived.Test.YtajclihnoedecaaGreatDoorHdRq
set_option maxRecDepth 100000
namespace Go.Proofs.YtajclihnoedecaaGreatDoor
open Go.RowKit Go.Shelf
/-- A status line: its number, its reason, whether it is one. -/
def ansT (l : List UInt8) : Int × List UInt8 × Bool :=
  if (Lib.cut l [32]).1 = verS ∧ (Lib.cut (Lib.cut l [32]).2.1 [32]).2.2 = true ∧ (decP (Lib.cut (Lib.cut l [32]).2.1 [32]).1 100 999).2 = true ∧ txtB (Lib.cut (Lib.cut l [32]).2.1 [32]).2.1 = true
  then ((decP (Lib.cut (Lib.cut l [32]).2.1 [32]).1 100 999).1, (Lib.cut (Lib.cut l [32]).2.1 [32]).2.1, true) else (0, [], false)
set_option maxHeartbeats 1000000 in
theorem statusLine_any (l : List UInt8) (w : World) (hE : Env w) (hs : l.length ≤ 100000) :
    Calls Tryz.prog 36 #[str l] w fun e w' => e = .returned (.tuple #[.int .i64 (ansT l).1, str (ansT l).2.1, .bool (ansT l).2.2]) ∧ Below w.heap.size w w' := by
  have hd : ansT l = if (Lib.cut l [32]).1 = verS ∧ (Lib.cut (Lib.cut l [32]).2.1 [32]).2.2 = true ∧ (decP (Lib.cut (Lib.cut l [32]).2.1 [32]).1 100 999).2 = true ∧ txtB (Lib.cut (Lib.cut l [32]).2.1 [32]).2.1 = true
      then ((decP (Lib.cut (Lib.cut l [32]).2.1 [32]).1 100 999).1, (Lib.cut (Lib.cut l [32]).2.1 [32]).2.1, true) else (0, [], false) := rfl
  have HE := Lib.hid hE
  have HC1 := Lib.hid (cut_env l [32] w hE hs)
  obtain ⟨l1, l2⟩ := cut_len l [32]
  obtain ⟨A, B, b0, hc⟩ : ∃ A B b, Lib.cut l [32] = (A, B, b) := ⟨_, _, _, rfl⟩
  rw [hc] at HC1 l1 l2 hd
  simp only at l1 l2 hd
  have HC2 := Lib.hid (fun W (h : Env W) => cut_env B [32] W h (by omega))
  obtain ⟨m1, m2⟩ := cut_len B [32]
  obtain ⟨C, D, c, hc2⟩ : ∃ C D c, Lib.cut B [32] = (C, D, c) := ⟨_, _, _, rfl⟩
  rw [hc2] at HC2 m1 m2 hd
  simp only at m1 m2 hd
  have HD := Lib.hid (fun W (h : Env W) => dec_any C 100 999 W h (by omega))
  have HX := Lib.hid (fun W => isText_any D W (by omega))
  obtain ⟨n, k, hnk⟩ : ∃ n k, decP C 100 999 = (n, k) := ⟨_, _, rfl⟩
  rw [hnk] at HD hd
  simp only at hd
  obtain ⟨R, hR⟩ : ∃ R, R = ansT l := ⟨_, rfl⟩
  rw [← hR] at hd ⊢
  obtain ⟨X, hX⟩ : ∃ X, X = txtB D := ⟨_, rfl⟩
  rw [← hX] at hd HX
  clear hR hX hc hc2 hnk l1 l2 m1 m2 hE hs
  by_cases hA : A = verS
  · have heq : (A != [72, 84, 84, 80, 47, 49, 46, 49]) = false := by rw [hA]; rfl
    have heq2 : (A == [72, 84, 84, 80, 47, 49, 46, 49]) = true := by rw [hA]; rfl
    cases c
    all_goals cases k
    all_goals cases X
    all_goals
      simp [hA] at hd
      subst hd
      clear hA
      go_enter Tryz.func36, Tryz.ntmps36
      go_wp2_with fail
      refine HC1.out.mono ?_
      rintro e w1 ⟨rfl, hB⟩
      have HB := Lib.hid hB; have HE1 := Lib.hid (HE.out.below hB); clear hB
      go_wp2_with fail
      refine (HC2.out _ HE1.out).mono ?_
      rintro e w2 ⟨rfl, hB⟩
      have HB2 := Lib.hid (HB.out.trans (hB.mono HB.out.size)); have HE2 := Lib.hid (HE1.out.below hB); clear hB
      go_wp2_with fail
      refine (HD.out _ HE2.out).mono ?_
      rintro e w3 ⟨rfl, hB⟩
      have HB3 := Lib.hid (HB2.out.trans (hB.mono HB2.out.size)); clear hB
      go_wp2_with (go_at_call 55; refine (HX.out _).mono ?_; rintro e w4 ⟨rfl, rfl⟩)
      go_ret3
      exact ⟨rfl, HB3.out⟩
  · have heq : (A != [72, 84, 84, 80, 47, 49, 46, 49]) = true := by rw [bne_iff_ne]; exact hA
    have heq2 : (A == [72, 84, 84, 80, 47, 49, 46, 49]) = false := by rw [beq_eq_false_iff_ne]; exact hA
    rw [if_neg (fun h => hA h.1)] at hd
    subst hd
    clear hA
    go_enter Tryz.func36, Tryz.ntmps36
    go_wp2_with fail
    refine HC1.out.mono ?_
    rintro e w1 ⟨rfl, hB⟩
    have HB := Lib.hid hB; have HE1 := Lib.hid (HE.out.below hB); clear hB
    go_wp2_with fail
    refine (HC2.out _ HE1.out).mono ?_
    rintro e w2 ⟨rfl, hB⟩
    have HB2 := Lib.hid (HB.out.trans (hB.mono HB.out.size)); have HE2 := Lib.hid (HE1.out.below hB); clear hB
    go_wp2_with fail
    refine (HD.out _ HE2.out).mono ?_
    rintro e w3 ⟨rfl, hB⟩
    have HB3 := Lib.hid (HB2.out.trans (hB.mono HB2.out.size)); clear hB
    go_wp2_with fail
    go_ret3
    exact ⟨rfl, HB3.out⟩
/-- The closure of ParseAnswer: it fills in the first two cells of its block. -/
theorem astart_ok : StOk 35 (fun l => (ansT l).2.2) (fun l => .int .i64 (ansT l).1) (fun l => str (ansT l).2.1) := by
  intro l r x y z w hE hs hk
  have HC := Lib.hid (statusLine_any l w hE hs)
  obtain ⟨A, B, b, hc⟩ : ∃ A B b, ansT l = (A, B, b) := ⟨_, _, _, rfl⟩
  simp only []
  rw [hc] at HC ⊢
  have HK := Lib.hid hk
  clear hc hE hk
  go_enter Tryz.func35, Tryz.ntmps35
  go_wp2_with fail
  refine HC.out.mono ?_
  rintro e w1 ⟨rfl, hB⟩
  have hk1 := HK.out.below hB HK.out.lt
  have c0 := hk1.at (o := 0) rfl
  have c1 := hk1.at (o := 1) rfl
  have f0 := hk1.free 0
  have f1 := hk1.free 1
  have hlt := hk1.lt
  have HB := Lib.hid hB; have HK1 := Lib.hid hk1; clear hB hk1 HC
  go_wp2_with fail
  go_ret
  exact ⟨rfl, ((grown_of_below HB.out (some r)).trans (grown_set _ ⟨r, 0, none⟩ _)).trans (grown_set _ ⟨r, 1, none⟩ _), (HK1.out.set 0 _).set 1 _⟩
abbrev ansP (p : List UInt8) := parseL (fun l => (ansT l).2.2) p
/-- What ParseAnswer gives. -/
def AnsR (w : World) (p : List UInt8) (e : Ending) (w' : World) : Prop :=
  ∃ v fs n x, e = .returned (.tuple #[.agg #[.int .i64 (if x = 0 then (ansT (line0 p)).1 else 0), str (if x = 0 then (ansT (line0 p)).2.1 else []), v], .int .i64 n, .int .i64 x]) ∧ ansP p = (fs, n, x) ∧ OwnP w' w.heap.size v fs ∧ Below w.heap.size w w'
set_option maxRecDepth 100000 in
set_option maxHeartbeats 1000000 in
theorem answer_any (b o c : Nat) (l : List UInt8) (w : World) (hE : Env w) (hl : Bs w b o l) (hb : b < w.heap.size) (hc : l.length ≤ c) (hc2 : c ≤ 9223372036854775807) (hs : l.length ≤ 5000) :
    Calls Tryz.prog 17 #[.slice (some ⟨b, o, none⟩) l.length c] w (AnsR w l) := by
  have hb1 : Below w.heap.size w ((w.alloc (.cells #[.int .i64 0, str [], .slice none 0 0] 53)).alloc (.cells #[.int .i64 0, str [], .slice none 0 0] 53)) :=
    ((Below.refl _ w).alloc (Nat.le_refl _) _).alloc (by simp) _
  have hk0 := (Blk.new w [.int .i64 0, str [], .slice none 0 0] 53).alloc (.cells #[.int .i64 0, str [], .slice none 0 0] 53)
  have hk1 := Blk.new (w.alloc (.cells #[.int .i64 0, str [], .slice none 0 0] 53)) [.int .i64 0, str [], .slice none 0 0] 53
  rw [World.size_alloc] at hk1
  have HPA := Lib.hid (parse_st 35 (enters_of Tryz.func35 (by kernel_rfl) rfl) _ _ _ astart_ok b o c (w.heap.size + 1) l (.int .i64 0) (str []) (.slice none 0 0) w _ hE hb1 (by omega) (hl.below hb1 hb) (by simp; omega) hc hc2 hs hk1)
  have HK0 := Lib.hid hk0
  have HB1 := Lib.hid hb1
  clear hb1 hk0 hk1 hE hl
  go_enter Tryz.func17, Tryz.ntmps17
  go_wp2_with fail
  refine HPA.out.mono ?_
  rintro e w3 ⟨v, fs, n, x, rfl, hp, hO, hg, ⟨x0, x1, hk⟩, hq⟩
  have hsz := hg.size
  simp only [World.size_alloc] at hsz
  have hkr := HK0.out.grown hg (by simp)
  have hB3 : Below w.heap.size w w3 := HB1.out.trans (belowR hg (by simp; omega) (by omega))
  obtain ⟨VA, VC, rfl⟩ := hO.form
  have HO := Lib.hid (hO.le (base' := w.heap.size + 2) (by simp))
  have HB3 := Lib.hid hB3
  have a0 := hkr.at (o := 0) rfl
  have a1 := hkr.at (o := 1) rfl
  have a2 := hkr.at (o := 2) rfl
  have f0 := hkr.free 0
  have f1 := hkr.free 1
  have f2 := hkr.free 2
  have hlt := hkr.lt
  have HKR := Lib.hid hkr
  by_cases hx : x = 0
  · subst hx
    have hk2 := hq rfl
    replace hk2 : Blk w3 (w.heap.size + 1) [.int .i64 (ansT ((headLines l).headD [])).1, str (ansT ((headLines l).headD [])).2.1, .slice none 0 0] := hk2
    have b0 := hk2.at (o := 0) rfl
    have b1 := hk2.at (o := 1) rfl
    have b2 := hk2.at (o := 2) rfl
    have g2 := hk2.free 2
    have hlt2 := hk2.lt
    have HP := Lib.hid hp
    obtain ⟨A, B, hAB⟩ : ∃ A B, A = (ansT ((headLines l).headD [])).1 ∧ B = (ansT ((headLines l).headD [])).2.1 := ⟨_, _, rfl, rfl⟩
    rw [← hAB.1] at b0
    rw [← hAB.2] at b1
    have HAB := Lib.hid hAB
    clear hk2 hk hq hp hAB hO hg hkr hB3 HPA HK0 hsz
    go_wp2_with fail
    have hBf : Below w.heap.size w ((((w3.setCell ⟨w.heap.size + 1, 2, none⟩ (.slice VA fs.length VC)).setCell ⟨w.heap.size, 0, none⟩ (.int .i64 A)).setCell ⟨w.heap.size, 1, none⟩ (str B)).setCell ⟨w.heap.size, 2, none⟩ (.slice VA fs.length VC)) :=
      (((HB3.out.setCell (p := ⟨w.heap.size + 1, 2, none⟩) (by show w.heap.size ≤ w.heap.size + 1; omega) _).setCell (p := ⟨w.heap.size, 0, none⟩) (Nat.le_refl _) _).setCell (p := ⟨w.heap.size, 1, none⟩) (Nat.le_refl _) _).setCell (p := ⟨w.heap.size, 2, none⟩) (Nat.le_refl _) _
    have hOf := ((((HO.out.set (b := w.heap.size + 1) (i := 2) (by omega) (.slice VA fs.length VC)).set (b := w.heap.size) (i := 0) (by omega) (.int .i64 A)).set (b := w.heap.size) (i := 1) (by omega) (str B)).set (b := w.heap.size) (i := 2) (by omega) (.slice VA fs.length VC)).le (base' := w.heap.size) (by omega)
    exact bodyPost_ret (v := .tuple #[.agg #[.int .i64 A, str B, .slice VA fs.length VC], .int .i64 n, .int .i64 0]) (by simp [results, Tryz.results17, go_sem, a0, a1, a2]) rfl
      ⟨_, _, _, _, by rw [if_pos rfl, if_pos rfl, HAB.out.1, HAB.out.2], HP.out, hOf, hBf⟩
  · obtain ⟨rfl, rfl⟩ := parseL_bad _ _ _ _ _ hp hx
    have hne : (x == 0) = false := by rw [beq_eq_false_iff_ne]; exact hx
    have HX := Lib.hid hx
    have HP := Lib.hid hp
    clear hk hq hp hx hO hg hkr hB3 HPA HK0 hsz
    go_wp2_with fail
    have hBf : Below w.heap.size w (((w3.setCell ⟨w.heap.size, 0, none⟩ (.int .i64 0)).setCell ⟨w.heap.size, 1, none⟩ (str [])).setCell ⟨w.heap.size, 2, none⟩ (.slice none 0 0)) :=
      ((HB3.out.setCell (p := ⟨w.heap.size, 0, none⟩) (Nat.le_refl _) _).setCell (p := ⟨w.heap.size, 1, none⟩) (Nat.le_refl _) _).setCell (p := ⟨w.heap.size, 2, none⟩) (Nat.le_refl _) _
    exact bodyPost_ret (v := .tuple #[.agg #[.int .i64 0, str [], .slice none 0 0], .int .i64 0, .int .i64 x]) (by simp [results, Tryz.results17, go_sem, a0, a1, a2]) rfl
      ⟨_, _, _, _, by rw [if_neg HX.out, if_neg HX.out], HP.out, World.ownsRow_nil _ _ _ 2, hBf⟩
end Go.Proofs.YtajclihnoedecaaGreatDoor
