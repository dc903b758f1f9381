/- head.Split, the law's awake. -/
import Derived.Test.YtajclihnoedecaaGreatDoorHdRq
namespace Go.Proofs.YtajclihnoedecaaGreatDoor
open Go.RowKit Go.Shelf
set_option maxRecDepth 100000 in
set_option maxHeartbeats 1000000 in
theorem split_any (s : List UInt8) (w : World) (hE : Env w) (hs : s.length ≤ 100000) :
    Calls Tryz.prog 16 #[str s] w fun e w' => e = .returned (.tuple #[str (splitL s).1, .int .i64 (splitL s).2.1, .bool (splitL s).2.2]) ∧ Below w.heap.size w w' := by
  have hd : splitL s = if (decP (Lib.cut s [58]).2.1 1 65535).2 = true ∧ (Lib.cut s [58]).1 ≠ [] ∧ (Lib.cut s [58]).1.length ≤ 32 ∧ (Lib.cut s [58]).1.all (hostS.contains ·) = true
    then ((Lib.cut s [58]).1, (decP (Lib.cut s [58]).2.1 1 65535).1, true) else ([], 0, false) := rfl
  have HE := Lib.hid hE
  have HC1 := Lib.hid (cut_env s [58] w hE hs)
  obtain ⟨l1, l2⟩ := cut_len s [58]
  obtain ⟨A, B, b, hc⟩ : ∃ A B b, Lib.cut s [58] = (A, B, b) := ⟨_, _, _, rfl⟩
  rw [hc] at HC1 l1 l2 hd
  simp only at l1 l2 hd
  have HC2 := Lib.hid (fun W (h : Env W) => dec_any B 1 65535 W h (by omega))
  obtain ⟨n, ok, hn⟩ : ∃ n ok, decP B 1 65535 = (n, ok) := ⟨_, _, rfl⟩
  rw [hn] at HC2 hd
  simp only at hd
  have HT := Lib.hid (fun W => trim_env A hostS W (by omega) (by decide) (by decide +kernel))
  have ht := trimS_nil A hostS
  obtain ⟨T, hT⟩ : ∃ T, T = Lib.trimS A hostS := ⟨_, rfl⟩
  rw [← hT] at HT ht
  obtain ⟨R, hR⟩ : ∃ R, R = splitL s := ⟨_, rfl⟩
  rw [← hR] at hd ⊢
  clear hR hT hn hc l2 hE hs
  cases ok with
  | false =>
    rw [if_neg (by simp)] at hd
    subst hd
    clear ht
    go_enter Tryz.func16, Tryz.ntmps16
    go_wp2_with fail
    refine HC1.out.mono ?_
    rintro e w1 ⟨rfl, hB⟩
    have HB := Lib.hid hB; have HE1 := Lib.hid (HE.out.below hB); clear hB
    go_wp2_with fail
    refine (HC2.out _ HE1.out).mono ?_
    rintro e w2 ⟨rfl, hB⟩
    have HB2 := Lib.hid (HB.out.trans (hB.mono HB.out.size)); clear hB
    go_wp2_with fail
    go_ret3
    exact ⟨rfl, HB2.out⟩
  | true =>
    by_cases hA : A = []
    · rw [if_neg (by simp [hA])] at hd
      subst hd hA
      clear ht
      go_enter Tryz.func16, Tryz.ntmps16
      go_wp2_with fail
      refine HC1.out.mono ?_
      rintro e w1 ⟨rfl, hB⟩
      have HB := Lib.hid hB; have HE1 := Lib.hid (HE.out.below hB); clear hB
      go_wp2_with fail
      refine (HC2.out _ HE1.out).mono ?_
      rintro e w2 ⟨rfl, hB⟩
      have HB2 := Lib.hid (HB.out.trans (hB.mono HB.out.size)); clear hB
      go_wp2_with fail
      go_ret3
      exact ⟨rfl, HB2.out⟩
    · have hne := ne_isEmpty hA
      by_cases h32 : A.length ≤ 32
      · have h32' : ¬ (32 : Int) < (A.length : Int) := by omega
        by_cases hTe : T = []
        · rw [if_pos ⟨rfl, hA, h32, ht.1 hTe⟩] at hd
          subst hd hTe
          clear ht hA h32
          go_enter Tryz.func16, Tryz.ntmps16
          go_wp2_with fail
          refine HC1.out.mono ?_
          rintro e w1 ⟨rfl, hB⟩
          have HB := Lib.hid hB; have HE1 := Lib.hid (HE.out.below hB); clear hB
          go_wp2_with fail
          refine (HC2.out _ HE1.out).mono ?_
          rintro e w2 ⟨rfl, hB⟩
          have HB2 := Lib.hid (HB.out.trans (hB.mono HB.out.size)); clear hB
          go_wp2_with fail
          refine (HT.out _).mono ?_
          rintro e w3 ⟨rfl, hB⟩
          have HB3 := Lib.hid (HB2.out.trans (hB.mono HB2.out.size)); clear hB
          go_wp2_with fail
          go_ret3
          exact ⟨rfl, HB3.out⟩
        · rw [if_neg (fun h => hTe (ht.2 h.2.2.2))] at hd
          subst hd
          have hTe2 := ne_isEmpty hTe
          clear ht hA h32 hTe
          go_enter Tryz.func16, Tryz.ntmps16
          go_wp2_with fail
          refine HC1.out.mono ?_
          rintro e w1 ⟨rfl, hB⟩
          have HB := Lib.hid hB; have HE1 := Lib.hid (HE.out.below hB); clear hB
          go_wp2_with fail
          refine (HC2.out _ HE1.out).mono ?_
          rintro e w2 ⟨rfl, hB⟩
          have HB2 := Lib.hid (HB.out.trans (hB.mono HB.out.size)); clear hB
          go_wp2_with fail
          refine (HT.out _).mono ?_
          rintro e w3 ⟨rfl, hB⟩
          have HB3 := Lib.hid (HB2.out.trans (hB.mono HB2.out.size)); clear hB
          go_wp2_with fail
          go_ret3
          exact ⟨rfl, HB3.out⟩
      · rw [if_neg (fun h => h32 h.2.2.1)] at hd
        subst hd
        have h32' : (32 : Int) < (A.length : Int) := by omega
        clear ht hA h32
        go_enter Tryz.func16, Tryz.ntmps16
        go_wp2_with fail
        refine HC1.out.mono ?_
        rintro e w1 ⟨rfl, hB⟩
        have HB := Lib.hid hB; have HE1 := Lib.hid (HE.out.below hB); clear hB
        go_wp2_with fail
        refine (HC2.out _ HE1.out).mono ?_
        rintro e w2 ⟨rfl, hB⟩
        have HB2 := Lib.hid (HB.out.trans (hB.mono HB.out.size)); clear hB
        go_wp2_with fail
        go_ret3
        exact ⟨rfl, HB2.out⟩
def egH : List UInt8 := [71, 69, 84, 32, 47, 32, 72, 84, 84, 80, 47, 49, 46, 49, 13, 10, 72, 111, 115, 116, 58, 32, 97, 13, 10, 13, 10, 120]
theorem eg_parse : reqP egH = ([([72, 111, 115, 116], [97])], 27, 0) := by decide +kernel
theorem eg_line : (reqT (line0 egH)).1 = [71, 69, 84] ∧ (reqT (line0 egH)).2.1 = [47] := by decide +kernel
theorem eg_split : splitL [97, 46, 98, 58, 56, 48] = ([97, 46, 98], 80, true) := by decide +kernel
theorem OwnP.cells {W : World} {base : Nat} {v : Value} {xs : List (List UInt8 × List UInt8)} (h : OwnP W base v xs) : xs = [] ∨ ∃ g cap, v = .slice (some ⟨g, 0, none⟩) xs.length cap ∧ base ≤ g ∧ ∀ j (hj : j < xs.length), W.cell? ⟨g, j * 2, none⟩ = some (str xs[j].1) ∧ W.cell? ⟨g, j * 2 + 1, none⟩ = some (str xs[j].2) := by
  obtain ⟨h1, ⟨h2, h3⟩ | ⟨g, cap, cur, h0, hb, hg, hc, hm, hs, ht⟩⟩ := id h
  · exact .inl (List.eq_nil_of_length_eq_zero h3)
  · refine .inr ⟨g, cap, h0, hb, fun j hj => ?_⟩
    have at_ : ∀ i, i < (prc xs).length → W.cell? ⟨g, i, none⟩ = (prc xs)[i]? := fun i hi => by
      have := congrArg (fun x : List Value => x[i]?) ht
      simp only [List.getElem?_take] at this
      rw [prc_len] at hi
      rw [if_pos (by omega)] at this
      rw [← this]
      simp [World.cell?, hg]
    have hp : ∀ (l : List (List UInt8 × List UInt8)) (j : Nat) (hj : j < l.length), (prc l)[j * 2]? = some (str l[j].1) ∧ (prc l)[j * 2 + 1]? = some (str l[j].2) := by
      intro l
      induction l with
      | nil => intro j hj; simp at hj
      | cons x t ih =>
        intro j hj
        cases j with
        | zero => exact ⟨rfl, rfl⟩
        | succ j =>
          have := ih j (by simpa using hj)
          have e : prc (x :: t) = str x.1 :: str x.2 :: prc t := rfl
          rw [e, show (j + 1) * 2 = j * 2 + 1 + 1 by omega, List.getElem?_cons_succ, List.getElem?_cons_succ, List.getElem?_cons_succ]
          simpa using this
    have hl := prc_len xs
    obtain ⟨p1, p2⟩ := hp xs j hj
    exact ⟨(at_ _ (by omega)).trans p1, (at_ _ (by omega)).trans p2⟩
set_option maxRecDepth 100000 in
set_option maxHeartbeats 1000000 in
theorem awake9 (w : World) (hE : Env w) : Calls Tryz.prog 5 #[] w fun e w' => e = .returned (.bool true) ∧ Below w.heap.size w w' := by
  have kc := fun (w : World) (C : Array Value) (n c : Nat) => Lib.run_convert_bytes_const (P := Tryz.prog) w 22 5 C n c Tryz.underlying22 Tryz.underlying5
  have hb0 : Below w.heap.size w (w.alloc (.cells (egH.map vb).toArray 5 (28, 29))) := (Below.refl _ w).alloc (Nat.le_refl _) _
  have hbs : Bs (w.alloc (.cells (egH.map vb).toArray 5 (28, 29))) w.heap.size 0 egH := fun j h => by
    rw [Nat.zero_add, World.cell?_alloc_mark]
    simp [List.getElem?_eq_getElem h]
  have hrq := request_any w.heap.size 0 28 egH _ (hE.below hb0) hbs (by simp) (by decide) (by decide) (by decide)
  have hsp := fun W (h : Env W) => split_any [97, 46, 98, 58, 56, 48] W h (by decide)
  rw [eg_split] at hsp
  have HRQ := Lib.hid hrq
  have HSP := Lib.hid hsp
  have HB0 := Lib.hid hb0
  have HE := Lib.hid hE
  clear hbs hrq hsp hb0 hE
  go_enter Tryz.func5, Tryz.ntmps5
  go_wp2_with fail
  refine HRQ.out.mono ?_
  rintro e w1 ⟨v, fs, n, x, rfl, hp, hO, hB⟩
  rw [eg_parse] at hp
  cases hp
  rw [if_pos rfl, if_pos rfl, eg_line.1, eg_line.2]
  rcases hO.cells with h | ⟨g, cap, rfl, hg, hcs⟩
  · cases h
  have c1 : w1.cell? ⟨g, 1, none⟩ = some (str [97]) := (hcs 0 (by decide)).2
  have HB1 := Lib.hid (HB0.out.trans (hB.mono HB0.out.size))
  have hzw := HB1.out.size
  have hbx : Below w.heap.size w (w1.alloc (.cells #[str [71, 69, 84], str [47], .slice (some ⟨g, 0, none⟩) 1 cap] 45)) := HB1.out.alloc (by omega) _
  have hk := Blk.new w1 [str [71, 69, 84], str [47], .slice (some ⟨g, 0, none⟩) 1 cap] 45
  have c1' := cell_below c1 ((Below.refl w1.heap.size w1).alloc (Nat.le_refl _) (.cells #[str [71, 69, 84], str [47], .slice (some ⟨g, 0, none⟩) 1 cap] 45))
  have HBX := Lib.hid hbx
  have HK := Lib.hid hk
  have HC1 := Lib.hid c1'
  clear hO hB hcs HRQ hbx hk c1 c1' hzw
  go_wp2_with fail
  refine (HSP.out _ (HE.out.below HBX.out)).mono ?_
  rintro e w2 ⟨rfl, hB⟩
  have hk2 := HK.out.below hB HK.out.lt
  have d0 := hk2.at (o := 0) rfl
  have d1 := hk2.at (o := 1) rfl
  have d2 := hk2.at (o := 2) rfl
  have d3 := cell_below HC1.out hB
  have HB2 := Lib.hid (HBX.out.trans (hB.mono HBX.out.size))
  clear hk2 hB HSP HC1 HK
  go_wp2_with fail
  go_ret
  exact ⟨rfl, HB2.out⟩
end Go.Proofs.YtajclihnoedecaaGreatDoor