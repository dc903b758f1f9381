/- The statement HeadReads' own text, walked. -/
import Derived.Test.YtajclihnoedecaaGreatDoorHrW
import Derived.Test.YtajclihnoedecaaGreatDoorHdAwk
import Derived.Test.YtajclihnoedecaaGreatDoorCut
set_option maxRecDepth 100000
namespace Go.Proofs.YtajclihnoedecaaGreatDoor
open Go.RowKit Go.Shelf
attribute [local go_sem] Oper.semAt_some
theorem parseL_few (st : List UInt8 → Bool) (p : List UInt8) (fs : List (List UInt8 × List UInt8)) (n x : Int) (h : parseL st p = (fs, n, x)) : fs.length ≤ 24 := by
  unfold parseL at h
  split at h
  · cases h; simp
  · split at h
    · cases h; simp
    · split at h
      · cases h; simp
      · split at h
        · cases h; simp
        · cases h; omega
theorem ownP_cells {W : World} {base : Nat} {v : Value} {xs : List (List UInt8 × List UInt8)} (h : OwnP W base v xs) : ∃ A c, v = .slice A xs.length c ∧ ∀ j (hj : j < xs.length), ∃ g, A = some ⟨g, 0, none⟩ ∧ W.cell? ⟨g, j * 2, none⟩ = some (str xs[j].1) ∧ W.cell? ⟨g, j * 2 + 1, none⟩ = some (str xs[j].2) := by
  rcases h.cells with rfl | ⟨g, cap, rfl, _, hc⟩
  · obtain ⟨A, c, rfl⟩ := h.form
    exact ⟨A, c, rfl, fun j hj => by simp at hj⟩
  · exact ⟨_, _, rfl, fun j hj => ⟨g, rfl, hc j hj⟩⟩
set_option maxHeartbeats 1000000 in
theorem sameHd_any (A B : List UInt8) (st : Int) (v1 v2 : Value) (b1 b2 : Nat) (fs : List (List UInt8 × List UInt8)) (w : World) (h1 : OwnP w b1 v1 fs) (h2 : OwnP w b2 v2 fs) (hl : fs.length ≤ 24) :
    Calls Tryz.prog 10 #[hd4 A B st v1, hd4 A B st v2] w fun e w' => e = .returned (.bool true) ∧ Below w.heap.size w w' := by
  obtain ⟨A1, c1, rfl, hc1⟩ := ownP_cells h1
  obtain ⟨A2, c2, rfl, hc2⟩ := ownP_cells h2
  obtain ⟨W2, hW2⟩ : ∃ W, W = (w.alloc (.cells #[str A, str B, .int .i64 st, .slice A1 fs.length c1] 29)).alloc (.cells #[str A, str B, .int .i64 st, .slice A2 fs.length c2] 29) := ⟨_, rfl⟩
  have hb : Below w.heap.size w W2 := by rw [hW2]; exact ((Below.refl _ w).alloc (Nat.le_refl _) _).alloc (by simp) _
  have hk1 : Blk W2 w.heap.size [str A, str B, .int .i64 st, .slice A1 fs.length c1] := by rw [hW2]; exact (Blk.new w _ _).alloc _
  have hk2 : Blk W2 (w.heap.size + 1) [str A, str B, .int .i64 st, .slice A2 fs.length c2] := by
    rw [hW2]
    have := Blk.new (w.alloc (.cells #[str A, str B, .int .i64 st, .slice A1 fs.length c1] 29)) [str A, str B, .int .i64 st, .slice A2 fs.length c2] 29
    rwa [World.size_alloc] at this
  have HK1 := Lib.hid hk1; have HK2 := Lib.hid hk2; have HB := Lib.hid hb
  have HC1 : Hid (∀ j (hj : j < fs.length), ∃ g, A1 = some ⟨g, 0, none⟩ ∧ W2.cell? ⟨g, j * 2, none⟩ = some (str fs[j].1) ∧ W2.cell? ⟨g, j * 2 + 1, none⟩ = some (str fs[j].2)) := Lib.hid (fun j hj => by
    obtain ⟨g, e, x, y⟩ := hc1 j hj
    exact ⟨g, e, cell_below x hb, cell_below y hb⟩)
  have HC2 : Hid (∀ j (hj : j < fs.length), ∃ g, A2 = some ⟨g, 0, none⟩ ∧ W2.cell? ⟨g, j * 2, none⟩ = some (str fs[j].1) ∧ W2.cell? ⟨g, j * 2 + 1, none⟩ = some (str fs[j].2)) := Lib.hid (fun j hj => by
    obtain ⟨g, e, x, y⟩ := hc2 j hj
    exact ⟨g, e, cell_below x hb, cell_below y hb⟩)
  clear hk1 hk2 hb hc1 hc2 h1 h2
  go_enter Tryz.func10, Tryz.ntmps10
  go_wp2_with fail
  rw [← hW2]
  clear hW2
  go_loopw [37] (fun i wr => ∃ k : Nat, k ≤ fs.length ∧ i = .int .i64 (k : Int) ∧ ∃ m, wr = W2.drewN m) (fun i _ => fs.length - (intOf i).toNat)
  case atStart => exact ⟨0, by omega, rfl, 0, rfl⟩
  case round =>
    obtain ⟨k, hk, rfl, m, rfl⟩ := hrel
    have hka := HK1.out.drewN m
    have hkb := HK2.out.drewN m
    have a3 := hka.at (o := 3) rfl
    have b3 := hkb.at (o := 3) rfl
    have a3' := HK1.out.at (o := 3) rfl
    have b3' := HK2.out.at (o := 3) rfl
    by_cases hlt : k < fs.length
    · obtain ⟨g1, rfl, x1, y1⟩ := HC1.out k hlt
      obtain ⟨g2, rfl, x2, y2⟩ := HC2.out k hlt
      obtain ⟨q, hq⟩ : ∃ q, q = fs[k] := ⟨_, rfl⟩
      rw [← hq] at x1 y1 x2 y2
      clear hq
      obtain ⟨q1, q2⟩ := q
      simp only at x1 y1 x2 y2
      have x1' : (W2.drewN m).cell? ⟨g1, k * 2, none⟩ = some (str q1) := x1
      have y1' : (W2.drewN m).cell? ⟨g1, k * 2 + 1, none⟩ = some (str q2) := y1
      have x2' : (W2.drewN m).cell? ⟨g2, k * 2, none⟩ = some (str q1) := x2
      have y2' : (W2.drewN m).cell? ⟨g2, k * 2 + 1, none⟩ = some (str q2) := y2
      clear hka hkb
      go_wp2_with fail
      go_quiet (fail)
      go_wp2_with fail
      go_roundw
      case rel => exact ⟨k + 1, by omega, by go_num, _, rfl⟩
      case measure => simp [intOf]; omega
    · obtain rfl : k = fs.length := by omega
      clear hka hkb
      go_wp2_with fail
      go_ret
      exact ⟨rfl, below_drewN HB.out m⟩
theorem own_seven {W : World} {base : Nat} {v : Value} {p : List UInt8} (h : OwnB W base v (p ++ [7])) : ∃ g c, v = .slice (some ⟨g, 0, none⟩) (p.length + 1) c ∧ base ≤ g ∧ g < W.heap.size ∧ p.length + 1 ≤ c ∧ c ≤ 9223372036854775807 ∧ Bs W g 0 p ∧ W.cell? ⟨g, p.length, none⟩ = some (.int .u8 7) := by
  have hl : (p ++ [(7 : UInt8)]).length = p.length + 1 := by simp
  rcases h.parts with ⟨_, h0⟩ | ⟨g, cap, rfl, hb, hg, hc, hm, hbs, _⟩
  · simp at h0
  · rw [hl] at hc ⊢
    refine ⟨g, cap, rfl, hb, hg, hc, by unfold maxLen at hm; omega, ?_, ?_⟩
    · have := hbs.take p.length
      rwa [List.take_left' rfl] at this
    · have := hbs p.length (by omega)
      rw [Nat.zero_add] at this
      rw [this]
      simp; rfl
set_option maxHeartbeats 4000000 in
theorem headReads_law (B0 : Nat) (v : Value) (l : List UInt8) (w : World) (hv : Sl w B0 v l) (hB : B0 ≤ w.heap.size) (hE : Env w) :
    Calls Tryz.prog 3 #[v] w fun e w' => e = .returned (.bool true) ∧ Below w.heap.size w w' := by
  have HV := Lib.hid hv; have HE := Lib.hid hE; have HBB := Lib.hid hB
  clear hE
  obtain ⟨Av, cv, rfl, _, _, _, _⟩ := hv
  have HAW := Lib.hid (awake9 w HE.out)
  go_enter Tryz.func3, Tryz.ntmps3
  go_wp2_with fail
  refine HAW.out.mono ?_
  rintro e w1 ⟨rfl, hB1⟩
  have HB1 := Lib.hid hB1; clear hB1 HAW
  go_wp2_with fail
  refine (cut_any B0 _ l 4200 w1 (HV.out.below HB1.out hB) (Nat.le_trans hB HB1.out.size) (by omega) (by omega)).mono ?_
  rintro e w2 ⟨v0, rfl, hO2, hB2⟩
  obtain ⟨p, hp⟩ : ∃ p, p = l.take (4200 : Int).toNat := ⟨_, rfl⟩
  rw [← hp] at hO2
  have hpl : p.length ≤ 4200 := by rw [hp, List.length_take]; omega
  have HLOW2 := Lib.hid (HB1.out.trans (hB2.mono HB1.out.size))
  have HS0 := Lib.hid hO2.sl
  have HRP : Hid (∀ (asks : Bool) (W : World), Below w2.heap.size w2 W → Calls Tryz.prog 9 #[v0, .bool asks] W (PrsR asks W p)) := Lib.hid (fun asks W hW => by
    rcases hO2.parts with ⟨rfl, rfl⟩ | ⟨g, cap, rfl, _, hg, hc, hm, hbs, _⟩
    · exact refParse_nil asks W
    · exact refParse_any asks g 0 cap p W (hbs.below hW hg) (Nat.lt_of_lt_of_le hg hW.size) hc (by unfold maxLen at hm; omega) (by omega))
  obtain ⟨A0, c0, rfl, _, hc0, _, _⟩ := id hO2.sl
  have HEN := Lib.hid (HE.out.below HLOW2.out)
  have hz0 : w.heap.size ≤ w2.heap.size := HLOW2.out.size
  clear hO2 hB2 hp
  go_wp2_with fail
  obtain ⟨W3, hW3⟩ : ∃ W, W = w2.alloc (.cells #[.bool true, .bool false] 4) := ⟨_, rfl⟩
  have hb3 : Below w2.heap.size w2 W3 := by rw [hW3]; exact (Below.refl _ w2).alloc (Nat.le_refl _) _
  have hk3 : Blk W3 w2.heap.size [.bool true, .bool false] := by rw [hW3]; exact Blk.new w2 _ _
  have HB3 := Lib.hid hb3; have HK3 := Lib.hid hk3
  have hz3 : W3.heap.size = w2.heap.size + 1 := by rw [hW3]; simp
  rw [← hW3]
  clear hb3 hk3 hW3
  go_loopw [18] (fun i wr => ∃ k : Nat, k ≤ 2 ∧ i = .int .i64 (k : Int) ∧ Below W3.heap.size W3 wr) (fun i _ => 2 - (intOf i).toNat)
  case atStart => exact ⟨0, by omega, rfl, Below.refl _ _⟩
  case round =>
    obtain ⟨k, hk, rfl, hbr⟩ := hrel
    have hzr := hbr.size
    have HBR := Lib.hid (HB3.out.trans (hbr.mono (by omega)))
    have hkr := HK3.out.below hbr (by omega)
    have HBW := Lib.hid hbr
    clear hbr
    by_cases hlt : k < 2
    · obtain ⟨asks, hck⟩ : ∃ asks, wr.cell? ⟨w2.heap.size, k, none⟩ = some (.bool asks) := by
        rcases (show k = 0 ∨ k = 1 by omega) with rfl | rfl
        · exact ⟨_, hkr.at (o := 0) rfl⟩
        · exact ⟨_, hkr.at (o := 1) rfl⟩
      have hk2 : (k : Int) < 2 := by omega
      have HCP := Lib.hid (copy_any w2.heap.size _ p wr (HS0.out.below HBR.out (Nat.le_refl _)) HBR.out.size (by omega))
      clear hkr
      go_wp2_with fail
      refine HCP.out.mono ?_
      rintro e w4 ⟨vq, rfl, hOq, hBq⟩
      have hz4 := hBq.size
      have HOA := Lib.hid (hOq.below ((Below.refl w4.heap.size w4).alloc (Nat.le_refl _) (.cells #[.int .u8 7] 5)))
      have HS7 := Lib.hid (Sl.newA w4 #[.int .u8 7] 5 [7] (b := w4.heap.size) (n := 1) (B := w4.heap.size + 1) rfl rfl rfl (by omega) (by simp))
      have HB4 := Lib.hid (hBq.alloc hz4 (.cells #[.int .u8 7] 5))
      have hzB : wr.heap.size ≤ (w4.alloc (.cells #[.int .u8 7] 5)).heap.size := by simp; omega
      have HPL : Hid (p.length + 1 ≤ 1099511627776) := Lib.hid (by omega)
      clear hOq hBq HCP
      go_wp2_with (at_builtin; ((with_reducible refine wpList_app_sl ?g1 (.tmp 23) (.tmp 24) ?g2 wr.heap.size vq p [7] ?g3 ?g4 (w4.heap.size + 1) (.slice (some ⟨w4.heap.size, 0, none⟩) 1 1) ?g5 ?g6 ?g7 ?g8 ?_); (case g1 => rfl); (case g2 => rfl); (case g3 => rfl); (case g4 => exact HOA.out); (case g5 => rfl); (case g6 => exact HS7.out); (case g7 => exact HPL.out); (case g8 => exact hzB); intro v5 w5 hv5 hg5; have HB5 := Lib.hid (HB4.out.trans (HOA.out.belowBase hg5 hzB)); obtain ⟨g5, c5, rfl, hgb5, hgl5, hc5, hm5, hbs5, hce5⟩ := own_seven hv5; have hsl1 := fun W => slice_h (some ⟨g5, 0, none⟩) (p.length + 1) c5 p.length (by omega) W; have hsl2 := fun W => slice_h (some ⟨g5, 0, none⟩) p.length c5 (p.length + 1) hc5 W; have HBS5 := Lib.hid hbs5; have HCE5 := Lib.hid hce5; clear hv5 hg5 hbs5 hce5))
      have HE5 := Lib.hid (HEN.out.below ((HBR.out.trans (HB5.out.mono HBR.out.size)).mono (Nat.le_refl _)))
      have HPA := Lib.hid (lawParse_any asks g5 0 c5 p w5 HE5.out HBS5.out hgl5 (by omega) hm5 (by omega))
      go_wp2_with fail
      refine HPA.out.mono ?_
      rintro e w6 ⟨va, fs, n, x, rfl, hp1, hO1, hB6⟩
      obtain ⟨a1, ha1⟩ : ∃ a1, a1 = if x = 0 then (hdA asks (line0 p)).1 else [] := ⟨_, rfl⟩
      obtain ⟨b1, hb1⟩ : ∃ b1, b1 = if x = 0 then (hdA asks (line0 p)).2.1 else [] := ⟨_, rfl⟩
      obtain ⟨s1, hs1⟩ : ∃ s1, s1 = if x = 0 then (hdA asks (line0 p)).2.2.1 else 0 := ⟨_, rfl⟩
      rw [← ha1, ← hb1, ← hs1]
      have HA1 := Lib.hid ha1; have HB1' := Lib.hid hb1; have HS1 := Lib.hid hs1
      have hz5 := HB5.out.size
      have hz6 := hB6.size
      have HB6 := Lib.hid (HB5.out.trans (hB6.mono hz5))
      have HP1 := Lib.hid hp1
      have hbw7 : Below w6.heap.size w6 (w6.alloc (.cells #[str a1, str b1, .int .i64 s1, va] 29)) := (Below.refl _ _).alloc (Nat.le_refl _) _
      have hk6 := Blk.new w6 [str a1, str b1, .int .i64 s1, va] 29
      have HRP7 := Lib.hid (HRP.out asks (w6.alloc (.cells #[str a1, str b1, .int .i64 s1, va] 29)) ((HBR.out.trans (HB6.out.mono HBR.out.size)).trans (hbw7.mono (by have := HBR.out.size; omega))))
      have HO1 := Lib.hid (hO1.below hbw7)
      have HBS7 := Lib.hid ((HBS5.out.below hB6 hgl5).below hbw7 (by omega))
      have HCE7 := Lib.hid ((hbw7.cell (p := ⟨g5, p.length, none⟩) (by show g5 < w6.heap.size; omega)).trans ((hB6.cell (p := ⟨g5, p.length, none⟩) hgl5).trans HCE5.out))
      have HK6 := Lib.hid hk6
      have HB7 := Lib.hid (HB6.out.trans (hbw7.mono (by omega)))
      obtain ⟨Aa, ca, rfl⟩ := hO1.form
      clear ha1 hb1 hs1 hp1 hO1 hB6 hk6 hbw7 HPA
      go_wp2_with fail
      refine HRP7.out.mono ?_
      rintro e w8 ⟨vb, fs', n', x', rfl, hp2, hO2, hB8⟩
      rw [HP1.out] at hp2
      injection hp2 with e1 hp2
      injection hp2 with e2 e3
      subst e1 e2 e3
      rw [← HA1.out, ← HB1'.out, ← HS1.out]
      obtain ⟨Ab, cb, rfl⟩ := hO2.form
      have hz8 := hB8.size
      simp only [World.size_alloc] at hz8
      have hk8 := (HK6.out.below hB8 (by simp)).alloc (.cells #[str a1, str b1, .int .i64 s1, .slice Ab fs.length cb] 29)
      have q0 := hk8.at (o := 0) rfl; have q1 := hk8.at (o := 1) rfl; have q2 := hk8.at (o := 2) rfl; have q3 := hk8.at (o := 3) rfl
      have hbw9 : Below w8.heap.size w8 (w8.alloc (.cells #[str a1, str b1, .int .i64 s1, .slice Ab fs.length cb] 29)) := (Below.refl _ _).alloc (Nat.le_refl _) _
      have HO1b := Lib.hid ((HO1.out.below hB8).below hbw9)
      have HO2b := Lib.hid (hO2.below hbw9)
      have HBS9 := Lib.hid ((HBS7.out.below hB8 (by simp; omega)).below hbw9 (by omega))
      have HCE9 := Lib.hid ((hbw9.cell (p := ⟨g5, p.length, none⟩) (by show g5 < w8.heap.size; omega)).trans ((hB8.cell (p := ⟨g5, p.length, none⟩) (by show g5 < (w6.alloc _).heap.size; simp; omega)).trans HCE7.out))
      have HB9 := Lib.hid ((HB7.out.trans (hB8.mono (by simp; omega))).trans (hbw9.mono (by omega)))
      have HSM := Lib.hid (sameHd_any a1 b1 s1 _ _ _ _ fs _ HO1b.out HO2b.out (parseL_few _ _ _ _ _ HP1.out))
      have hlw9 : w6.heap.size < w8.heap.size := by omega
      clear hk8 hO2 hB8 hbw9 HRP7
      go_wp2_with fail
      refine HSM.out.mono ?_
      rintro e w10 ⟨rfl, hB10⟩
      have hg10 : g5 < (w8.alloc (.cells #[str a1, str b1, .int .i64 s1, .slice Ab fs.length cb] 29)).heap.size := by simp; omega
      have hbs10 := HBS9.out.below hB10 hg10
      have hce10 := (hB10.cell (p := ⟨g5, p.length, none⟩) hg10).trans HCE9.out
      have HB10 := Lib.hid (HB9.out.trans (hB10.mono (by simp; omega)))
      have hS1 : Sl w10 (g5 + 1) (.slice (some ⟨g5, 0, none⟩) p.length c5) p := ⟨_, c5, rfl, (fun h => by cases h), by omega, hm5, fun _ => ⟨g5, 0, rfl, by omega, hbs10⟩⟩
      have HSQ := Lib.hid (same_true _ _ _ _ p w10 hS1 (HS0.out.below (HBR.out.trans (HB10.out.mono HBR.out.size)) (Nat.le_refl _)))
      have hsl3 := hsl2 w10
      rw [show ((p.length + 1 : Nat) : Int) = (p.length : Int) + 1 by omega] at hsl3
      have hw1 : IntKind.i64.wrap ((p.length : Int) + 1) = (p.length : Int) + 1 := IntWalk.i64_in _ (by omega)
      clear hbs10 hS1 hsl1 hsl2 HSM hB10 q0 q1 q2 q3
      go_wp2_with fail
      refine HSQ.out.mono ?_
      rintro e w11 ⟨rfl, rfl⟩
      go_wp2_with fail
      go_roundw
      case rel => exact ⟨k + 1, by omega, by go_num, HBW.out.trans (HB10.out.mono (by omega))⟩
      case measure => simp [intOf]; omega
    · obtain rfl : k = 2 := by omega
      have HFIN := Lib.hid (HLOW2.out.trans (HBR.out.mono hz0))
      go_wp2_with fail
      go_ret
      exact ⟨rfl, HFIN.out⟩
end Go.Proofs.YtajclihnoedecaaGreatDoor
