/- proof.Dummy. (By mkpdd.py.) proof: the reference's Dummy. (By mkpdf.py.) -/
import Derived.Test.YteadncmhcbdicaaDoorPdB
import Derived.Test.YteadncmhcbdicaaDoorSlH
import Derived.Test.YteadncmhcbdicaaDoorPdRef
import Derived.Test.YteadncmhcbdicaaDoorReg
import Derived.Deep.RegionHeld3
import Derived.StillTailTactics
set_option maxRecDepth 100000
namespace Go.Proofs.YteadncmhcbdicaaDoor
open Go.RowKit
attribute [local go_sem] Oper.semAt_some
/-- What stands behind the words that are hashed for a dummy. -/
def dumE (t u : List UInt8) : List UInt8 := 32 :: (t ++ 32 :: u)
def dumI (n : Int) : Int := if n < 1 ∨ 64 < n then 1 else n
def dumS : List UInt8 := [115, 97, 108, 116]
def dumT : List UInt8 := [115, 116, 111, 114, 101, 100]
def dumV : List UInt8 := [115, 101, 114, 118, 101, 114]
def dumH : List UInt8 := [104, 97, 49]
/-- A dummy in memory: its salt, its rounds, its three hashes. -/
structure DumR (w : World) (t u : List UInt8) (n : Int) (r : Value) : Prop where
  out : ∃ v0 v2 v3 v4, r = .agg #[v0, .int .i64 (dumI n), v2, v3, v4] ∧ Sl w w.heap.size v0 ((sumL (dumS ++ dumE t u)).take 16) ∧ Sl w w.heap.size v2 (sumL (dumT ++ dumE t u)) ∧ Sl w w.heap.size v3 (sumL (dumV ++ dumE t u)) ∧ Sl w w.heap.size v4 (sumL (dumH ++ dumE t u))
theorem DumR.fwd {w w' : World} {t u : List UInt8} {n : Int} {r : Value} (h : DumR w t u n r) (hb : Below w.heap.size w w') : DumR w' t u n r := by
  obtain ⟨v0, v2, v3, v4, e, h0, h2, h3, h4⟩ := h.out
  exact ⟨⟨v0, v2, v3, v4, e, h0.fwd hb, h2.fwd hb, h3.fwd hb, h4.fwd hb⟩⟩
theorem slice_nnA (A : Option Addr) (L c n : Nat) (h : n ≤ c) (w : World) : (Instr.slice 26 (.slice A L c) none (some (.int .i64 (n : Int))) (some (.int .i64 (n : Int)))).run Tryd.prog w = .ok (.slice A n n) w := by
  rw [run_slice_hm w 26 A L c Tryd.underlying26 .i64 .i64 n n (by omega) (by omega) (by omega)]
  by_cases h0 : n = 0 <;> simp [sliced, go_sem, h0]
theorem OwnB.sets {w : World} {base b : Nat} {v : Value} {l : List UInt8} (h : OwnB w base v l) (hb : b < base) (o : Nat) (u : Value) : OwnB (w.setCell ⟨b, o, none⟩ u) base v l :=
  World.ownsRow.kept h (grown_set w ⟨b, o, none⟩ u) (.inr (fun e => by have := (h.lt b e).1; omega))
/-- The first k bytes, with no room behind them. -/
theorem Sl.cut {w : World} {B : Nat} {A : Option Addr} {n c : Nat} {l : List UInt8} (h : Sl w B (.slice A n c) l) (k : Nat) (hk : k ≤ n) (hk0 : 0 < k) : Sl w B (.slice A k k) (l.take k) := by
  obtain ⟨A', c', e, h0, h1, h2, h3⟩ := h
  injection e with e1 e2 e3
  subst e1 e2 e3
  have e : (l.take k).length = k := by rw [List.length_take]; omega
  obtain ⟨b, o, rfl, hlt, hbs⟩ := h3 (by omega)
  exact ⟨_, k, by rw [e], (fun h => by cases h), by omega, by omega, fun _ => ⟨b, o, rfl, hlt, hbs.take k⟩⟩
theorem info_sec : (Tryd.prog.info? 29).map (·.size) = some 5 := by kernel_rfl
/-- A text's bytes in a row of one, and their hash. -/
theorem sum_tx (f : List UInt8) (W : World) (hf : f.length ≤ 1000) (hT : TabA W) : ∃ A c W1, (convert 9 26 (str f)).run Tryd.prog W = .ok (.slice A f.length c) W1 ∧
    Calls Tryd.prog 17 #[.slice (some ⟨W1.heap.size, 0, none⟩) 1 1] (W1.alloc (.cells #[.slice A f.length c] 26)) fun e w' => ∃ v', e = .returned v' ∧ OwnB w' W.heap.size v' (sumL f) ∧ Below W.heap.size W w' := by
  obtain ⟨vc, Wc, hcv, hbc, hsl⟩ := conv_tx f W (by omega)
  obtain ⟨Ac, cc, rfl, -⟩ := id hsl
  have hb2 : Below Wc.heap.size Wc (Wc.alloc (.cells #[.slice Ac f.length cc] 26)) := (Below.refl _ _).alloc (Nat.le_refl _) _
  have hB2 := hbc.trans (hb2.mono hbc.size)
  have hS2 : Sls (Wc.alloc (.cells #[.slice Ac f.length cc] 26)) (Wc.alloc (.cells #[.slice Ac f.length cc] 26)).heap.size (.slice (some ⟨Wc.heap.size, 0, none⟩) 1 1) [f] := by rw [World.size_alloc]; exact Sls.one Wc f _ _ hsl
  refine ⟨Ac, cc, Wc, hcv, (shaSum_any _ [f] _ hS2 (fun l hl => by rw [List.mem_singleton] at hl; rw [hl]; omega) (hT.below hB2 (tab_lt hT))).mono ?_⟩
  rintro e w' ⟨v', he, hO, hb⟩
  rw [List.flatten_cons, List.flatten_nil, List.append_nil] at hO
  exact ⟨v', he, hO.lower hB2.size, hB2.trans (hb.mono hB2.size)⟩
set_option maxHeartbeats 4000000 in
theorem dummy_any (bx : Nat) (t u : List UInt8) (n : Int) (w : World) (ht : t.length ≤ 100) (hu : u.length ≤ 100) (hT : TabA w) :
    Calls Tryd.prog 7 #[.pointer (some ⟨bx, 0, none⟩), str t, str u, .int .i64 n] w fun e w' => ∃ r, e = .returned r ∧ DumR w' t u n r ∧ Below w.heap.size w w' := by
  have hG := tab_lt hT
  have HT := Lib.hid hT
  obtain ⟨W0, hW0⟩ : ∃ W, W = w.alloc (.cells #[.slice none 0 0, .int .i64 0, .slice none 0 0, .slice none 0 0, .slice none 0 0] 29) := ⟨_, rfl⟩
  have HB0 := Lib.hid (show Below w.heap.size w W0 from by rw [hW0]; exact (Below.refl _ _).alloc (Nat.le_refl _) _)
  have HK0 := Lib.hid (show Blk W0 w.heap.size [.slice none 0 0, .int .i64 0, .slice none 0 0, .slice none 0 0, .slice none 0 0] from by rw [hW0]; exact Blk.new w _ _)
  have HZ0 := Lib.hid (show W0.heap.size = w.heap.size + 1 from by rw [hW0]; simp)
  obtain ⟨E0, q0⟩ : ∃ a, a = [32] ++ t := ⟨_, rfl⟩
  obtain ⟨E1, q1⟩ : ∃ a, a = E0 ++ [32] := ⟨_, rfl⟩
  obtain ⟨E2, q2⟩ : ∃ a, a = E1 ++ u := ⟨_, rfl⟩
  have l0 : E0.length ≤ 101 := by rw [q0]; simp; omega
  have l1 : E1.length ≤ 102 := by rw [q1]; simp; omega
  have l2 : E2.length ≤ 202 := by rw [q2]; simp; omega
  have HE := Lib.hid (show dumE t u = E2 from by rw [q2, q1, q0]; unfold dumE; simp)
  have d0 : ByteArray.mk #[32] ++ ByteArray.mk t.toArray = ByteArray.mk E0.toArray := by rw [q0]; exact str_app [32] t
  have d1 : ByteArray.mk E0.toArray ++ ByteArray.mk #[32] = ByteArray.mk E1.toArray := by rw [q1]; exact str_app E0 [32]
  have d2 : ByteArray.mk E1.toArray ++ ByteArray.mk u.toArray = ByteArray.mk E2.toArray := by rw [q2]; exact str_app E1 u
  have g0 : 1 + (t.length : Int) ≤ 9223372036854775807 := by omega
  have g1 : (E0.length : Int) + 1 ≤ 9223372036854775807 := by omega
  have g2 : (E1.length : Int) + (u.length : Int) ≤ 9223372036854775807 := by omega
  obtain ⟨F0, p0⟩ : ∃ a, a = [115, 97, 108, 116] ++ E2 := ⟨_, rfl⟩
  have f0 : ByteArray.mk #[115, 97, 108, 116] ++ ByteArray.mk E2.toArray = ByteArray.mk F0.toArray := by rw [p0]; exact str_app [115, 97, 108, 116] E2
  have m0 : 4 + (E2.length : Int) ≤ 9223372036854775807 := by omega
  have HF0 := Lib.hid (show F0.length ≤ 300 from by rw [p0]; simp; omega)
  have HP0 := Lib.hid p0
  obtain ⟨F1, p1⟩ : ∃ a, a = [115, 116, 111, 114, 101, 100] ++ E2 := ⟨_, rfl⟩
  have f1 : ByteArray.mk #[115, 116, 111, 114, 101, 100] ++ ByteArray.mk E2.toArray = ByteArray.mk F1.toArray := by rw [p1]; exact str_app [115, 116, 111, 114, 101, 100] E2
  have m1 : 6 + (E2.length : Int) ≤ 9223372036854775807 := by omega
  have HF1 := Lib.hid (show F1.length ≤ 300 from by rw [p1]; simp; omega)
  have HP1 := Lib.hid p1
  obtain ⟨F2, p2⟩ : ∃ a, a = [115, 101, 114, 118, 101, 114] ++ E2 := ⟨_, rfl⟩
  have f2 : ByteArray.mk #[115, 101, 114, 118, 101, 114] ++ ByteArray.mk E2.toArray = ByteArray.mk F2.toArray := by rw [p2]; exact str_app [115, 101, 114, 118, 101, 114] E2
  have m2 : 6 + (E2.length : Int) ≤ 9223372036854775807 := by omega
  have HF2 := Lib.hid (show F2.length ≤ 300 from by rw [p2]; simp; omega)
  have HP2 := Lib.hid p2
  obtain ⟨F3, p3⟩ : ∃ a, a = [104, 97, 49] ++ E2 := ⟨_, rfl⟩
  have f3 : ByteArray.mk #[104, 97, 49] ++ ByteArray.mk E2.toArray = ByteArray.mk F3.toArray := by rw [p3]; exact str_app [104, 97, 49] E2
  have m3 : 3 + (E2.length : Int) ≤ 9223372036854775807 := by omega
  have HF3 := Lib.hid (show F3.length ≤ 300 from by rw [p3]; simp; omega)
  have HP3 := Lib.hid p3
  clear q0 q1 q2 l0 l1 l2 p0 p1 p2 p3 hT
  obtain ⟨Ac0, cc0, X0, hcv0, hcs0⟩ := sum_tx F0 W0 (by have := HF0.out; omega) (HT.out.below HB0.out hG)
  rw [hW0] at hcv0
  have HC0 := Lib.hid hcs0
  clear hcs0
  obtain ⟨M, hM⟩ : ∃ M, M = dumI n := ⟨_, rfl⟩
  have HDI := Lib.hid hM
  have k8 := HK0.out.at (o := 0) rfl
  by_cases c1 : n < 1
  · have HD := Lib.hid (show M = 1 from by rw [hM]; exact if_pos (.inl c1))
    clear hM
    go_enter Tryd.func7, Tryd.ntmps7
    go_wp2_with fail
    refine HC0.out.mono ?_
    rintro e w1 ⟨v1, rfl, hO1, hb1⟩
    have HO1 := Lib.hid (hO1.lower (base' := w.heap.size + 1) (by have := HZ0.out; omega))
    have hl1 := sumL_length F0
    obtain ⟨S0, hS0⟩ : ∃ s, s = sumL F0 := ⟨_, rfl⟩
    rw [← hS0] at HO1 hO1 hl1
    have HS0 := Lib.hid hS0
    have HB1 := Lib.hid (HB0.out.trans (hb1.mono HB0.out.size))
    have HK1 := Lib.hid (HK0.out.below hb1 HK0.out.lt)
    have HZ1 := Lib.hid (show w.heap.size + 1 ≤ w1.heap.size from by have := HZ0.out; have := hb1.size; omega)
    obtain ⟨A1, c1, rfl, -, hz1, hz2, -⟩ := hO1.sl
    rw [hl1] at hz1 HO1 ⊢
    obtain ⟨Ac1, cc1, X1, hcv1, hcs1⟩ := sum_tx F1 w1 (by have := HF1.out; omega) (HT.out.below HB1.out hG)
    have HC1 := Lib.hid hcs1
    clear hO1 hb1 hS0 hcs1 hcv0 HC0 HK0 HB0 k8
    go_wp2_with fail
    refine HC1.out.mono ?_
    rintro e w2 ⟨v2, rfl, hO2, hb2⟩
    have HB2 := Lib.hid (HB1.out.trans (hb2.mono HB1.out.size))
    have HK2 := Lib.hid (HK1.out.below hb2 HK1.out.lt)
    have HZ2 := Lib.hid (show w.heap.size + 1 ≤ w2.heap.size from by have := HZ1.out; have := hb2.size; omega)
    have HO1b := Lib.hid (HO1.out.below hb2)
    have HO2 := Lib.hid (hO2.lower (base' := w.heap.size + 1) (HZ1.out))
    obtain ⟨A2, c2, rfl, -⟩ := hO2.sl
    obtain ⟨Ac2, cc2, X2, hcv2, hcs2⟩ := sum_tx F2 w2 (by have := HF2.out; omega) (HT.out.below HB2.out hG)
    have HC2 := Lib.hid hcs2
    clear hO2 hb2 hcs2 hcv1 HC1 HK1 HB1 HO1
    go_wp2_with fail
    refine HC2.out.mono ?_
    rintro e w3 ⟨v3, rfl, hO3, hb3⟩
    have HB3 := Lib.hid (HB2.out.trans (hb3.mono HB2.out.size))
    have HK3 := Lib.hid (HK2.out.below hb3 HK2.out.lt)
    have HZ3 := Lib.hid (show w.heap.size + 1 ≤ w3.heap.size from by have := HZ2.out; have := hb3.size; omega)
    have HO1c := Lib.hid (HO1b.out.below hb3)
    have HO2b := Lib.hid (HO2.out.below hb3)
    have HO3 := Lib.hid (hO3.lower (base' := w.heap.size + 1) (HZ2.out))
    obtain ⟨A3, c3, rfl, -⟩ := hO3.sl
    obtain ⟨Ac3, cc3, X3, hcv3, hcs3⟩ := sum_tx F3 w3 (by have := HF3.out; omega) (HT.out.below HB3.out hG)
    have HC3 := Lib.hid hcs3
    clear hO3 hb3 hcs3 hcv2 HC2 HK2 HB2 HO1b HO2
    go_wp2_with fail
    refine HC3.out.mono ?_
    rintro e w4 ⟨v4, rfl, hO4, hb4⟩
    have HB4 := Lib.hid (HB3.out.trans (hb4.mono HB3.out.size))
    have HK4 := Lib.hid (HK3.out.below hb4 HK3.out.lt)
    have HO1d := Lib.hid (HO1c.out.below hb4)
    have HO2c := Lib.hid (HO2b.out.below hb4)
    have HO3b := Lib.hid (HO3.out.below hb4)
    have HO4 := Lib.hid (hO4.lower (base' := w.heap.size + 1) (HZ3.out))
    obtain ⟨A4, c4, rfl, -⟩ := hO4.sl
    clear hO4 hb4 hcv3 HC3 HK3 HB3 HO1c HO2b HO3
    have hsl := fun W => slice_nnA A1 32 c1 16 (by omega) W
    obtain ⟨B5, hB5⟩ : ∃ b, b = w.heap.size := ⟨_, rfl⟩
    have k0 := HK4.out.at (o := 0) rfl
    have k1 := HK4.out.at (o := 1) rfl
    have k2 := HK4.out.at (o := 2) rfl
    have k3 := HK4.out.at (o := 3) rfl
    have k4 := HK4.out.at (o := 4) rfl
    have r0 := HK4.out.free 0
    have r1 := HK4.out.free 1
    have r2 := HK4.out.free 2
    have r3 := HK4.out.free 3
    have r4 := HK4.out.free 4
    go_wp2_with fail
    clear k0 k1 k2 k3 k4 r0 r1 r2 r3 r4 hsl
    have hlow := ((((HB4.out.setCell (p := ⟨w.heap.size, 0, none⟩) (Nat.le_refl _) (.slice A1 16 16)).setCell (p := ⟨w.heap.size, 1, none⟩) (Nat.le_refl _) (.int .i64 1)).setCell (p := ⟨w.heap.size, 2, none⟩) (Nat.le_refl _) (.slice A2 (sumL F1).length c2)).setCell (p := ⟨w.heap.size, 3, none⟩) (Nat.le_refl _) (.slice A3 (sumL F2).length c3)).setCell (p := ⟨w.heap.size, 4, none⟩) (Nat.le_refl _) (.slice A4 (sumL F3).length c4)
    obtain ⟨tt, htt⟩ := ((((HK4.out.set 0 (.slice A1 16 16)).set 1 (.int .i64 1)).set 2 (.slice A2 (sumL F1).length c2)).set 3 (.slice A3 (sumL F2).length c3)).set 4 (.slice A4 (sumL F3).length c4)
    refine bodyPost_ret (v := .agg #[.slice A1 16 16, .int .i64 1, .slice A2 (sumL F1).length c2, .slice A3 (sumL F2).length c3, .slice A4 (sumL F3).length c4]) ?_ rfl ?_
    · exact results_cell_row rfl _ _ w.heap.size tt _ _ _ rfl htt Tryd.underlying29 rfl info_sec
    · have h5 : ∀ {v : Value} {l : List UInt8}, OwnB w4 (w.heap.size + 1) v l → Sl (((((w4.setCell ⟨w.heap.size, 0, none⟩ (.slice A1 16 16)).setCell ⟨w.heap.size, 1, none⟩ (.int .i64 1)).setCell ⟨w.heap.size, 2, none⟩ (.slice A2 (sumL F1).length c2)).setCell ⟨w.heap.size, 3, none⟩ (.slice A3 (sumL F2).length c3)).setCell ⟨w.heap.size, 4, none⟩ (.slice A4 (sumL F3).length c4)) (((((w4.setCell ⟨w.heap.size, 0, none⟩ (.slice A1 16 16)).setCell ⟨w.heap.size, 1, none⟩ (.int .i64 1)).setCell ⟨w.heap.size, 2, none⟩ (.slice A2 (sumL F1).length c2)).setCell ⟨w.heap.size, 3, none⟩ (.slice A3 (sumL F2).length c3)).setCell ⟨w.heap.size, 4, none⟩ (.slice A4 (sumL F3).length c4)).heap.size v l := fun h => (((((h.sets (Nat.lt_succ_self _) 0 _).sets (Nat.lt_succ_self _) 1 _).sets (Nat.lt_succ_self _) 2 _).sets (Nat.lt_succ_self _) 3 _).sets (Nat.lt_succ_self _) 4 _).sl
      refine ⟨_, rfl, ⟨⟨_, _, _, _, by rw [← HDI.out, HD.out], ?_, ?_, ?_, ?_⟩⟩, hlow⟩
      · rw [HE.out, show dumS ++ E2 = F0 from HP0.out.symm, ← HS0.out]; exact (h5 HO1d.out).cut 16 (by omega) (by omega)
      · rw [HE.out, show dumT ++ E2 = F1 from HP1.out.symm]; exact h5 HO2c.out
      · rw [HE.out, show dumV ++ E2 = F2 from HP2.out.symm]; exact h5 HO3b.out
      · rw [HE.out, show dumH ++ E2 = F3 from HP3.out.symm]; exact h5 HO4.out
  · by_cases c2 : 64 < n
    · have HD := Lib.hid (show M = 1 from by rw [hM]; exact if_pos (.inr c2))
      clear hM
      go_enter Tryd.func7, Tryd.ntmps7
      go_wp2_with fail
      refine HC0.out.mono ?_
      rintro e w1 ⟨v1, rfl, hO1, hb1⟩
      have HO1 := Lib.hid (hO1.lower (base' := w.heap.size + 1) (by have := HZ0.out; omega))
      have hl1 := sumL_length F0
      obtain ⟨S0, hS0⟩ : ∃ s, s = sumL F0 := ⟨_, rfl⟩
      rw [← hS0] at HO1 hO1 hl1
      have HS0 := Lib.hid hS0
      have HB1 := Lib.hid (HB0.out.trans (hb1.mono HB0.out.size))
      have HK1 := Lib.hid (HK0.out.below hb1 HK0.out.lt)
      have HZ1 := Lib.hid (show w.heap.size + 1 ≤ w1.heap.size from by have := HZ0.out; have := hb1.size; omega)
      obtain ⟨A1, c1, rfl, -, hz1, hz2, -⟩ := hO1.sl
      rw [hl1] at hz1 HO1 ⊢
      obtain ⟨Ac1, cc1, X1, hcv1, hcs1⟩ := sum_tx F1 w1 (by have := HF1.out; omega) (HT.out.below HB1.out hG)
      have HC1 := Lib.hid hcs1
      clear hO1 hb1 hS0 hcs1 hcv0 HC0 HK0 HB0 k8
      go_wp2_with fail
      refine HC1.out.mono ?_
      rintro e w2 ⟨v2, rfl, hO2, hb2⟩
      have HB2 := Lib.hid (HB1.out.trans (hb2.mono HB1.out.size))
      have HK2 := Lib.hid (HK1.out.below hb2 HK1.out.lt)
      have HZ2 := Lib.hid (show w.heap.size + 1 ≤ w2.heap.size from by have := HZ1.out; have := hb2.size; omega)
      have HO1b := Lib.hid (HO1.out.below hb2)
      have HO2 := Lib.hid (hO2.lower (base' := w.heap.size + 1) (HZ1.out))
      obtain ⟨A2, c2, rfl, -⟩ := hO2.sl
      obtain ⟨Ac2, cc2, X2, hcv2, hcs2⟩ := sum_tx F2 w2 (by have := HF2.out; omega) (HT.out.below HB2.out hG)
      have HC2 := Lib.hid hcs2
      clear hO2 hb2 hcs2 hcv1 HC1 HK1 HB1 HO1
      go_wp2_with fail
      refine HC2.out.mono ?_
      rintro e w3 ⟨v3, rfl, hO3, hb3⟩
      have HB3 := Lib.hid (HB2.out.trans (hb3.mono HB2.out.size))
      have HK3 := Lib.hid (HK2.out.below hb3 HK2.out.lt)
      have HZ3 := Lib.hid (show w.heap.size + 1 ≤ w3.heap.size from by have := HZ2.out; have := hb3.size; omega)
      have HO1c := Lib.hid (HO1b.out.below hb3)
      have HO2b := Lib.hid (HO2.out.below hb3)
      have HO3 := Lib.hid (hO3.lower (base' := w.heap.size + 1) (HZ2.out))
      obtain ⟨A3, c3, rfl, -⟩ := hO3.sl
      obtain ⟨Ac3, cc3, X3, hcv3, hcs3⟩ := sum_tx F3 w3 (by have := HF3.out; omega) (HT.out.below HB3.out hG)
      have HC3 := Lib.hid hcs3
      clear hO3 hb3 hcs3 hcv2 HC2 HK2 HB2 HO1b HO2
      go_wp2_with fail
      refine HC3.out.mono ?_
      rintro e w4 ⟨v4, rfl, hO4, hb4⟩
      have HB4 := Lib.hid (HB3.out.trans (hb4.mono HB3.out.size))
      have HK4 := Lib.hid (HK3.out.below hb4 HK3.out.lt)
      have HO1d := Lib.hid (HO1c.out.below hb4)
      have HO2c := Lib.hid (HO2b.out.below hb4)
      have HO3b := Lib.hid (HO3.out.below hb4)
      have HO4 := Lib.hid (hO4.lower (base' := w.heap.size + 1) (HZ3.out))
      obtain ⟨A4, c4, rfl, -⟩ := hO4.sl
      clear hO4 hb4 hcv3 HC3 HK3 HB3 HO1c HO2b HO3
      have hsl := fun W => slice_nnA A1 32 c1 16 (by omega) W
      obtain ⟨B5, hB5⟩ : ∃ b, b = w.heap.size := ⟨_, rfl⟩
      have k0 := HK4.out.at (o := 0) rfl
      have k1 := HK4.out.at (o := 1) rfl
      have k2 := HK4.out.at (o := 2) rfl
      have k3 := HK4.out.at (o := 3) rfl
      have k4 := HK4.out.at (o := 4) rfl
      have r0 := HK4.out.free 0
      have r1 := HK4.out.free 1
      have r2 := HK4.out.free 2
      have r3 := HK4.out.free 3
      have r4 := HK4.out.free 4
      go_wp2_with fail
      clear k0 k1 k2 k3 k4 r0 r1 r2 r3 r4 hsl
      have hlow := ((((HB4.out.setCell (p := ⟨w.heap.size, 0, none⟩) (Nat.le_refl _) (.slice A1 16 16)).setCell (p := ⟨w.heap.size, 1, none⟩) (Nat.le_refl _) (.int .i64 1)).setCell (p := ⟨w.heap.size, 2, none⟩) (Nat.le_refl _) (.slice A2 (sumL F1).length c2)).setCell (p := ⟨w.heap.size, 3, none⟩) (Nat.le_refl _) (.slice A3 (sumL F2).length c3)).setCell (p := ⟨w.heap.size, 4, none⟩) (Nat.le_refl _) (.slice A4 (sumL F3).length c4)
      obtain ⟨tt, htt⟩ := ((((HK4.out.set 0 (.slice A1 16 16)).set 1 (.int .i64 1)).set 2 (.slice A2 (sumL F1).length c2)).set 3 (.slice A3 (sumL F2).length c3)).set 4 (.slice A4 (sumL F3).length c4)
      refine bodyPost_ret (v := .agg #[.slice A1 16 16, .int .i64 1, .slice A2 (sumL F1).length c2, .slice A3 (sumL F2).length c3, .slice A4 (sumL F3).length c4]) ?_ rfl ?_
      · exact results_cell_row rfl _ _ w.heap.size tt _ _ _ rfl htt Tryd.underlying29 rfl info_sec
      · have h5 : ∀ {v : Value} {l : List UInt8}, OwnB w4 (w.heap.size + 1) v l → Sl (((((w4.setCell ⟨w.heap.size, 0, none⟩ (.slice A1 16 16)).setCell ⟨w.heap.size, 1, none⟩ (.int .i64 1)).setCell ⟨w.heap.size, 2, none⟩ (.slice A2 (sumL F1).length c2)).setCell ⟨w.heap.size, 3, none⟩ (.slice A3 (sumL F2).length c3)).setCell ⟨w.heap.size, 4, none⟩ (.slice A4 (sumL F3).length c4)) (((((w4.setCell ⟨w.heap.size, 0, none⟩ (.slice A1 16 16)).setCell ⟨w.heap.size, 1, none⟩ (.int .i64 1)).setCell ⟨w.heap.size, 2, none⟩ (.slice A2 (sumL F1).length c2)).setCell ⟨w.heap.size, 3, none⟩ (.slice A3 (sumL F2).length c3)).setCell ⟨w.heap.size, 4, none⟩ (.slice A4 (sumL F3).length c4)).heap.size v l := fun h => (((((h.sets (Nat.lt_succ_self _) 0 _).sets (Nat.lt_succ_self _) 1 _).sets (Nat.lt_succ_self _) 2 _).sets (Nat.lt_succ_self _) 3 _).sets (Nat.lt_succ_self _) 4 _).sl
        refine ⟨_, rfl, ⟨⟨_, _, _, _, by rw [← HDI.out, HD.out], ?_, ?_, ?_, ?_⟩⟩, hlow⟩
        · rw [HE.out, show dumS ++ E2 = F0 from HP0.out.symm, ← HS0.out]; exact (h5 HO1d.out).cut 16 (by omega) (by omega)
        · rw [HE.out, show dumT ++ E2 = F1 from HP1.out.symm]; exact h5 HO2c.out
        · rw [HE.out, show dumV ++ E2 = F2 from HP2.out.symm]; exact h5 HO3b.out
        · rw [HE.out, show dumH ++ E2 = F3 from HP3.out.symm]; exact h5 HO4.out
    · have HD := Lib.hid (show M = n from by rw [hM]; exact if_neg (by omega))
      clear hM
      go_enter Tryd.func7, Tryd.ntmps7
      go_wp2_with fail
      refine HC0.out.mono ?_
      rintro e w1 ⟨v1, rfl, hO1, hb1⟩
      have HO1 := Lib.hid (hO1.lower (base' := w.heap.size + 1) (by have := HZ0.out; omega))
      have hl1 := sumL_length F0
      obtain ⟨S0, hS0⟩ : ∃ s, s = sumL F0 := ⟨_, rfl⟩
      rw [← hS0] at HO1 hO1 hl1
      have HS0 := Lib.hid hS0
      have HB1 := Lib.hid (HB0.out.trans (hb1.mono HB0.out.size))
      have HK1 := Lib.hid (HK0.out.below hb1 HK0.out.lt)
      have HZ1 := Lib.hid (show w.heap.size + 1 ≤ w1.heap.size from by have := HZ0.out; have := hb1.size; omega)
      obtain ⟨A1, c1, rfl, -, hz1, hz2, -⟩ := hO1.sl
      rw [hl1] at hz1 HO1 ⊢
      obtain ⟨Ac1, cc1, X1, hcv1, hcs1⟩ := sum_tx F1 w1 (by have := HF1.out; omega) (HT.out.below HB1.out hG)
      have HC1 := Lib.hid hcs1
      clear hO1 hb1 hS0 hcs1 hcv0 HC0 HK0 HB0 k8
      go_wp2_with fail
      refine HC1.out.mono ?_
      rintro e w2 ⟨v2, rfl, hO2, hb2⟩
      have HB2 := Lib.hid (HB1.out.trans (hb2.mono HB1.out.size))
      have HK2 := Lib.hid (HK1.out.below hb2 HK1.out.lt)
      have HZ2 := Lib.hid (show w.heap.size + 1 ≤ w2.heap.size from by have := HZ1.out; have := hb2.size; omega)
      have HO1b := Lib.hid (HO1.out.below hb2)
      have HO2 := Lib.hid (hO2.lower (base' := w.heap.size + 1) (HZ1.out))
      obtain ⟨A2, c2, rfl, -⟩ := hO2.sl
      obtain ⟨Ac2, cc2, X2, hcv2, hcs2⟩ := sum_tx F2 w2 (by have := HF2.out; omega) (HT.out.below HB2.out hG)
      have HC2 := Lib.hid hcs2
      clear hO2 hb2 hcs2 hcv1 HC1 HK1 HB1 HO1
      go_wp2_with fail
      refine HC2.out.mono ?_
      rintro e w3 ⟨v3, rfl, hO3, hb3⟩
      have HB3 := Lib.hid (HB2.out.trans (hb3.mono HB2.out.size))
      have HK3 := Lib.hid (HK2.out.below hb3 HK2.out.lt)
      have HZ3 := Lib.hid (show w.heap.size + 1 ≤ w3.heap.size from by have := HZ2.out; have := hb3.size; omega)
      have HO1c := Lib.hid (HO1b.out.below hb3)
      have HO2b := Lib.hid (HO2.out.below hb3)
      have HO3 := Lib.hid (hO3.lower (base' := w.heap.size + 1) (HZ2.out))
      obtain ⟨A3, c3, rfl, -⟩ := hO3.sl
      obtain ⟨Ac3, cc3, X3, hcv3, hcs3⟩ := sum_tx F3 w3 (by have := HF3.out; omega) (HT.out.below HB3.out hG)
      have HC3 := Lib.hid hcs3
      clear hO3 hb3 hcs3 hcv2 HC2 HK2 HB2 HO1b HO2
      go_wp2_with fail
      refine HC3.out.mono ?_
      rintro e w4 ⟨v4, rfl, hO4, hb4⟩
      have HB4 := Lib.hid (HB3.out.trans (hb4.mono HB3.out.size))
      have HK4 := Lib.hid (HK3.out.below hb4 HK3.out.lt)
      have HO1d := Lib.hid (HO1c.out.below hb4)
      have HO2c := Lib.hid (HO2b.out.below hb4)
      have HO3b := Lib.hid (HO3.out.below hb4)
      have HO4 := Lib.hid (hO4.lower (base' := w.heap.size + 1) (HZ3.out))
      obtain ⟨A4, c4, rfl, -⟩ := hO4.sl
      clear hO4 hb4 hcv3 HC3 HK3 HB3 HO1c HO2b HO3
      have hsl := fun W => slice_nnA A1 32 c1 16 (by omega) W
      obtain ⟨B5, hB5⟩ : ∃ b, b = w.heap.size := ⟨_, rfl⟩
      have k0 := HK4.out.at (o := 0) rfl
      have k1 := HK4.out.at (o := 1) rfl
      have k2 := HK4.out.at (o := 2) rfl
      have k3 := HK4.out.at (o := 3) rfl
      have k4 := HK4.out.at (o := 4) rfl
      have r0 := HK4.out.free 0
      have r1 := HK4.out.free 1
      have r2 := HK4.out.free 2
      have r3 := HK4.out.free 3
      have r4 := HK4.out.free 4
      go_wp2_with fail
      clear k0 k1 k2 k3 k4 r0 r1 r2 r3 r4 hsl
      have hlow := ((((HB4.out.setCell (p := ⟨w.heap.size, 0, none⟩) (Nat.le_refl _) (.slice A1 16 16)).setCell (p := ⟨w.heap.size, 1, none⟩) (Nat.le_refl _) (.int .i64 n)).setCell (p := ⟨w.heap.size, 2, none⟩) (Nat.le_refl _) (.slice A2 (sumL F1).length c2)).setCell (p := ⟨w.heap.size, 3, none⟩) (Nat.le_refl _) (.slice A3 (sumL F2).length c3)).setCell (p := ⟨w.heap.size, 4, none⟩) (Nat.le_refl _) (.slice A4 (sumL F3).length c4)
      obtain ⟨tt, htt⟩ := ((((HK4.out.set 0 (.slice A1 16 16)).set 1 (.int .i64 n)).set 2 (.slice A2 (sumL F1).length c2)).set 3 (.slice A3 (sumL F2).length c3)).set 4 (.slice A4 (sumL F3).length c4)
      refine bodyPost_ret (v := .agg #[.slice A1 16 16, .int .i64 n, .slice A2 (sumL F1).length c2, .slice A3 (sumL F2).length c3, .slice A4 (sumL F3).length c4]) ?_ rfl ?_
      · exact results_cell_row rfl _ _ w.heap.size tt _ _ _ rfl htt Tryd.underlying29 rfl info_sec
      · have h5 : ∀ {v : Value} {l : List UInt8}, OwnB w4 (w.heap.size + 1) v l → Sl (((((w4.setCell ⟨w.heap.size, 0, none⟩ (.slice A1 16 16)).setCell ⟨w.heap.size, 1, none⟩ (.int .i64 n)).setCell ⟨w.heap.size, 2, none⟩ (.slice A2 (sumL F1).length c2)).setCell ⟨w.heap.size, 3, none⟩ (.slice A3 (sumL F2).length c3)).setCell ⟨w.heap.size, 4, none⟩ (.slice A4 (sumL F3).length c4)) (((((w4.setCell ⟨w.heap.size, 0, none⟩ (.slice A1 16 16)).setCell ⟨w.heap.size, 1, none⟩ (.int .i64 n)).setCell ⟨w.heap.size, 2, none⟩ (.slice A2 (sumL F1).length c2)).setCell ⟨w.heap.size, 3, none⟩ (.slice A3 (sumL F2).length c3)).setCell ⟨w.heap.size, 4, none⟩ (.slice A4 (sumL F3).length c4)).heap.size v l := fun h => (((((h.sets (Nat.lt_succ_self _) 0 _).sets (Nat.lt_succ_self _) 1 _).sets (Nat.lt_succ_self _) 2 _).sets (Nat.lt_succ_self _) 3 _).sets (Nat.lt_succ_self _) 4 _).sl
        refine ⟨_, rfl, ⟨⟨_, _, _, _, by rw [← HDI.out, HD.out], ?_, ?_, ?_, ?_⟩⟩, hlow⟩
        · rw [HE.out, show dumS ++ E2 = F0 from HP0.out.symm, ← HS0.out]; exact (h5 HO1d.out).cut 16 (by omega) (by omega)
        · rw [HE.out, show dumT ++ E2 = F1 from HP1.out.symm]; exact h5 HO2c.out
        · rw [HE.out, show dumV ++ E2 = F2 from HP2.out.symm]; exact h5 HO3b.out
        · rw [HE.out, show dumH ++ E2 = F3 from HP3.out.symm]; exact h5 HO4.out
end Go.Proofs.YteadncmhcbdicaaDoor
set_option maxRecDepth 100000
namespace Go.Proofs.YteadncmhcbdicaaDoor
open Go.RowKit
attribute [local go_sem] Oper.semAt_some
theorem getT {P : Program} {md : Region.Mode} {ops : Array Oper} {Q : Exit → Act → World → Prop} {S : World → Prop} {f : Nat} {l : Array Bool} {a : Act} {w : World} (h : ∀ T : Nat → Array Bool → Act → World → Prop, T = (fun f l a w => wpAnyH P md ops Q S f l a w) → T f l a w) : wpAnyH P md ops Q S f l a w := h _ rfl
theorem toT {P : Program} {md : Region.Mode} {ops : Array Oper} {Q : Exit → Act → World → Prop} {S : World → Prop} {T : Nat → Array Bool → Act → World → Prop} (hT : T = (fun f l a w => wpAnyH P md ops Q S f l a w)) {f f' : Nat} {l l' : Array Bool} {a : Act} {w : World} (hf : f' = f) (hl : l' = l) (h : T f l a w) : wpAnyH P md ops Q S f' l' a w := by
  subst hf hl; rw [hT] at h; exact h
theorem toT2 {T : Nat → Array Bool → Act → World → Prop} {f f' : Nat} {l l' : Array Bool} {a : Act} {w : World} (hl : l' = l) (hf : f' = f) (h : T f l a w) : T f' l' a w := by subst hf hl; exact h
theorem wpOp_storeP {P : Program} {ops : Array Oper} {Q : Exit → Act → World → Prop} {K : Act → World → Prop} {a : Act} {w : World} {i : Nat} {o : Oper} {w' : World} (hi : ops[i]? = some o) (hd : o.dst = none) (hw : Region.wanted o (yielded ops a.tmps) = true)
    (hr : (execOp a.eval o).run P w = .ok .skip w') (h : K a w') : wpOp P ops Q i K a w :=
  wpOp_of_wp hi hw (by unfold Oper.wp; rw [hr]; show K (a.put o.dst undef) w'; rw [hd]; exact h)
theorem info_secR : (Tryd.prog.info? 28).map (·.size) = some 5 := by kernel_rfl
end Go.Proofs.YteadncmhcbdicaaDoor
