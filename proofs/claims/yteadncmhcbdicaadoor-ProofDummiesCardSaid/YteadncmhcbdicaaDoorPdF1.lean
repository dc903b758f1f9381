/- proof: the reference's Dummy, case 1 of the rounds. (By mkpdf.py.) -/
import Derived.Test.YteadncmhcbdicaaDoorPdDF
set_option maxRecDepth 100000
namespace Go.Proofs.YteadncmhcbdicaaDoor
open Go.RowKit
attribute [local go_sem] Oper.semAt_some
set_option maxHeartbeats 8000000 in
theorem refDummy_1 (t u : List UInt8) (n : Int) (c1 : n < 1) (w : World) (ht : t.length ≤ 100) (hu : u.length ≤ 100) (hT : TabB w) (hG : 1 < w.heap.size) :
    Calls Tryd.prog 9 #[str t, str u, .int .i64 n] w fun e w' => ∃ r, e = .returned r ∧ DumR w' t u n r ∧ Below w.heap.size w w' := by
  have HT := Lib.hid hT
  obtain ⟨W0, hW0⟩ : ∃ W, W = w.alloc (.cells #[.slice none 0 0, .int .i64 0, .slice none 0 0, .slice none 0 0, .slice none 0 0] 28) := ⟨_, rfl⟩
  have HB0 := Lib.hid (show Below w.heap.size w W0 from by rw [hW0]; exact (Below.refl _ _).alloc (Nat.le_refl _) _)
  have HK0 := Lib.hid (show Blk W0 w.heap.size [.slice none 0 0, .int .i64 0, .slice none 0 0, .slice none 0 0, .slice none 0 0] from by rw [hW0]; exact Blk.new w _ _)
  have HZ0 := Lib.hid (show W0.heap.size = w.heap.size + 1 from by rw [hW0]; simp)
  obtain ⟨E0, q0⟩ : ∃ a, a = [32] ++ t := ⟨_, rfl⟩
  obtain ⟨E1, q1⟩ : ∃ a, a = E0 ++ [32] := ⟨_, rfl⟩
  obtain ⟨E2, q2⟩ : ∃ a, a = E1 ++ u := ⟨_, rfl⟩
  have l0 : E0.length ≤ 101 := by rw [q0]; simp; omega
  have l1 : E1.length ≤ 102 := by rw [q1]; simp; omega
  have l2 : E2.length ≤ 202 := by rw [q2]; simp; omega
  have HE := Lib.hid (show dumE t u = E2 from by rw [q2, q1, q0]; unfold dumE; simp)
  have d0 : ByteArray.mk #[32] ++ ByteArray.mk t.toArray = ByteArray.mk E0.toArray := by rw [q0]; exact str_app [32] t
  have d1 : ByteArray.mk E0.toArray ++ ByteArray.mk #[32] = ByteArray.mk E1.toArray := by rw [q1]; exact str_app E0 [32]
  have d2 : ByteArray.mk E1.toArray ++ ByteArray.mk u.toArray = ByteArray.mk E2.toArray := by rw [q2]; exact str_app E1 u
  have g0 : 1 + (t.length : Int) ≤ 9223372036854775807 := by omega
  have g1 : (E0.length : Int) + 1 ≤ 9223372036854775807 := by omega
  have g2 : (E1.length : Int) + (u.length : Int) ≤ 9223372036854775807 := by omega
  obtain ⟨F0, p0⟩ : ∃ a, a = [115, 97, 108, 116] ++ E2 := ⟨_, rfl⟩
  have f0 : ByteArray.mk #[115, 97, 108, 116] ++ ByteArray.mk E2.toArray = ByteArray.mk F0.toArray := by rw [p0]; exact str_app [115, 97, 108, 116] E2
  have m0 : 4 + (E2.length : Int) ≤ 9223372036854775807 := by omega
  have HF0 := Lib.hid (show F0.length ≤ 300 from by rw [p0]; simp; omega)
  have HP0 := Lib.hid p0
  obtain ⟨F1, p1⟩ : ∃ a, a = [115, 116, 111, 114, 101, 100] ++ E2 := ⟨_, rfl⟩
  have f1 : ByteArray.mk #[115, 116, 111, 114, 101, 100] ++ ByteArray.mk E2.toArray = ByteArray.mk F1.toArray := by rw [p1]; exact str_app [115, 116, 111, 114, 101, 100] E2
  have m1 : 6 + (E2.length : Int) ≤ 9223372036854775807 := by omega
  have HF1 := Lib.hid (show F1.length ≤ 300 from by rw [p1]; simp; omega)
  have HP1 := Lib.hid p1
  obtain ⟨F2, p2⟩ : ∃ a, a = [115, 101, 114, 118, 101, 114] ++ E2 := ⟨_, rfl⟩
  have f2 : ByteArray.mk #[115, 101, 114, 118, 101, 114] ++ ByteArray.mk E2.toArray = ByteArray.mk F2.toArray := by rw [p2]; exact str_app [115, 101, 114, 118, 101, 114] E2
  have m2 : 6 + (E2.length : Int) ≤ 9223372036854775807 := by omega
  have HF2 := Lib.hid (show F2.length ≤ 300 from by rw [p2]; simp; omega)
  have HP2 := Lib.hid p2
  obtain ⟨F3, p3⟩ : ∃ a, a = [104, 97, 49] ++ E2 := ⟨_, rfl⟩
  have f3 : ByteArray.mk #[104, 97, 49] ++ ByteArray.mk E2.toArray = ByteArray.mk F3.toArray := by rw [p3]; exact str_app [104, 97, 49] E2
  have m3 : 3 + (E2.length : Int) ≤ 9223372036854775807 := by omega
  have HF3 := Lib.hid (show F3.length ≤ 300 from by rw [p3]; simp; omega)
  have HP3 := Lib.hid p3
  clear q0 q1 q2 l0 l1 p0 p1 p2 p3 hT
  have HD := Lib.hid (show (1 : Int) = dumI n from (if_pos (.inl c1)).symm)
  go_enter Tryd.func9, Tryd.ntmps9
  go_wp2_with fail
  refine wp_region_noPanic ?_
  refine wp_region_held (S := fun _ => True) (by kernel_rfl) ?_
  rw [← hW0]
  change wpAnyH _ _ _ _ _ _ _ _ (World.drew _)
  obtain ⟨X, hX⟩ : ∃ X, X = World.drew W0 := ⟨_, rfl⟩
  have HK5 := Lib.hid (show Blk X w.heap.size [.slice none 0 0, .int .i64 0, .slice none 0 0, .slice none 0 0, .slice none 0 0] from by rw [hX]; exact HK0.out.drew)
  have HBX := Lib.hid (show Below w.heap.size w X from by rw [hX]; exact HB0.out.drew)
  have HZX := Lib.hid (show X.heap.size = w.heap.size + 1 from by rw [hX]; exact HZ0.out)
  rw [← hX]
  clear hX hW0
  refine takeH 0 19 (str E2) rfl rfl (by kernel_rfl) (by kernel_rfl) (by kernel_rfl) (fun _ _ _ h => h) rfl (fun w' h => by first | (go_simp; done) | (go_simp; omega)) trivial ?_
  go_frame
  refine takeH 1 20 (str F0) rfl rfl (by kernel_rfl) (by kernel_rfl) (by kernel_rfl) (fun _ _ _ h => h) rfl (fun w' h => by first | (go_simp; done) | (go_simp; omega)) trivial ?_
  go_frame
  refine takeH 5 24 (.int .i64 1) rfl rfl (by kernel_rfl) (by kernel_rfl) (by kernel_rfl) (fun _ _ _ h => h) rfl (fun w' h => by first | (go_simp; done) | (go_simp; omega)) trivial ?_
  go_frame
  refine takeH 6 25 (str E2) rfl rfl (by kernel_rfl) (by kernel_rfl) (by kernel_rfl) (fun _ _ _ h => h) rfl (fun w' h => by first | (go_simp; done) | (go_simp; omega)) trivial ?_
  go_frame
  refine takeH 7 26 (str F1) rfl rfl (by kernel_rfl) (by kernel_rfl) (by kernel_rfl) (fun _ _ _ h => h) rfl (fun w' h => by first | (go_simp; done) | (go_simp; omega)) trivial ?_
  go_frame
  refine takeH 10 29 (str E2) rfl rfl (by kernel_rfl) (by kernel_rfl) (by kernel_rfl) (fun _ _ _ h => h) rfl (fun w' h => by first | (go_simp; done) | (go_simp; omega)) trivial ?_
  go_frame
  refine takeH 11 30 (str F2) rfl rfl (by kernel_rfl) (by kernel_rfl) (by kernel_rfl) (fun _ _ _ h => h) rfl (fun w' h => by first | (go_simp; done) | (go_simp; omega)) trivial ?_
  go_frame
  refine takeH 14 33 (str E2) rfl rfl (by kernel_rfl) (by kernel_rfl) (by kernel_rfl) (fun _ _ _ h => h) rfl (fun w' h => by first | (go_simp; done) | (go_simp; omega)) trivial ?_
  go_frame
  refine takeH 15 34 (str F3) rfl rfl (by kernel_rfl) (by kernel_rfl) (by kernel_rfl) (fun _ _ _ h => h) rfl (fun w' h => by first | (go_simp; done) | (go_simp; omega)) trivial ?_
  go_frame
  refine getT ?_
  intro T hT
  clear d0 d1 d2 g0 g1 g2 f0 f1 f2 f3 m0 m1 m2 m3 l2
  have st0123_4 : Hid (∀ (W : World) (A0 A1 A2 A3 : Option Addr) (a0 a1 a2 a3 : Nat) (B0 B1 B2 B3 : Option Addr) (b0 b1 b2 b3 : Nat), Below X.heap.size X W → OwnB W (w.heap.size + 1) (.slice B0 32 b0) (sumL F0) → OwnB W (w.heap.size + 1) (.slice B1 32 b1) (sumL F1) → OwnB W (w.heap.size + 1) (.slice B2 32 b2) (sumL F2) → OwnB W (w.heap.size + 1) (.slice B3 32 b3) (sumL F3) → T 2 #[true, true, true, true, true, true, true, true, true, true, true, true, true, true, true, true, true, true, false, false] ⟨#[str t, str u, .int .i64 1, undef, undef, undef, .pointer (some ⟨w.heap.size, 0, none⟩), str E2, .int .i64 n, .bool true, .bool true, undef, undef, .bool true, str t, str E0, str E1, str u, str E2, str E2, str F0, .slice A0 F0.length a0, .slice B0 32 b0, .slice B0 16 b0, .int .i64 1, str E2, str F1, .slice A1 F1.length a1, .slice B1 32 b1, str E2, str F2, .slice A2 F2.length a2, .slice B2 32 b2, str E2, str F3, .slice A3 F3.length a3, .slice B3 32 b3, undef], []⟩ W) := by
    refine Lib.hid ?_
    intro W A0 A1 A2 A3 a0 a1 a2 a3 B0 B1 B2 B3 b0 b1 b2 b3 hB ho0 ho1 ho2 ho3
    rw [hT]
    show wpAnyH _ _ _ _ _ _ _ _ _
    have HhB := Lib.hid hB
    have Hho0 := Lib.hid ho0
    have Hho1 := Lib.hid ho1
    have Hho2 := Lib.hid ho2
    have Hho3 := Lib.hid ho3
    clear hB ho0 ho1 ho2 ho3
    refine takeH 18 37 (.agg #[.slice B0 16 b0, .int .i64 1, .slice B1 32 b1, .slice B2 32 b2, .slice B3 32 b3]) rfl rfl (by kernel_rfl) (by kernel_rfl) (by kernel_rfl) (fun _ _ _ h => h) rfl (fun w' h => by first | (go_simp; done) | (go_simp; omega)) trivial ?_
    go_frame
    have HK := Lib.hid (HK5.out.below HhB.out HK5.out.lt)
    have k0 := HK.out.at (o := 0) rfl
    have k1 := HK.out.at (o := 1) rfl
    have k2 := HK.out.at (o := 2) rfl
    have k3 := HK.out.at (o := 3) rfl
    have k4 := HK.out.at (o := 4) rfl
    have r0 := HK.out.free 0
    have r1 := HK.out.free 1
    have r2 := HK.out.free 2
    have r3 := HK.out.free 3
    have r4 := HK.out.free 4
    refine wpAnyH_all (rs := [19]) (by kernel_rfl) (by simp) ?_
    simp only [List.mem_singleton, forall_eq]
    refine wpOp_storeP rfl rfl rfl (w' := ((((W.setCell ⟨w.heap.size, 0, none⟩ (.slice B0 16 b0)).setCell ⟨w.heap.size, 1, none⟩ (.int .i64 1)).setCell ⟨w.heap.size, 2, none⟩ (.slice B1 32 b1)).setCell ⟨w.heap.size, 3, none⟩ (.slice B2 32 b2)).setCell ⟨w.heap.size, 4, none⟩ (.slice B3 32 b3)) (by go_simp) ⟨trivial, ?_⟩
    refine wpAnyH_done (by kernel_rfl) ?_ _
    refine NoPanic.normal ?_
    clear k0 k1 k2 k3 k4 r0 r1 r2 r3 r4
    go_wp2_with fail
    have hlow := (((((HBX.out.trans (HhB.out.mono HBX.out.size)).setCell (p := ⟨w.heap.size, 0, none⟩) (Nat.le_refl _) (.slice B0 16 b0)).setCell (p := ⟨w.heap.size, 1, none⟩) (Nat.le_refl _) (.int .i64 1)).setCell (p := ⟨w.heap.size, 2, none⟩) (Nat.le_refl _) (.slice B1 32 b1)).setCell (p := ⟨w.heap.size, 3, none⟩) (Nat.le_refl _) (.slice B2 32 b2)).setCell (p := ⟨w.heap.size, 4, none⟩) (Nat.le_refl _) (.slice B3 32 b3)
    obtain ⟨tt, htt⟩ := ((((HK.out.set 0 (.slice B0 16 b0)).set 1 (.int .i64 1)).set 2 (.slice B1 32 b1)).set 3 (.slice B2 32 b2)).set 4 (.slice B3 32 b3)
    refine bodyPost_ret (v := .agg #[.slice B0 16 b0, .int .i64 1, .slice B1 32 b1, .slice B2 32 b2, .slice B3 32 b3]) ?_ rfl ?_
    · exact results_cell_row rfl _ _ w.heap.size tt _ _ _ rfl htt Tryd.underlying28 rfl info_secR
    · have h5 : ∀ {v : Value} {l : List UInt8}, OwnB W (w.heap.size + 1) v l → OwnB (((((W.setCell ⟨w.heap.size, 0, none⟩ (.slice B0 16 b0)).setCell ⟨w.heap.size, 1, none⟩ (.int .i64 1)).setCell ⟨w.heap.size, 2, none⟩ (.slice B1 32 b1)).setCell ⟨w.heap.size, 3, none⟩ (.slice B2 32 b2)).setCell ⟨w.heap.size, 4, none⟩ (.slice B3 32 b3)) (w.heap.size + 1) v l := fun h => ((((h.sets (Nat.lt_succ_self _) 0 _).sets (Nat.lt_succ_self _) 1 _).sets (Nat.lt_succ_self _) 2 _).sets (Nat.lt_succ_self _) 3 _).sets (Nat.lt_succ_self _) 4 _
      refine ⟨_, rfl, ⟨⟨_, _, _, _, by rw [← HD.out], ?_, ?_, ?_, ?_⟩⟩, hlow⟩
      · rw [HE.out, show dumS ++ E2 = F0 from HP0.out.symm]
        obtain ⟨A', c', e', -, -, -, -⟩ := (h5 Hho0.out).sl
        have := (h5 Hho0.out).sl.take 16 (by rw [sumL_length]; omega)
        obtain ⟨A2, c2, e2, -, -, -, hs⟩ := this
        injection e2 with e3 _ e4
        subst e3 e4
        exact hs
      · rw [HE.out, show dumT ++ E2 = F1 from HP1.out.symm]; exact (h5 Hho1.out).sl
      · rw [HE.out, show dumV ++ E2 = F2 from HP2.out.symm]; exact (h5 Hho2.out).sl
      · rw [HE.out, show dumH ++ E2 = F3 from HP3.out.symm]; exact (h5 Hho3.out).sl
  have st0123_3 : Hid (∀ (W : World) (A0 A1 A2 A3 : Option Addr) (a0 a1 a2 a3 : Nat) (B0 B1 B2 : Option Addr) (b0 b1 b2 : Nat), Below X.heap.size X W → Sl W W.heap.size (.slice A3 F3.length a3) F3 → OwnB W (w.heap.size + 1) (.slice B0 32 b0) (sumL F0) → OwnB W (w.heap.size + 1) (.slice B1 32 b1) (sumL F1) → OwnB W (w.heap.size + 1) (.slice B2 32 b2) (sumL F2) → T 3 #[true, true, true, true, true, true, true, true, true, true, true, true, true, true, true, true, true, false, false, false] ⟨#[str t, str u, .int .i64 1, undef, undef, undef, .pointer (some ⟨w.heap.size, 0, none⟩), str E2, .int .i64 n, .bool true, .bool true, undef, undef, .bool true, str t, str E0, str E1, str u, str E2, str E2, str F0, .slice A0 F0.length a0, .slice B0 32 b0, .slice B0 16 b0, .int .i64 1, str E2, str F1, .slice A1 F1.length a1, .slice B1 32 b1, str E2, str F2, .slice A2 F2.length a2, .slice B2 32 b2, str E2, str F3, .slice A3 F3.length a3, undef, undef], []⟩ W) := by
    refine Lib.hid ?_
    intro W A0 A1 A2 A3 a0 a1 a2 a3 B0 B1 B2 b0 b1 b2 hB hs3 ho0 ho1 ho2
    rw [hT]
    show wpAnyH _ _ _ _ _ _ _ _ _
    have HhB := Lib.hid hB
    have Hhs3 := Lib.hid hs3
    have Hho0 := Lib.hid ho0
    have Hho1 := Lib.hid ho1
    have Hho2 := Lib.hid ho2
    clear hB hs3 ho0 ho1 ho2
    refine wpAnyH_all (rs := [17]) (by kernel_rfl) (by simp) ?_
    simp only [List.mem_singleton, forall_eq]
    refine wpOp_callD 36 rfl rfl rfl 18 #[.slice A3 F3.length a3] (by go_simp) ?_
    have hzW := HhB.out.size
    have hzX := HBX.out.size
    refine (refSum_any W.heap.size _ F3 W (HT.out.below (HBX.out.trans (HhB.out.mono HBX.out.size)) hG) (Nat.lt_of_lt_of_le hG (by omega)) Hhs3.out (Nat.le_refl _) (by have := HF3.out; omega)).mono ?_
    rintro e W2 ⟨v2, rfl, hO, hbc⟩
    obtain ⟨B3, b3, rfl, -, hb32, -, -⟩ := hO.sl
    rw [sumL_length] at hb32 hO ⊢
    refine ⟨_, rfl, trivial, ?_⟩
    go_frame
    exact toT hT rfl (by kernel_rfl) (st0123_4.out W2 A0 A1 A2 A3 a0 a1 a2 a3 B0 B1 B2 B3 b0 b1 b2 b3 (HhB.out.trans (hbc.mono HhB.out.size)) (Hho0.out.below hbc) (Hho1.out.below hbc) (Hho2.out.below hbc) (hO.lower (by have := HZX.out; omega)))
  have st012_3 : Hid (∀ (W : World) (A0 A1 A2 : Option Addr) (a0 a1 a2 : Nat) (B0 B1 B2 : Option Addr) (b0 b1 b2 : Nat), Below X.heap.size X W → OwnB W (w.heap.size + 1) (.slice B0 32 b0) (sumL F0) → OwnB W (w.heap.size + 1) (.slice B1 32 b1) (sumL F1) → OwnB W (w.heap.size + 1) (.slice B2 32 b2) (sumL F2) → T 4 #[true, true, true, true, true, true, true, true, true, true, true, true, true, true, true, true, false, false, false, false] ⟨#[str t, str u, .int .i64 1, undef, undef, undef, .pointer (some ⟨w.heap.size, 0, none⟩), str E2, .int .i64 n, .bool true, .bool true, undef, undef, .bool true, str t, str E0, str E1, str u, str E2, str E2, str F0, .slice A0 F0.length a0, .slice B0 32 b0, .slice B0 16 b0, .int .i64 1, str E2, str F1, .slice A1 F1.length a1, .slice B1 32 b1, str E2, str F2, .slice A2 F2.length a2, .slice B2 32 b2, str E2, str F3, undef, undef, undef], []⟩ W) := by
    refine Lib.hid ?_
    intro W A0 A1 A2 a0 a1 a2 B0 B1 B2 b0 b1 b2 hB ho0 ho1 ho2
    rw [hT]
    show wpAnyH _ _ _ _ _ _ _ _ _
    have HhB := Lib.hid hB
    have Hho0 := Lib.hid ho0
    have Hho1 := Lib.hid ho1
    have Hho2 := Lib.hid ho2
    clear hB ho0 ho1 ho2
    refine wpAnyH_all (rs := [16]) (by kernel_rfl) (by simp) ?_
    simp only [List.mem_singleton, forall_eq]
    obtain ⟨vc, W2, hcv, hbc, hsl⟩ := conv_tx F3 W (by have := HF3.out; omega)
    obtain ⟨A3, a3, rfl, -⟩ := id hsl
    refine wpOp_valueX 35 rfl rfl rfl (.slice A3 F3.length a3) W2 (by go_simp) ⟨trivial, ?_⟩
    go_frame
    exact toT hT rfl (by kernel_rfl) (st0123_3.out W2 A0 A1 A2 A3 a0 a1 a2 a3 B0 B1 B2 b0 b1 b2 (HhB.out.trans (hbc.mono HhB.out.size)) hsl (Hho0.out.below hbc) (Hho1.out.below hbc) (Hho2.out.below hbc))
  have st0123_2 : Hid (∀ (W : World) (A0 A1 A2 A3 : Option Addr) (a0 a1 a2 a3 : Nat) (B0 B1 : Option Addr) (b0 b1 : Nat), Below X.heap.size X W → Sl W W.heap.size (.slice A2 F2.length a2) F2 → Sl W W.heap.size (.slice A3 F3.length a3) F3 → OwnB W (w.heap.size + 1) (.slice B0 32 b0) (sumL F0) → OwnB W (w.heap.size + 1) (.slice B1 32 b1) (sumL F1) → T 4 #[true, true, true, true, true, true, true, true, true, true, true, true, true, false, true, true, true, false, false, false] ⟨#[str t, str u, .int .i64 1, undef, undef, undef, .pointer (some ⟨w.heap.size, 0, none⟩), str E2, .int .i64 n, .bool true, .bool true, undef, undef, .bool true, str t, str E0, str E1, str u, str E2, str E2, str F0, .slice A0 F0.length a0, .slice B0 32 b0, .slice B0 16 b0, .int .i64 1, str E2, str F1, .slice A1 F1.length a1, .slice B1 32 b1, str E2, str F2, .slice A2 F2.length a2, undef, str E2, str F3, .slice A3 F3.length a3, undef, undef], []⟩ W) := by
    refine Lib.hid ?_
    intro W A0 A1 A2 A3 a0 a1 a2 a3 B0 B1 b0 b1 hB hs2 hs3 ho0 ho1
    rw [hT]
    show wpAnyH _ _ _ _ _ _ _ _ _
    have HhB := Lib.hid hB
    have Hhs2 := Lib.hid hs2
    have Hhs3 := Lib.hid hs3
    have Hho0 := Lib.hid ho0
    have Hho1 := Lib.hid ho1
    clear hB hs2 hs3 ho0 ho1
    refine wpAnyH_all (rs := [13]) (by kernel_rfl) (by simp) ?_
    simp only [List.mem_singleton, forall_eq]
    refine wpOp_callD 32 rfl rfl rfl 18 #[.slice A2 F2.length a2] (by go_simp) ?_
    have hzW := HhB.out.size
    have hzX := HBX.out.size
    refine (refSum_any W.heap.size _ F2 W (HT.out.below (HBX.out.trans (HhB.out.mono HBX.out.size)) hG) (Nat.lt_of_lt_of_le hG (by omega)) Hhs2.out (Nat.le_refl _) (by have := HF2.out; omega)).mono ?_
    rintro e W2 ⟨v2, rfl, hO, hbc⟩
    obtain ⟨B2, b2, rfl, -, hb32, -, -⟩ := hO.sl
    rw [sumL_length] at hb32 hO ⊢
    refine ⟨_, rfl, trivial, ?_⟩
    go_frame
    exact toT hT rfl (by kernel_rfl) (st0123_3.out W2 A0 A1 A2 A3 a0 a1 a2 a3 B0 B1 B2 b0 b1 b2 (HhB.out.trans (hbc.mono HhB.out.size)) (Hhs3.out.fwd hbc) (Hho0.out.below hbc) (Hho1.out.below hbc) (hO.lower (by have := HZX.out; omega)))
  have st012_2 : Hid (∀ (W : World) (A0 A1 A2 : Option Addr) (a0 a1 a2 : Nat) (B0 B1 : Option Addr) (b0 b1 : Nat), Below X.heap.size X W → Sl W W.heap.size (.slice A2 F2.length a2) F2 → OwnB W (w.heap.size + 1) (.slice B0 32 b0) (sumL F0) → OwnB W (w.heap.size + 1) (.slice B1 32 b1) (sumL F1) → T 5 #[true, true, true, true, true, true, true, true, true, true, true, true, true, false, true, true, false, false, false, false] ⟨#[str t, str u, .int .i64 1, undef, undef, undef, .pointer (some ⟨w.heap.size, 0, none⟩), str E2, .int .i64 n, .bool true, .bool true, undef, undef, .bool true, str t, str E0, str E1, str u, str E2, str E2, str F0, .slice A0 F0.length a0, .slice B0 32 b0, .slice B0 16 b0, .int .i64 1, str E2, str F1, .slice A1 F1.length a1, .slice B1 32 b1, str E2, str F2, .slice A2 F2.length a2, undef, str E2, str F3, undef, undef, undef], []⟩ W) := by
    refine Lib.hid ?_
    intro W A0 A1 A2 a0 a1 a2 B0 B1 b0 b1 hB hs2 ho0 ho1
    rw [hT]
    show wpAnyH _ _ _ _ _ _ _ _ _
    have HhB := Lib.hid hB
    have Hhs2 := Lib.hid hs2
    have Hho0 := Lib.hid ho0
    have Hho1 := Lib.hid ho1
    clear hB hs2 ho0 ho1
    refine wpAnyH_all (rs := [13, 16]) (by kernel_rfl) (by simp) ?_
    simp only [List.mem_cons, List.not_mem_nil, or_false, forall_eq_or_imp, forall_eq]
    refine ⟨?_, ?_⟩
    · refine wpOp_callD 32 rfl rfl rfl 18 #[.slice A2 F2.length a2] (by go_simp) ?_
      have hzW := HhB.out.size
      have hzX := HBX.out.size
      refine (refSum_any W.heap.size _ F2 W (HT.out.below (HBX.out.trans (HhB.out.mono HBX.out.size)) hG) (Nat.lt_of_lt_of_le hG (by omega)) Hhs2.out (Nat.le_refl _) (by have := HF2.out; omega)).mono ?_
      rintro e W2 ⟨v2, rfl, hO, hbc⟩
      obtain ⟨B2, b2, rfl, -, hb32, -, -⟩ := hO.sl
      rw [sumL_length] at hb32 hO ⊢
      refine ⟨_, rfl, trivial, ?_⟩
      go_frame
      exact toT hT rfl (by kernel_rfl) (st012_3.out W2 A0 A1 A2 a0 a1 a2 B0 B1 B2 b0 b1 b2 (HhB.out.trans (hbc.mono HhB.out.size)) (Hho0.out.below hbc) (Hho1.out.below hbc) (hO.lower (by have := HZX.out; omega)))
    · obtain ⟨vc, W2, hcv, hbc, hsl⟩ := conv_tx F3 W (by have := HF3.out; omega)
      obtain ⟨A3, a3, rfl, -⟩ := id hsl
      refine wpOp_valueX 35 rfl rfl rfl (.slice A3 F3.length a3) W2 (by go_simp) ⟨trivial, ?_⟩
      go_frame
      exact toT hT rfl (by kernel_rfl) (st0123_2.out W2 A0 A1 A2 A3 a0 a1 a2 a3 B0 B1 b0 b1 (HhB.out.trans (hbc.mono HhB.out.size)) (Hhs2.out.fwd hbc) hsl (Hho0.out.below hbc) (Hho1.out.below hbc))
  have st013_2 : Hid (∀ (W : World) (A0 A1 A3 : Option Addr) (a0 a1 a3 : Nat) (B0 B1 : Option Addr) (b0 b1 : Nat), Below X.heap.size X W → Sl W W.heap.size (.slice A3 F3.length a3) F3 → OwnB W (w.heap.size + 1) (.slice B0 32 b0) (sumL F0) → OwnB W (w.heap.size + 1) (.slice B1 32 b1) (sumL F1) → T 5 #[true, true, true, true, true, true, true, true, true, true, true, true, false, false, true, true, true, false, false, false] ⟨#[str t, str u, .int .i64 1, undef, undef, undef, .pointer (some ⟨w.heap.size, 0, none⟩), str E2, .int .i64 n, .bool true, .bool true, undef, undef, .bool true, str t, str E0, str E1, str u, str E2, str E2, str F0, .slice A0 F0.length a0, .slice B0 32 b0, .slice B0 16 b0, .int .i64 1, str E2, str F1, .slice A1 F1.length a1, .slice B1 32 b1, str E2, str F2, undef, undef, str E2, str F3, .slice A3 F3.length a3, undef, undef], []⟩ W) := by
    refine Lib.hid ?_
    intro W A0 A1 A3 a0 a1 a3 B0 B1 b0 b1 hB hs3 ho0 ho1
    rw [hT]
    show wpAnyH _ _ _ _ _ _ _ _ _
    have HhB := Lib.hid hB
    have Hhs3 := Lib.hid hs3
    have Hho0 := Lib.hid ho0
    have Hho1 := Lib.hid ho1
    clear hB hs3 ho0 ho1
    refine wpAnyH_all (rs := [12]) (by kernel_rfl) (by simp) ?_
    simp only [List.mem_singleton, forall_eq]
    obtain ⟨vc, W2, hcv, hbc, hsl⟩ := conv_tx F2 W (by have := HF2.out; omega)
    obtain ⟨A2, a2, rfl, -⟩ := id hsl
    refine wpOp_valueX 31 rfl rfl rfl (.slice A2 F2.length a2) W2 (by go_simp) ⟨trivial, ?_⟩
    go_frame
    exact toT hT rfl (by kernel_rfl) (st0123_2.out W2 A0 A1 A2 A3 a0 a1 a2 a3 B0 B1 b0 b1 (HhB.out.trans (hbc.mono HhB.out.size)) hsl (Hhs3.out.fwd hbc) (Hho0.out.below hbc) (Hho1.out.below hbc))
  have st01_2 : Hid (∀ (W : World) (A0 A1 : Option Addr) (a0 a1 : Nat) (B0 B1 : Option Addr) (b0 b1 : Nat), Below X.heap.size X W → OwnB W (w.heap.size + 1) (.slice B0 32 b0) (sumL F0) → OwnB W (w.heap.size + 1) (.slice B1 32 b1) (sumL F1) → T 6 #[true, true, true, true, true, true, true, true, true, true, true, true, false, false, true, true, false, false, false, false] ⟨#[str t, str u, .int .i64 1, undef, undef, undef, .pointer (some ⟨w.heap.size, 0, none⟩), str E2, .int .i64 n, .bool true, .bool true, undef, undef, .bool true, str t, str E0, str E1, str u, str E2, str E2, str F0, .slice A0 F0.length a0, .slice B0 32 b0, .slice B0 16 b0, .int .i64 1, str E2, str F1, .slice A1 F1.length a1, .slice B1 32 b1, str E2, str F2, undef, undef, str E2, str F3, undef, undef, undef], []⟩ W) := by
    refine Lib.hid ?_
    intro W A0 A1 a0 a1 B0 B1 b0 b1 hB ho0 ho1
    rw [hT]
    show wpAnyH _ _ _ _ _ _ _ _ _
    have HhB := Lib.hid hB
    have Hho0 := Lib.hid ho0
    have Hho1 := Lib.hid ho1
    clear hB ho0 ho1
    refine wpAnyH_all (rs := [12, 16]) (by kernel_rfl) (by simp) ?_
    simp only [List.mem_cons, List.not_mem_nil, or_false, forall_eq_or_imp, forall_eq]
    refine ⟨?_, ?_⟩
    · obtain ⟨vc, W2, hcv, hbc, hsl⟩ := conv_tx F2 W (by have := HF2.out; omega)
      obtain ⟨A2, a2, rfl, -⟩ := id hsl
      refine wpOp_valueX 31 rfl rfl rfl (.slice A2 F2.length a2) W2 (by go_simp) ⟨trivial, ?_⟩
      go_frame
      exact toT hT rfl (by kernel_rfl) (st012_2.out W2 A0 A1 A2 a0 a1 a2 B0 B1 b0 b1 (HhB.out.trans (hbc.mono HhB.out.size)) hsl (Hho0.out.below hbc) (Hho1.out.below hbc))
    · obtain ⟨vc, W2, hcv, hbc, hsl⟩ := conv_tx F3 W (by have := HF3.out; omega)
      obtain ⟨A3, a3, rfl, -⟩ := id hsl
      refine wpOp_valueX 35 rfl rfl rfl (.slice A3 F3.length a3) W2 (by go_simp) ⟨trivial, ?_⟩
      go_frame
      exact toT hT rfl (by kernel_rfl) (st013_2.out W2 A0 A1 A3 a0 a1 a3 B0 B1 b0 b1 (HhB.out.trans (hbc.mono HhB.out.size)) hsl (Hho0.out.below hbc) (Hho1.out.below hbc))
  have st0123_1 : Hid (∀ (W : World) (A0 A1 A2 A3 : Option Addr) (a0 a1 a2 a3 : Nat) (B0 : Option Addr) (b0 : Nat), Below X.heap.size X W → Sl W W.heap.size (.slice A1 F1.length a1) F1 → Sl W W.heap.size (.slice A2 F2.length a2) F2 → Sl W W.heap.size (.slice A3 F3.length a3) F3 → OwnB W (w.heap.size + 1) (.slice B0 32 b0) (sumL F0) → T 5 #[true, true, true, true, true, true, true, true, true, false, true, true, true, false, true, true, true, false, false, false] ⟨#[str t, str u, .int .i64 1, undef, undef, undef, .pointer (some ⟨w.heap.size, 0, none⟩), str E2, .int .i64 n, .bool true, .bool true, undef, undef, .bool true, str t, str E0, str E1, str u, str E2, str E2, str F0, .slice A0 F0.length a0, .slice B0 32 b0, .slice B0 16 b0, .int .i64 1, str E2, str F1, .slice A1 F1.length a1, undef, str E2, str F2, .slice A2 F2.length a2, undef, str E2, str F3, .slice A3 F3.length a3, undef, undef], []⟩ W) := by
    refine Lib.hid ?_
    intro W A0 A1 A2 A3 a0 a1 a2 a3 B0 b0 hB hs1 hs2 hs3 ho0
    rw [hT]
    show wpAnyH _ _ _ _ _ _ _ _ _
    have HhB := Lib.hid hB
    have Hhs1 := Lib.hid hs1
    have Hhs2 := Lib.hid hs2
    have Hhs3 := Lib.hid hs3
    have Hho0 := Lib.hid ho0
    clear hB hs1 hs2 hs3 ho0
    refine wpAnyH_all (rs := [9]) (by kernel_rfl) (by simp) ?_
    simp only [List.mem_singleton, forall_eq]
    refine wpOp_callD 28 rfl rfl rfl 18 #[.slice A1 F1.length a1] (by go_simp) ?_
    have hzW := HhB.out.size
    have hzX := HBX.out.size
    refine (refSum_any W.heap.size _ F1 W (HT.out.below (HBX.out.trans (HhB.out.mono HBX.out.size)) hG) (Nat.lt_of_lt_of_le hG (by omega)) Hhs1.out (Nat.le_refl _) (by have := HF1.out; omega)).mono ?_
    rintro e W2 ⟨v2, rfl, hO, hbc⟩
    obtain ⟨B1, b1, rfl, -, hb32, -, -⟩ := hO.sl
    rw [sumL_length] at hb32 hO ⊢
    refine ⟨_, rfl, trivial, ?_⟩
    go_frame
    exact toT hT rfl (by kernel_rfl) (st0123_2.out W2 A0 A1 A2 A3 a0 a1 a2 a3 B0 B1 b0 b1 (HhB.out.trans (hbc.mono HhB.out.size)) (Hhs2.out.fwd hbc) (Hhs3.out.fwd hbc) (Hho0.out.below hbc) (hO.lower (by have := HZX.out; omega)))
  have st012_1 : Hid (∀ (W : World) (A0 A1 A2 : Option Addr) (a0 a1 a2 : Nat) (B0 : Option Addr) (b0 : Nat), Below X.heap.size X W → Sl W W.heap.size (.slice A1 F1.length a1) F1 → Sl W W.heap.size (.slice A2 F2.length a2) F2 → OwnB W (w.heap.size + 1) (.slice B0 32 b0) (sumL F0) → T 6 #[true, true, true, true, true, true, true, true, true, false, true, true, true, false, true, true, false, false, false, false] ⟨#[str t, str u, .int .i64 1, undef, undef, undef, .pointer (some ⟨w.heap.size, 0, none⟩), str E2, .int .i64 n, .bool true, .bool true, undef, undef, .bool true, str t, str E0, str E1, str u, str E2, str E2, str F0, .slice A0 F0.length a0, .slice B0 32 b0, .slice B0 16 b0, .int .i64 1, str E2, str F1, .slice A1 F1.length a1, undef, str E2, str F2, .slice A2 F2.length a2, undef, str E2, str F3, undef, undef, undef], []⟩ W) := by
    refine Lib.hid ?_
    intro W A0 A1 A2 a0 a1 a2 B0 b0 hB hs1 hs2 ho0
    rw [hT]
    show wpAnyH _ _ _ _ _ _ _ _ _
    have HhB := Lib.hid hB
    have Hhs1 := Lib.hid hs1
    have Hhs2 := Lib.hid hs2
    have Hho0 := Lib.hid ho0
    clear hB hs1 hs2 ho0
    refine wpAnyH_all (rs := [9, 16]) (by kernel_rfl) (by simp) ?_
    simp only [List.mem_cons, List.not_mem_nil, or_false, forall_eq_or_imp, forall_eq]
    refine ⟨?_, ?_⟩
    · refine wpOp_callD 28 rfl rfl rfl 18 #[.slice A1 F1.length a1] (by go_simp) ?_
      have hzW := HhB.out.size
      have hzX := HBX.out.size
      refine (refSum_any W.heap.size _ F1 W (HT.out.below (HBX.out.trans (HhB.out.mono HBX.out.size)) hG) (Nat.lt_of_lt_of_le hG (by omega)) Hhs1.out (Nat.le_refl _) (by have := HF1.out; omega)).mono ?_
      rintro e W2 ⟨v2, rfl, hO, hbc⟩
      obtain ⟨B1, b1, rfl, -, hb32, -, -⟩ := hO.sl
      rw [sumL_length] at hb32 hO ⊢
      refine ⟨_, rfl, trivial, ?_⟩
      go_frame
      exact toT hT rfl (by kernel_rfl) (st012_2.out W2 A0 A1 A2 a0 a1 a2 B0 B1 b0 b1 (HhB.out.trans (hbc.mono HhB.out.size)) (Hhs2.out.fwd hbc) (Hho0.out.below hbc) (hO.lower (by have := HZX.out; omega)))
    · obtain ⟨vc, W2, hcv, hbc, hsl⟩ := conv_tx F3 W (by have := HF3.out; omega)
      obtain ⟨A3, a3, rfl, -⟩ := id hsl
      refine wpOp_valueX 35 rfl rfl rfl (.slice A3 F3.length a3) W2 (by go_simp) ⟨trivial, ?_⟩
      go_frame
      exact toT hT rfl (by kernel_rfl) (st0123_1.out W2 A0 A1 A2 A3 a0 a1 a2 a3 B0 b0 (HhB.out.trans (hbc.mono HhB.out.size)) (Hhs1.out.fwd hbc) (Hhs2.out.fwd hbc) hsl (Hho0.out.below hbc))
  have st013_1 : Hid (∀ (W : World) (A0 A1 A3 : Option Addr) (a0 a1 a3 : Nat) (B0 : Option Addr) (b0 : Nat), Below X.heap.size X W → Sl W W.heap.size (.slice A1 F1.length a1) F1 → Sl W W.heap.size (.slice A3 F3.length a3) F3 → OwnB W (w.heap.size + 1) (.slice B0 32 b0) (sumL F0) → T 6 #[true, true, true, true, true, true, true, true, true, false, true, true, false, false, true, true, true, false, false, false] ⟨#[str t, str u, .int .i64 1, undef, undef, undef, .pointer (some ⟨w.heap.size, 0, none⟩), str E2, .int .i64 n, .bool true, .bool true, undef, undef, .bool true, str t, str E0, str E1, str u, str E2, str E2, str F0, .slice A0 F0.length a0, .slice B0 32 b0, .slice B0 16 b0, .int .i64 1, str E2, str F1, .slice A1 F1.length a1, undef, str E2, str F2, undef, undef, str E2, str F3, .slice A3 F3.length a3, undef, undef], []⟩ W) := by
    refine Lib.hid ?_
    intro W A0 A1 A3 a0 a1 a3 B0 b0 hB hs1 hs3 ho0
    rw [hT]
    show wpAnyH _ _ _ _ _ _ _ _ _
    have HhB := Lib.hid hB
    have Hhs1 := Lib.hid hs1
    have Hhs3 := Lib.hid hs3
    have Hho0 := Lib.hid ho0
    clear hB hs1 hs3 ho0
    refine wpAnyH_all (rs := [9, 12]) (by kernel_rfl) (by simp) ?_
    simp only [List.mem_cons, List.not_mem_nil, or_false, forall_eq_or_imp, forall_eq]
    refine ⟨?_, ?_⟩
    · refine wpOp_callD 28 rfl rfl rfl 18 #[.slice A1 F1.length a1] (by go_simp) ?_
      have hzW := HhB.out.size
      have hzX := HBX.out.size
      refine (refSum_any W.heap.size _ F1 W (HT.out.below (HBX.out.trans (HhB.out.mono HBX.out.size)) hG) (Nat.lt_of_lt_of_le hG (by omega)) Hhs1.out (Nat.le_refl _) (by have := HF1.out; omega)).mono ?_
      rintro e W2 ⟨v2, rfl, hO, hbc⟩
      obtain ⟨B1, b1, rfl, -, hb32, -, -⟩ := hO.sl
      rw [sumL_length] at hb32 hO ⊢
      refine ⟨_, rfl, trivial, ?_⟩
      go_frame
      exact toT hT rfl (by kernel_rfl) (st013_2.out W2 A0 A1 A3 a0 a1 a3 B0 B1 b0 b1 (HhB.out.trans (hbc.mono HhB.out.size)) (Hhs3.out.fwd hbc) (Hho0.out.below hbc) (hO.lower (by have := HZX.out; omega)))
    · obtain ⟨vc, W2, hcv, hbc, hsl⟩ := conv_tx F2 W (by have := HF2.out; omega)
      obtain ⟨A2, a2, rfl, -⟩ := id hsl
      refine wpOp_valueX 31 rfl rfl rfl (.slice A2 F2.length a2) W2 (by go_simp) ⟨trivial, ?_⟩
      go_frame
      exact toT hT rfl (by kernel_rfl) (st0123_1.out W2 A0 A1 A2 A3 a0 a1 a2 a3 B0 b0 (HhB.out.trans (hbc.mono HhB.out.size)) (Hhs1.out.fwd hbc) hsl (Hhs3.out.fwd hbc) (Hho0.out.below hbc))
  have st023_1 : Hid (∀ (W : World) (A0 A2 A3 : Option Addr) (a0 a2 a3 : Nat) (B0 : Option Addr) (b0 : Nat), Below X.heap.size X W → Sl W W.heap.size (.slice A2 F2.length a2) F2 → Sl W W.heap.size (.slice A3 F3.length a3) F3 → OwnB W (w.heap.size + 1) (.slice B0 32 b0) (sumL F0) → T 6 #[true, true, true, true, true, true, true, true, false, false, true, true, true, false, true, true, true, false, false, false] ⟨#[str t, str u, .int .i64 1, undef, undef, undef, .pointer (some ⟨w.heap.size, 0, none⟩), str E2, .int .i64 n, .bool true, .bool true, undef, undef, .bool true, str t, str E0, str E1, str u, str E2, str E2, str F0, .slice A0 F0.length a0, .slice B0 32 b0, .slice B0 16 b0, .int .i64 1, str E2, str F1, undef, undef, str E2, str F2, .slice A2 F2.length a2, undef, str E2, str F3, .slice A3 F3.length a3, undef, undef], []⟩ W) := by
    refine Lib.hid ?_
    intro W A0 A2 A3 a0 a2 a3 B0 b0 hB hs2 hs3 ho0
    rw [hT]
    show wpAnyH _ _ _ _ _ _ _ _ _
    have HhB := Lib.hid hB
    have Hhs2 := Lib.hid hs2
    have Hhs3 := Lib.hid hs3
    have Hho0 := Lib.hid ho0
    clear hB hs2 hs3 ho0
    refine wpAnyH_all (rs := [8]) (by kernel_rfl) (by simp) ?_
    simp only [List.mem_singleton, forall_eq]
    obtain ⟨vc, W2, hcv, hbc, hsl⟩ := conv_tx F1 W (by have := HF1.out; omega)
    obtain ⟨A1, a1, rfl, -⟩ := id hsl
    refine wpOp_valueX 27 rfl rfl rfl (.slice A1 F1.length a1) W2 (by go_simp) ⟨trivial, ?_⟩
    go_frame
    exact toT hT rfl (by kernel_rfl) (st0123_1.out W2 A0 A1 A2 A3 a0 a1 a2 a3 B0 b0 (HhB.out.trans (hbc.mono HhB.out.size)) hsl (Hhs2.out.fwd hbc) (Hhs3.out.fwd hbc) (Hho0.out.below hbc))
  have st01_1 : Hid (∀ (W : World) (A0 A1 : Option Addr) (a0 a1 : Nat) (B0 : Option Addr) (b0 : Nat), Below X.heap.size X W → Sl W W.heap.size (.slice A1 F1.length a1) F1 → OwnB W (w.heap.size + 1) (.slice B0 32 b0) (sumL F0) → T 7 #[true, true, true, true, true, true, true, true, true, false, true, true, false, false, true, true, false, false, false, false] ⟨#[str t, str u, .int .i64 1, undef, undef, undef, .pointer (some ⟨w.heap.size, 0, none⟩), str E2, .int .i64 n, .bool true, .bool true, undef, undef, .bool true, str t, str E0, str E1, str u, str E2, str E2, str F0, .slice A0 F0.length a0, .slice B0 32 b0, .slice B0 16 b0, .int .i64 1, str E2, str F1, .slice A1 F1.length a1, undef, str E2, str F2, undef, undef, str E2, str F3, undef, undef, undef], []⟩ W) := by
    refine Lib.hid ?_
    intro W A0 A1 a0 a1 B0 b0 hB hs1 ho0
    rw [hT]
    show wpAnyH _ _ _ _ _ _ _ _ _
    have HhB := Lib.hid hB
    have Hhs1 := Lib.hid hs1
    have Hho0 := Lib.hid ho0
    clear hB hs1 ho0
    refine wpAnyH_all (rs := [9, 12, 16]) (by kernel_rfl) (by simp) ?_
    simp only [List.mem_cons, List.not_mem_nil, or_false, forall_eq_or_imp, forall_eq]
    refine ⟨?_, ?_, ?_⟩
    · refine wpOp_callD 28 rfl rfl rfl 18 #[.slice A1 F1.length a1] (by go_simp) ?_
      have hzW := HhB.out.size
      have hzX := HBX.out.size
      refine (refSum_any W.heap.size _ F1 W (HT.out.below (HBX.out.trans (HhB.out.mono HBX.out.size)) hG) (Nat.lt_of_lt_of_le hG (by omega)) Hhs1.out (Nat.le_refl _) (by have := HF1.out; omega)).mono ?_
      rintro e W2 ⟨v2, rfl, hO, hbc⟩
      obtain ⟨B1, b1, rfl, -, hb32, -, -⟩ := hO.sl
      rw [sumL_length] at hb32 hO ⊢
      refine ⟨_, rfl, trivial, ?_⟩
      go_frame
      exact toT hT rfl (by kernel_rfl) (st01_2.out W2 A0 A1 a0 a1 B0 B1 b0 b1 (HhB.out.trans (hbc.mono HhB.out.size)) (Hho0.out.below hbc) (hO.lower (by have := HZX.out; omega)))
    · obtain ⟨vc, W2, hcv, hbc, hsl⟩ := conv_tx F2 W (by have := HF2.out; omega)
      obtain ⟨A2, a2, rfl, -⟩ := id hsl
      refine wpOp_valueX 31 rfl rfl rfl (.slice A2 F2.length a2) W2 (by go_simp) ⟨trivial, ?_⟩
      go_frame
      exact toT hT rfl (by kernel_rfl) (st012_1.out W2 A0 A1 A2 a0 a1 a2 B0 b0 (HhB.out.trans (hbc.mono HhB.out.size)) (Hhs1.out.fwd hbc) hsl (Hho0.out.below hbc))
    · obtain ⟨vc, W2, hcv, hbc, hsl⟩ := conv_tx F3 W (by have := HF3.out; omega)
      obtain ⟨A3, a3, rfl, -⟩ := id hsl
      refine wpOp_valueX 35 rfl rfl rfl (.slice A3 F3.length a3) W2 (by go_simp) ⟨trivial, ?_⟩
      go_frame
      exact toT hT rfl (by kernel_rfl) (st013_1.out W2 A0 A1 A3 a0 a1 a3 B0 b0 (HhB.out.trans (hbc.mono HhB.out.size)) (Hhs1.out.fwd hbc) hsl (Hho0.out.below hbc))
  have st02_1 : Hid (∀ (W : World) (A0 A2 : Option Addr) (a0 a2 : Nat) (B0 : Option Addr) (b0 : Nat), Below X.heap.size X W → Sl W W.heap.size (.slice A2 F2.length a2) F2 → OwnB W (w.heap.size + 1) (.slice B0 32 b0) (sumL F0) → T 7 #[true, true, true, true, true, true, true, true, false, false, true, true, true, false, true, true, false, false, false, false] ⟨#[str t, str u, .int .i64 1, undef, undef, undef, .pointer (some ⟨w.heap.size, 0, none⟩), str E2, .int .i64 n, .bool true, .bool true, undef, undef, .bool true, str t, str E0, str E1, str u, str E2, str E2, str F0, .slice A0 F0.length a0, .slice B0 32 b0, .slice B0 16 b0, .int .i64 1, str E2, str F1, undef, undef, str E2, str F2, .slice A2 F2.length a2, undef, str E2, str F3, undef, undef, undef], []⟩ W) := by
    refine Lib.hid ?_
    intro W A0 A2 a0 a2 B0 b0 hB hs2 ho0
    rw [hT]
    show wpAnyH _ _ _ _ _ _ _ _ _
    have HhB := Lib.hid hB
    have Hhs2 := Lib.hid hs2
    have Hho0 := Lib.hid ho0
    clear hB hs2 ho0
    refine wpAnyH_all (rs := [8, 16]) (by kernel_rfl) (by simp) ?_
    simp only [List.mem_cons, List.not_mem_nil, or_false, forall_eq_or_imp, forall_eq]
    refine ⟨?_, ?_⟩
    · obtain ⟨vc, W2, hcv, hbc, hsl⟩ := conv_tx F1 W (by have := HF1.out; omega)
      obtain ⟨A1, a1, rfl, -⟩ := id hsl
      refine wpOp_valueX 27 rfl rfl rfl (.slice A1 F1.length a1) W2 (by go_simp) ⟨trivial, ?_⟩
      go_frame
      exact toT hT rfl (by kernel_rfl) (st012_1.out W2 A0 A1 A2 a0 a1 a2 B0 b0 (HhB.out.trans (hbc.mono HhB.out.size)) hsl (Hhs2.out.fwd hbc) (Hho0.out.below hbc))
    · obtain ⟨vc, W2, hcv, hbc, hsl⟩ := conv_tx F3 W (by have := HF3.out; omega)
      obtain ⟨A3, a3, rfl, -⟩ := id hsl
      refine wpOp_valueX 35 rfl rfl rfl (.slice A3 F3.length a3) W2 (by go_simp) ⟨trivial, ?_⟩
      go_frame
      exact toT hT rfl (by kernel_rfl) (st023_1.out W2 A0 A2 A3 a0 a2 a3 B0 b0 (HhB.out.trans (hbc.mono HhB.out.size)) (Hhs2.out.fwd hbc) hsl (Hho0.out.below hbc))
  have st03_1 : Hid (∀ (W : World) (A0 A3 : Option Addr) (a0 a3 : Nat) (B0 : Option Addr) (b0 : Nat), Below X.heap.size X W → Sl W W.heap.size (.slice A3 F3.length a3) F3 → OwnB W (w.heap.size + 1) (.slice B0 32 b0) (sumL F0) → T 7 #[true, true, true, true, true, true, true, true, false, false, true, true, false, false, true, true, true, false, false, false] ⟨#[str t, str u, .int .i64 1, undef, undef, undef, .pointer (some ⟨w.heap.size, 0, none⟩), str E2, .int .i64 n, .bool true, .bool true, undef, undef, .bool true, str t, str E0, str E1, str u, str E2, str E2, str F0, .slice A0 F0.length a0, .slice B0 32 b0, .slice B0 16 b0, .int .i64 1, str E2, str F1, undef, undef, str E2, str F2, undef, undef, str E2, str F3, .slice A3 F3.length a3, undef, undef], []⟩ W) := by
    refine Lib.hid ?_
    intro W A0 A3 a0 a3 B0 b0 hB hs3 ho0
    rw [hT]
    show wpAnyH _ _ _ _ _ _ _ _ _
    have HhB := Lib.hid hB
    have Hhs3 := Lib.hid hs3
    have Hho0 := Lib.hid ho0
    clear hB hs3 ho0
    refine wpAnyH_all (rs := [8, 12]) (by kernel_rfl) (by simp) ?_
    simp only [List.mem_cons, List.not_mem_nil, or_false, forall_eq_or_imp, forall_eq]
    refine ⟨?_, ?_⟩
    · obtain ⟨vc, W2, hcv, hbc, hsl⟩ := conv_tx F1 W (by have := HF1.out; omega)
      obtain ⟨A1, a1, rfl, -⟩ := id hsl
      refine wpOp_valueX 27 rfl rfl rfl (.slice A1 F1.length a1) W2 (by go_simp) ⟨trivial, ?_⟩
      go_frame
      exact toT hT rfl (by kernel_rfl) (st013_1.out W2 A0 A1 A3 a0 a1 a3 B0 b0 (HhB.out.trans (hbc.mono HhB.out.size)) hsl (Hhs3.out.fwd hbc) (Hho0.out.below hbc))
    · obtain ⟨vc, W2, hcv, hbc, hsl⟩ := conv_tx F2 W (by have := HF2.out; omega)
      obtain ⟨A2, a2, rfl, -⟩ := id hsl
      refine wpOp_valueX 31 rfl rfl rfl (.slice A2 F2.length a2) W2 (by go_simp) ⟨trivial, ?_⟩
      go_frame
      exact toT hT rfl (by kernel_rfl) (st023_1.out W2 A0 A2 A3 a0 a2 a3 B0 b0 (HhB.out.trans (hbc.mono HhB.out.size)) hsl (Hhs3.out.fwd hbc) (Hho0.out.below hbc))
  have st0_1 : Hid (∀ (W : World) (A0 : Option Addr) (a0 : Nat) (B0 : Option Addr) (b0 : Nat), Below X.heap.size X W → OwnB W (w.heap.size + 1) (.slice B0 32 b0) (sumL F0) → T 8 #[true, true, true, true, true, true, true, true, false, false, true, true, false, false, true, true, false, false, false, false] ⟨#[str t, str u, .int .i64 1, undef, undef, undef, .pointer (some ⟨w.heap.size, 0, none⟩), str E2, .int .i64 n, .bool true, .bool true, undef, undef, .bool true, str t, str E0, str E1, str u, str E2, str E2, str F0, .slice A0 F0.length a0, .slice B0 32 b0, .slice B0 16 b0, .int .i64 1, str E2, str F1, undef, undef, str E2, str F2, undef, undef, str E2, str F3, undef, undef, undef], []⟩ W) := by
    refine Lib.hid ?_
    intro W A0 a0 B0 b0 hB ho0
    rw [hT]
    show wpAnyH _ _ _ _ _ _ _ _ _
    have HhB := Lib.hid hB
    have Hho0 := Lib.hid ho0
    clear hB ho0
    refine wpAnyH_all (rs := [8, 12, 16]) (by kernel_rfl) (by simp) ?_
    simp only [List.mem_cons, List.not_mem_nil, or_false, forall_eq_or_imp, forall_eq]
    refine ⟨?_, ?_, ?_⟩
    · obtain ⟨vc, W2, hcv, hbc, hsl⟩ := conv_tx F1 W (by have := HF1.out; omega)
      obtain ⟨A1, a1, rfl, -⟩ := id hsl
      refine wpOp_valueX 27 rfl rfl rfl (.slice A1 F1.length a1) W2 (by go_simp) ⟨trivial, ?_⟩
      go_frame
      exact toT hT rfl (by kernel_rfl) (st01_1.out W2 A0 A1 a0 a1 B0 b0 (HhB.out.trans (hbc.mono HhB.out.size)) hsl (Hho0.out.below hbc))
    · obtain ⟨vc, W2, hcv, hbc, hsl⟩ := conv_tx F2 W (by have := HF2.out; omega)
      obtain ⟨A2, a2, rfl, -⟩ := id hsl
      refine wpOp_valueX 31 rfl rfl rfl (.slice A2 F2.length a2) W2 (by go_simp) ⟨trivial, ?_⟩
      go_frame
      exact toT hT rfl (by kernel_rfl) (st02_1.out W2 A0 A2 a0 a2 B0 b0 (HhB.out.trans (hbc.mono HhB.out.size)) hsl (Hho0.out.below hbc))
    · obtain ⟨vc, W2, hcv, hbc, hsl⟩ := conv_tx F3 W (by have := HF3.out; omega)
      obtain ⟨A3, a3, rfl, -⟩ := id hsl
      refine wpOp_valueX 35 rfl rfl rfl (.slice A3 F3.length a3) W2 (by go_simp) ⟨trivial, ?_⟩
      go_frame
      exact toT hT rfl (by kernel_rfl) (st03_1.out W2 A0 A3 a0 a3 B0 b0 (HhB.out.trans (hbc.mono HhB.out.size)) hsl (Hho0.out.below hbc))
  have st0123_0 : Hid (∀ (W : World) (A0 A1 A2 A3 : Option Addr) (a0 a1 a2 a3 : Nat), Below X.heap.size X W → Sl W W.heap.size (.slice A0 F0.length a0) F0 → Sl W W.heap.size (.slice A1 F1.length a1) F1 → Sl W W.heap.size (.slice A2 F2.length a2) F2 → Sl W W.heap.size (.slice A3 F3.length a3) F3 → T 7 #[true, true, true, false, false, true, true, true, true, false, true, true, true, false, true, true, true, false, false, false] ⟨#[str t, str u, .int .i64 1, undef, undef, undef, .pointer (some ⟨w.heap.size, 0, none⟩), str E2, .int .i64 n, .bool true, .bool true, undef, undef, .bool true, str t, str E0, str E1, str u, str E2, str E2, str F0, .slice A0 F0.length a0, undef, undef, .int .i64 1, str E2, str F1, .slice A1 F1.length a1, undef, str E2, str F2, .slice A2 F2.length a2, undef, str E2, str F3, .slice A3 F3.length a3, undef, undef], []⟩ W) := by
    refine Lib.hid ?_
    intro W A0 A1 A2 A3 a0 a1 a2 a3 hB hs0 hs1 hs2 hs3
    rw [hT]
    show wpAnyH _ _ _ _ _ _ _ _ _
    have HhB := Lib.hid hB
    have Hhs0 := Lib.hid hs0
    have Hhs1 := Lib.hid hs1
    have Hhs2 := Lib.hid hs2
    have Hhs3 := Lib.hid hs3
    clear hB hs0 hs1 hs2 hs3
    refine wpAnyH_all (rs := [3]) (by kernel_rfl) (by simp) ?_
    simp only [List.mem_singleton, forall_eq]
    refine wpOp_callD 22 rfl rfl rfl 18 #[.slice A0 F0.length a0] (by go_simp) ?_
    have hzW := HhB.out.size
    have hzX := HBX.out.size
    refine (refSum_any W.heap.size _ F0 W (HT.out.below (HBX.out.trans (HhB.out.mono HBX.out.size)) hG) (Nat.lt_of_lt_of_le hG (by omega)) Hhs0.out (Nat.le_refl _) (by have := HF0.out; omega)).mono ?_
    rintro e W2 ⟨v2, rfl, hO, hbc⟩
    obtain ⟨B0, b0, rfl, -, hb32, -, -⟩ := hO.sl
    rw [sumL_length] at hb32 hO ⊢
    refine ⟨_, rfl, trivial, ?_⟩
    go_frame
    have hsl := fun W => slice_hB B0 32 b0 16 (by omega) W
    refine takeH 4 23 (.slice B0 16 b0) rfl rfl (by kernel_rfl) (by kernel_rfl) (by kernel_rfl) (fun _ _ _ h => h) rfl (fun w' h => by first | (go_simp; done) | (go_simp; omega)) trivial ?_
    go_frame
    exact toT hT rfl (by kernel_rfl) (st0123_1.out W2 A0 A1 A2 A3 a0 a1 a2 a3 B0 b0 (HhB.out.trans (hbc.mono HhB.out.size)) (Hhs1.out.fwd hbc) (Hhs2.out.fwd hbc) (Hhs3.out.fwd hbc) (hO.lower (by have := HZX.out; omega)))
  have st012_0 : Hid (∀ (W : World) (A0 A1 A2 : Option Addr) (a0 a1 a2 : Nat), Below X.heap.size X W → Sl W W.heap.size (.slice A0 F0.length a0) F0 → Sl W W.heap.size (.slice A1 F1.length a1) F1 → Sl W W.heap.size (.slice A2 F2.length a2) F2 → T 8 #[true, true, true, false, false, true, true, true, true, false, true, true, true, false, true, true, false, false, false, false] ⟨#[str t, str u, .int .i64 1, undef, undef, undef, .pointer (some ⟨w.heap.size, 0, none⟩), str E2, .int .i64 n, .bool true, .bool true, undef, undef, .bool true, str t, str E0, str E1, str u, str E2, str E2, str F0, .slice A0 F0.length a0, undef, undef, .int .i64 1, str E2, str F1, .slice A1 F1.length a1, undef, str E2, str F2, .slice A2 F2.length a2, undef, str E2, str F3, undef, undef, undef], []⟩ W) := by
    refine Lib.hid ?_
    intro W A0 A1 A2 a0 a1 a2 hB hs0 hs1 hs2
    rw [hT]
    show wpAnyH _ _ _ _ _ _ _ _ _
    have HhB := Lib.hid hB
    have Hhs0 := Lib.hid hs0
    have Hhs1 := Lib.hid hs1
    have Hhs2 := Lib.hid hs2
    clear hB hs0 hs1 hs2
    refine wpAnyH_all (rs := [3, 16]) (by kernel_rfl) (by simp) ?_
    simp only [List.mem_cons, List.not_mem_nil, or_false, forall_eq_or_imp, forall_eq]
    refine ⟨?_, ?_⟩
    · refine wpOp_callD 22 rfl rfl rfl 18 #[.slice A0 F0.length a0] (by go_simp) ?_
      have hzW := HhB.out.size
      have hzX := HBX.out.size
      refine (refSum_any W.heap.size _ F0 W (HT.out.below (HBX.out.trans (HhB.out.mono HBX.out.size)) hG) (Nat.lt_of_lt_of_le hG (by omega)) Hhs0.out (Nat.le_refl _) (by have := HF0.out; omega)).mono ?_
      rintro e W2 ⟨v2, rfl, hO, hbc⟩
      obtain ⟨B0, b0, rfl, -, hb32, -, -⟩ := hO.sl
      rw [sumL_length] at hb32 hO ⊢
      refine ⟨_, rfl, trivial, ?_⟩
      go_frame
      have hsl := fun W => slice_hB B0 32 b0 16 (by omega) W
      refine takeH 4 23 (.slice B0 16 b0) rfl rfl (by kernel_rfl) (by kernel_rfl) (by kernel_rfl) (fun _ _ _ h => h) rfl (fun w' h => by first | (go_simp; done) | (go_simp; omega)) trivial ?_
      go_frame
      exact toT hT rfl (by kernel_rfl) (st012_1.out W2 A0 A1 A2 a0 a1 a2 B0 b0 (HhB.out.trans (hbc.mono HhB.out.size)) (Hhs1.out.fwd hbc) (Hhs2.out.fwd hbc) (hO.lower (by have := HZX.out; omega)))
    · obtain ⟨vc, W2, hcv, hbc, hsl⟩ := conv_tx F3 W (by have := HF3.out; omega)
      obtain ⟨A3, a3, rfl, -⟩ := id hsl
      refine wpOp_valueX 35 rfl rfl rfl (.slice A3 F3.length a3) W2 (by go_simp) ⟨trivial, ?_⟩
      go_frame
      exact toT hT rfl (by kernel_rfl) (st0123_0.out W2 A0 A1 A2 A3 a0 a1 a2 a3 (HhB.out.trans (hbc.mono HhB.out.size)) (Hhs0.out.fwd hbc) (Hhs1.out.fwd hbc) (Hhs2.out.fwd hbc) hsl)
  have st013_0 : Hid (∀ (W : World) (A0 A1 A3 : Option Addr) (a0 a1 a3 : Nat), Below X.heap.size X W → Sl W W.heap.size (.slice A0 F0.length a0) F0 → Sl W W.heap.size (.slice A1 F1.length a1) F1 → Sl W W.heap.size (.slice A3 F3.length a3) F3 → T 8 #[true, true, true, false, false, true, true, true, true, false, true, true, false, false, true, true, true, false, false, false] ⟨#[str t, str u, .int .i64 1, undef, undef, undef, .pointer (some ⟨w.heap.size, 0, none⟩), str E2, .int .i64 n, .bool true, .bool true, undef, undef, .bool true, str t, str E0, str E1, str u, str E2, str E2, str F0, .slice A0 F0.length a0, undef, undef, .int .i64 1, str E2, str F1, .slice A1 F1.length a1, undef, str E2, str F2, undef, undef, str E2, str F3, .slice A3 F3.length a3, undef, undef], []⟩ W) := by
    refine Lib.hid ?_
    intro W A0 A1 A3 a0 a1 a3 hB hs0 hs1 hs3
    rw [hT]
    show wpAnyH _ _ _ _ _ _ _ _ _
    have HhB := Lib.hid hB
    have Hhs0 := Lib.hid hs0
    have Hhs1 := Lib.hid hs1
    have Hhs3 := Lib.hid hs3
    clear hB hs0 hs1 hs3
    refine wpAnyH_all (rs := [3, 12]) (by kernel_rfl) (by simp) ?_
    simp only [List.mem_cons, List.not_mem_nil, or_false, forall_eq_or_imp, forall_eq]
    refine ⟨?_, ?_⟩
    · refine wpOp_callD 22 rfl rfl rfl 18 #[.slice A0 F0.length a0] (by go_simp) ?_
      have hzW := HhB.out.size
      have hzX := HBX.out.size
      refine (refSum_any W.heap.size _ F0 W (HT.out.below (HBX.out.trans (HhB.out.mono HBX.out.size)) hG) (Nat.lt_of_lt_of_le hG (by omega)) Hhs0.out (Nat.le_refl _) (by have := HF0.out; omega)).mono ?_
      rintro e W2 ⟨v2, rfl, hO, hbc⟩
      obtain ⟨B0, b0, rfl, -, hb32, -, -⟩ := hO.sl
      rw [sumL_length] at hb32 hO ⊢
      refine ⟨_, rfl, trivial, ?_⟩
      go_frame
      have hsl := fun W => slice_hB B0 32 b0 16 (by omega) W
      refine takeH 4 23 (.slice B0 16 b0) rfl rfl (by kernel_rfl) (by kernel_rfl) (by kernel_rfl) (fun _ _ _ h => h) rfl (fun w' h => by first | (go_simp; done) | (go_simp; omega)) trivial ?_
      go_frame
      exact toT hT rfl (by kernel_rfl) (st013_1.out W2 A0 A1 A3 a0 a1 a3 B0 b0 (HhB.out.trans (hbc.mono HhB.out.size)) (Hhs1.out.fwd hbc) (Hhs3.out.fwd hbc) (hO.lower (by have := HZX.out; omega)))
    · obtain ⟨vc, W2, hcv, hbc, hsl⟩ := conv_tx F2 W (by have := HF2.out; omega)
      obtain ⟨A2, a2, rfl, -⟩ := id hsl
      refine wpOp_valueX 31 rfl rfl rfl (.slice A2 F2.length a2) W2 (by go_simp) ⟨trivial, ?_⟩
      go_frame
      exact toT hT rfl (by kernel_rfl) (st0123_0.out W2 A0 A1 A2 A3 a0 a1 a2 a3 (HhB.out.trans (hbc.mono HhB.out.size)) (Hhs0.out.fwd hbc) (Hhs1.out.fwd hbc) hsl (Hhs3.out.fwd hbc))
  have st023_0 : Hid (∀ (W : World) (A0 A2 A3 : Option Addr) (a0 a2 a3 : Nat), Below X.heap.size X W → Sl W W.heap.size (.slice A0 F0.length a0) F0 → Sl W W.heap.size (.slice A2 F2.length a2) F2 → Sl W W.heap.size (.slice A3 F3.length a3) F3 → T 8 #[true, true, true, false, false, true, true, true, false, false, true, true, true, false, true, true, true, false, false, false] ⟨#[str t, str u, .int .i64 1, undef, undef, undef, .pointer (some ⟨w.heap.size, 0, none⟩), str E2, .int .i64 n, .bool true, .bool true, undef, undef, .bool true, str t, str E0, str E1, str u, str E2, str E2, str F0, .slice A0 F0.length a0, undef, undef, .int .i64 1, str E2, str F1, undef, undef, str E2, str F2, .slice A2 F2.length a2, undef, str E2, str F3, .slice A3 F3.length a3, undef, undef], []⟩ W) := by
    refine Lib.hid ?_
    intro W A0 A2 A3 a0 a2 a3 hB hs0 hs2 hs3
    rw [hT]
    show wpAnyH _ _ _ _ _ _ _ _ _
    have HhB := Lib.hid hB
    have Hhs0 := Lib.hid hs0
    have Hhs2 := Lib.hid hs2
    have Hhs3 := Lib.hid hs3
    clear hB hs0 hs2 hs3
    refine wpAnyH_all (rs := [3, 8]) (by kernel_rfl) (by simp) ?_
    simp only [List.mem_cons, List.not_mem_nil, or_false, forall_eq_or_imp, forall_eq]
    refine ⟨?_, ?_⟩
    · refine wpOp_callD 22 rfl rfl rfl 18 #[.slice A0 F0.length a0] (by go_simp) ?_
      have hzW := HhB.out.size
      have hzX := HBX.out.size
      refine (refSum_any W.heap.size _ F0 W (HT.out.below (HBX.out.trans (HhB.out.mono HBX.out.size)) hG) (Nat.lt_of_lt_of_le hG (by omega)) Hhs0.out (Nat.le_refl _) (by have := HF0.out; omega)).mono ?_
      rintro e W2 ⟨v2, rfl, hO, hbc⟩
      obtain ⟨B0, b0, rfl, -, hb32, -, -⟩ := hO.sl
      rw [sumL_length] at hb32 hO ⊢
      refine ⟨_, rfl, trivial, ?_⟩
      go_frame
      have hsl := fun W => slice_hB B0 32 b0 16 (by omega) W
      refine takeH 4 23 (.slice B0 16 b0) rfl rfl (by kernel_rfl) (by kernel_rfl) (by kernel_rfl) (fun _ _ _ h => h) rfl (fun w' h => by first | (go_simp; done) | (go_simp; omega)) trivial ?_
      go_frame
      exact toT hT rfl (by kernel_rfl) (st023_1.out W2 A0 A2 A3 a0 a2 a3 B0 b0 (HhB.out.trans (hbc.mono HhB.out.size)) (Hhs2.out.fwd hbc) (Hhs3.out.fwd hbc) (hO.lower (by have := HZX.out; omega)))
    · obtain ⟨vc, W2, hcv, hbc, hsl⟩ := conv_tx F1 W (by have := HF1.out; omega)
      obtain ⟨A1, a1, rfl, -⟩ := id hsl
      refine wpOp_valueX 27 rfl rfl rfl (.slice A1 F1.length a1) W2 (by go_simp) ⟨trivial, ?_⟩
      go_frame
      exact toT hT rfl (by kernel_rfl) (st0123_0.out W2 A0 A1 A2 A3 a0 a1 a2 a3 (HhB.out.trans (hbc.mono HhB.out.size)) (Hhs0.out.fwd hbc) hsl (Hhs2.out.fwd hbc) (Hhs3.out.fwd hbc))
  have st123_0 : Hid (∀ (W : World) (A1 A2 A3 : Option Addr) (a1 a2 a3 : Nat), Below X.heap.size X W → Sl W W.heap.size (.slice A1 F1.length a1) F1 → Sl W W.heap.size (.slice A2 F2.length a2) F2 → Sl W W.heap.size (.slice A3 F3.length a3) F3 → T 8 #[true, true, false, false, false, true, true, true, true, false, true, true, true, false, true, true, true, false, false, false] ⟨#[str t, str u, .int .i64 1, undef, undef, undef, .pointer (some ⟨w.heap.size, 0, none⟩), str E2, .int .i64 n, .bool true, .bool true, undef, undef, .bool true, str t, str E0, str E1, str u, str E2, str E2, str F0, undef, undef, undef, .int .i64 1, str E2, str F1, .slice A1 F1.length a1, undef, str E2, str F2, .slice A2 F2.length a2, undef, str E2, str F3, .slice A3 F3.length a3, undef, undef], []⟩ W) := by
    refine Lib.hid ?_
    intro W A1 A2 A3 a1 a2 a3 hB hs1 hs2 hs3
    rw [hT]
    show wpAnyH _ _ _ _ _ _ _ _ _
    have HhB := Lib.hid hB
    have Hhs1 := Lib.hid hs1
    have Hhs2 := Lib.hid hs2
    have Hhs3 := Lib.hid hs3
    clear hB hs1 hs2 hs3
    refine wpAnyH_all (rs := [2]) (by kernel_rfl) (by simp) ?_
    simp only [List.mem_singleton, forall_eq]
    obtain ⟨vc, W2, hcv, hbc, hsl⟩ := conv_tx F0 W (by have := HF0.out; omega)
    obtain ⟨A0, a0, rfl, -⟩ := id hsl
    refine wpOp_valueX 21 rfl rfl rfl (.slice A0 F0.length a0) W2 (by go_simp) ⟨trivial, ?_⟩
    go_frame
    exact toT hT rfl (by kernel_rfl) (st0123_0.out W2 A0 A1 A2 A3 a0 a1 a2 a3 (HhB.out.trans (hbc.mono HhB.out.size)) hsl (Hhs1.out.fwd hbc) (Hhs2.out.fwd hbc) (Hhs3.out.fwd hbc))
  have st01_0 : Hid (∀ (W : World) (A0 A1 : Option Addr) (a0 a1 : Nat), Below X.heap.size X W → Sl W W.heap.size (.slice A0 F0.length a0) F0 → Sl W W.heap.size (.slice A1 F1.length a1) F1 → T 9 #[true, true, true, false, false, true, true, true, true, false, true, true, false, false, true, true, false, false, false, false] ⟨#[str t, str u, .int .i64 1, undef, undef, undef, .pointer (some ⟨w.heap.size, 0, none⟩), str E2, .int .i64 n, .bool true, .bool true, undef, undef, .bool true, str t, str E0, str E1, str u, str E2, str E2, str F0, .slice A0 F0.length a0, undef, undef, .int .i64 1, str E2, str F1, .slice A1 F1.length a1, undef, str E2, str F2, undef, undef, str E2, str F3, undef, undef, undef], []⟩ W) := by
    refine Lib.hid ?_
    intro W A0 A1 a0 a1 hB hs0 hs1
    rw [hT]
    show wpAnyH _ _ _ _ _ _ _ _ _
    have HhB := Lib.hid hB
    have Hhs0 := Lib.hid hs0
    have Hhs1 := Lib.hid hs1
    clear hB hs0 hs1
    refine wpAnyH_all (rs := [3, 12, 16]) (by kernel_rfl) (by simp) ?_
    simp only [List.mem_cons, List.not_mem_nil, or_false, forall_eq_or_imp, forall_eq]
    refine ⟨?_, ?_, ?_⟩
    · refine wpOp_callD 22 rfl rfl rfl 18 #[.slice A0 F0.length a0] (by go_simp) ?_
      have hzW := HhB.out.size
      have hzX := HBX.out.size
      refine (refSum_any W.heap.size _ F0 W (HT.out.below (HBX.out.trans (HhB.out.mono HBX.out.size)) hG) (Nat.lt_of_lt_of_le hG (by omega)) Hhs0.out (Nat.le_refl _) (by have := HF0.out; omega)).mono ?_
      rintro e W2 ⟨v2, rfl, hO, hbc⟩
      obtain ⟨B0, b0, rfl, -, hb32, -, -⟩ := hO.sl
      rw [sumL_length] at hb32 hO ⊢
      refine ⟨_, rfl, trivial, ?_⟩
      go_frame
      have hsl := fun W => slice_hB B0 32 b0 16 (by omega) W
      refine takeH 4 23 (.slice B0 16 b0) rfl rfl (by kernel_rfl) (by kernel_rfl) (by kernel_rfl) (fun _ _ _ h => h) rfl (fun w' h => by first | (go_simp; done) | (go_simp; omega)) trivial ?_
      go_frame
      exact toT hT rfl (by kernel_rfl) (st01_1.out W2 A0 A1 a0 a1 B0 b0 (HhB.out.trans (hbc.mono HhB.out.size)) (Hhs1.out.fwd hbc) (hO.lower (by have := HZX.out; omega)))
    · obtain ⟨vc, W2, hcv, hbc, hsl⟩ := conv_tx F2 W (by have := HF2.out; omega)
      obtain ⟨A2, a2, rfl, -⟩ := id hsl
      refine wpOp_valueX 31 rfl rfl rfl (.slice A2 F2.length a2) W2 (by go_simp) ⟨trivial, ?_⟩
      go_frame
      exact toT hT rfl (by kernel_rfl) (st012_0.out W2 A0 A1 A2 a0 a1 a2 (HhB.out.trans (hbc.mono HhB.out.size)) (Hhs0.out.fwd hbc) (Hhs1.out.fwd hbc) hsl)
    · obtain ⟨vc, W2, hcv, hbc, hsl⟩ := conv_tx F3 W (by have := HF3.out; omega)
      obtain ⟨A3, a3, rfl, -⟩ := id hsl
      refine wpOp_valueX 35 rfl rfl rfl (.slice A3 F3.length a3) W2 (by go_simp) ⟨trivial, ?_⟩
      go_frame
      exact toT hT rfl (by kernel_rfl) (st013_0.out W2 A0 A1 A3 a0 a1 a3 (HhB.out.trans (hbc.mono HhB.out.size)) (Hhs0.out.fwd hbc) (Hhs1.out.fwd hbc) hsl)
  have st02_0 : Hid (∀ (W : World) (A0 A2 : Option Addr) (a0 a2 : Nat), Below X.heap.size X W → Sl W W.heap.size (.slice A0 F0.length a0) F0 → Sl W W.heap.size (.slice A2 F2.length a2) F2 → T 9 #[true, true, true, false, false, true, true, true, false, false, true, true, true, false, true, true, false, false, false, false] ⟨#[str t, str u, .int .i64 1, undef, undef, undef, .pointer (some ⟨w.heap.size, 0, none⟩), str E2, .int .i64 n, .bool true, .bool true, undef, undef, .bool true, str t, str E0, str E1, str u, str E2, str E2, str F0, .slice A0 F0.length a0, undef, undef, .int .i64 1, str E2, str F1, undef, undef, str E2, str F2, .slice A2 F2.length a2, undef, str E2, str F3, undef, undef, undef], []⟩ W) := by
    refine Lib.hid ?_
    intro W A0 A2 a0 a2 hB hs0 hs2
    rw [hT]
    show wpAnyH _ _ _ _ _ _ _ _ _
    have HhB := Lib.hid hB
    have Hhs0 := Lib.hid hs0
    have Hhs2 := Lib.hid hs2
    clear hB hs0 hs2
    refine wpAnyH_all (rs := [3, 8, 16]) (by kernel_rfl) (by simp) ?_
    simp only [List.mem_cons, List.not_mem_nil, or_false, forall_eq_or_imp, forall_eq]
    refine ⟨?_, ?_, ?_⟩
    · refine wpOp_callD 22 rfl rfl rfl 18 #[.slice A0 F0.length a0] (by go_simp) ?_
      have hzW := HhB.out.size
      have hzX := HBX.out.size
      refine (refSum_any W.heap.size _ F0 W (HT.out.below (HBX.out.trans (HhB.out.mono HBX.out.size)) hG) (Nat.lt_of_lt_of_le hG (by omega)) Hhs0.out (Nat.le_refl _) (by have := HF0.out; omega)).mono ?_
      rintro e W2 ⟨v2, rfl, hO, hbc⟩
      obtain ⟨B0, b0, rfl, -, hb32, -, -⟩ := hO.sl
      rw [sumL_length] at hb32 hO ⊢
      refine ⟨_, rfl, trivial, ?_⟩
      go_frame
      have hsl := fun W => slice_hB B0 32 b0 16 (by omega) W
      refine takeH 4 23 (.slice B0 16 b0) rfl rfl (by kernel_rfl) (by kernel_rfl) (by kernel_rfl) (fun _ _ _ h => h) rfl (fun w' h => by first | (go_simp; done) | (go_simp; omega)) trivial ?_
      go_frame
      exact toT hT rfl (by kernel_rfl) (st02_1.out W2 A0 A2 a0 a2 B0 b0 (HhB.out.trans (hbc.mono HhB.out.size)) (Hhs2.out.fwd hbc) (hO.lower (by have := HZX.out; omega)))
    · obtain ⟨vc, W2, hcv, hbc, hsl⟩ := conv_tx F1 W (by have := HF1.out; omega)
      obtain ⟨A1, a1, rfl, -⟩ := id hsl
      refine wpOp_valueX 27 rfl rfl rfl (.slice A1 F1.length a1) W2 (by go_simp) ⟨trivial, ?_⟩
      go_frame
      exact toT hT rfl (by kernel_rfl) (st012_0.out W2 A0 A1 A2 a0 a1 a2 (HhB.out.trans (hbc.mono HhB.out.size)) (Hhs0.out.fwd hbc) hsl (Hhs2.out.fwd hbc))
    · obtain ⟨vc, W2, hcv, hbc, hsl⟩ := conv_tx F3 W (by have := HF3.out; omega)
      obtain ⟨A3, a3, rfl, -⟩ := id hsl
      refine wpOp_valueX 35 rfl rfl rfl (.slice A3 F3.length a3) W2 (by go_simp) ⟨trivial, ?_⟩
      go_frame
      exact toT hT rfl (by kernel_rfl) (st023_0.out W2 A0 A2 A3 a0 a2 a3 (HhB.out.trans (hbc.mono HhB.out.size)) (Hhs0.out.fwd hbc) (Hhs2.out.fwd hbc) hsl)
  have st03_0 : Hid (∀ (W : World) (A0 A3 : Option Addr) (a0 a3 : Nat), Below X.heap.size X W → Sl W W.heap.size (.slice A0 F0.length a0) F0 → Sl W W.heap.size (.slice A3 F3.length a3) F3 → T 9 #[true, true, true, false, false, true, true, true, false, false, true, true, false, false, true, true, true, false, false, false] ⟨#[str t, str u, .int .i64 1, undef, undef, undef, .pointer (some ⟨w.heap.size, 0, none⟩), str E2, .int .i64 n, .bool true, .bool true, undef, undef, .bool true, str t, str E0, str E1, str u, str E2, str E2, str F0, .slice A0 F0.length a0, undef, undef, .int .i64 1, str E2, str F1, undef, undef, str E2, str F2, undef, undef, str E2, str F3, .slice A3 F3.length a3, undef, undef], []⟩ W) := by
    refine Lib.hid ?_
    intro W A0 A3 a0 a3 hB hs0 hs3
    rw [hT]
    show wpAnyH _ _ _ _ _ _ _ _ _
    have HhB := Lib.hid hB
    have Hhs0 := Lib.hid hs0
    have Hhs3 := Lib.hid hs3
    clear hB hs0 hs3
    refine wpAnyH_all (rs := [3, 8, 12]) (by kernel_rfl) (by simp) ?_
    simp only [List.mem_cons, List.not_mem_nil, or_false, forall_eq_or_imp, forall_eq]
    refine ⟨?_, ?_, ?_⟩
    · refine wpOp_callD 22 rfl rfl rfl 18 #[.slice A0 F0.length a0] (by go_simp) ?_
      have hzW := HhB.out.size
      have hzX := HBX.out.size
      refine (refSum_any W.heap.size _ F0 W (HT.out.below (HBX.out.trans (HhB.out.mono HBX.out.size)) hG) (Nat.lt_of_lt_of_le hG (by omega)) Hhs0.out (Nat.le_refl _) (by have := HF0.out; omega)).mono ?_
      rintro e W2 ⟨v2, rfl, hO, hbc⟩
      obtain ⟨B0, b0, rfl, -, hb32, -, -⟩ := hO.sl
      rw [sumL_length] at hb32 hO ⊢
      refine ⟨_, rfl, trivial, ?_⟩
      go_frame
      have hsl := fun W => slice_hB B0 32 b0 16 (by omega) W
      refine takeH 4 23 (.slice B0 16 b0) rfl rfl (by kernel_rfl) (by kernel_rfl) (by kernel_rfl) (fun _ _ _ h => h) rfl (fun w' h => by first | (go_simp; done) | (go_simp; omega)) trivial ?_
      go_frame
      exact toT hT rfl (by kernel_rfl) (st03_1.out W2 A0 A3 a0 a3 B0 b0 (HhB.out.trans (hbc.mono HhB.out.size)) (Hhs3.out.fwd hbc) (hO.lower (by have := HZX.out; omega)))
    · obtain ⟨vc, W2, hcv, hbc, hsl⟩ := conv_tx F1 W (by have := HF1.out; omega)
      obtain ⟨A1, a1, rfl, -⟩ := id hsl
      refine wpOp_valueX 27 rfl rfl rfl (.slice A1 F1.length a1) W2 (by go_simp) ⟨trivial, ?_⟩
      go_frame
      exact toT hT rfl (by kernel_rfl) (st013_0.out W2 A0 A1 A3 a0 a1 a3 (HhB.out.trans (hbc.mono HhB.out.size)) (Hhs0.out.fwd hbc) hsl (Hhs3.out.fwd hbc))
    · obtain ⟨vc, W2, hcv, hbc, hsl⟩ := conv_tx F2 W (by have := HF2.out; omega)
      obtain ⟨A2, a2, rfl, -⟩ := id hsl
      refine wpOp_valueX 31 rfl rfl rfl (.slice A2 F2.length a2) W2 (by go_simp) ⟨trivial, ?_⟩
      go_frame
      exact toT hT rfl (by kernel_rfl) (st023_0.out W2 A0 A2 A3 a0 a2 a3 (HhB.out.trans (hbc.mono HhB.out.size)) (Hhs0.out.fwd hbc) hsl (Hhs3.out.fwd hbc))
  have st12_0 : Hid (∀ (W : World) (A1 A2 : Option Addr) (a1 a2 : Nat), Below X.heap.size X W → Sl W W.heap.size (.slice A1 F1.length a1) F1 → Sl W W.heap.size (.slice A2 F2.length a2) F2 → T 9 #[true, true, false, false, false, true, true, true, true, false, true, true, true, false, true, true, false, false, false, false] ⟨#[str t, str u, .int .i64 1, undef, undef, undef, .pointer (some ⟨w.heap.size, 0, none⟩), str E2, .int .i64 n, .bool true, .bool true, undef, undef, .bool true, str t, str E0, str E1, str u, str E2, str E2, str F0, undef, undef, undef, .int .i64 1, str E2, str F1, .slice A1 F1.length a1, undef, str E2, str F2, .slice A2 F2.length a2, undef, str E2, str F3, undef, undef, undef], []⟩ W) := by
    refine Lib.hid ?_
    intro W A1 A2 a1 a2 hB hs1 hs2
    rw [hT]
    show wpAnyH _ _ _ _ _ _ _ _ _
    have HhB := Lib.hid hB
    have Hhs1 := Lib.hid hs1
    have Hhs2 := Lib.hid hs2
    clear hB hs1 hs2
    refine wpAnyH_all (rs := [2, 16]) (by kernel_rfl) (by simp) ?_
    simp only [List.mem_cons, List.not_mem_nil, or_false, forall_eq_or_imp, forall_eq]
    refine ⟨?_, ?_⟩
    · obtain ⟨vc, W2, hcv, hbc, hsl⟩ := conv_tx F0 W (by have := HF0.out; omega)
      obtain ⟨A0, a0, rfl, -⟩ := id hsl
      refine wpOp_valueX 21 rfl rfl rfl (.slice A0 F0.length a0) W2 (by go_simp) ⟨trivial, ?_⟩
      go_frame
      exact toT hT rfl (by kernel_rfl) (st012_0.out W2 A0 A1 A2 a0 a1 a2 (HhB.out.trans (hbc.mono HhB.out.size)) hsl (Hhs1.out.fwd hbc) (Hhs2.out.fwd hbc))
    · obtain ⟨vc, W2, hcv, hbc, hsl⟩ := conv_tx F3 W (by have := HF3.out; omega)
      obtain ⟨A3, a3, rfl, -⟩ := id hsl
      refine wpOp_valueX 35 rfl rfl rfl (.slice A3 F3.length a3) W2 (by go_simp) ⟨trivial, ?_⟩
      go_frame
      exact toT hT rfl (by kernel_rfl) (st123_0.out W2 A1 A2 A3 a1 a2 a3 (HhB.out.trans (hbc.mono HhB.out.size)) (Hhs1.out.fwd hbc) (Hhs2.out.fwd hbc) hsl)
  have st13_0 : Hid (∀ (W : World) (A1 A3 : Option Addr) (a1 a3 : Nat), Below X.heap.size X W → Sl W W.heap.size (.slice A1 F1.length a1) F1 → Sl W W.heap.size (.slice A3 F3.length a3) F3 → T 9 #[true, true, false, false, false, true, true, true, true, false, true, true, false, false, true, true, true, false, false, false] ⟨#[str t, str u, .int .i64 1, undef, undef, undef, .pointer (some ⟨w.heap.size, 0, none⟩), str E2, .int .i64 n, .bool true, .bool true, undef, undef, .bool true, str t, str E0, str E1, str u, str E2, str E2, str F0, undef, undef, undef, .int .i64 1, str E2, str F1, .slice A1 F1.length a1, undef, str E2, str F2, undef, undef, str E2, str F3, .slice A3 F3.length a3, undef, undef], []⟩ W) := by
    refine Lib.hid ?_
    intro W A1 A3 a1 a3 hB hs1 hs3
    rw [hT]
    show wpAnyH _ _ _ _ _ _ _ _ _
    have HhB := Lib.hid hB
    have Hhs1 := Lib.hid hs1
    have Hhs3 := Lib.hid hs3
    clear hB hs1 hs3
    refine wpAnyH_all (rs := [2, 12]) (by kernel_rfl) (by simp) ?_
    simp only [List.mem_cons, List.not_mem_nil, or_false, forall_eq_or_imp, forall_eq]
    refine ⟨?_, ?_⟩
    · obtain ⟨vc, W2, hcv, hbc, hsl⟩ := conv_tx F0 W (by have := HF0.out; omega)
      obtain ⟨A0, a0, rfl, -⟩ := id hsl
      refine wpOp_valueX 21 rfl rfl rfl (.slice A0 F0.length a0) W2 (by go_simp) ⟨trivial, ?_⟩
      go_frame
      exact toT hT rfl (by kernel_rfl) (st013_0.out W2 A0 A1 A3 a0 a1 a3 (HhB.out.trans (hbc.mono HhB.out.size)) hsl (Hhs1.out.fwd hbc) (Hhs3.out.fwd hbc))
    · obtain ⟨vc, W2, hcv, hbc, hsl⟩ := conv_tx F2 W (by have := HF2.out; omega)
      obtain ⟨A2, a2, rfl, -⟩ := id hsl
      refine wpOp_valueX 31 rfl rfl rfl (.slice A2 F2.length a2) W2 (by go_simp) ⟨trivial, ?_⟩
      go_frame
      exact toT hT rfl (by kernel_rfl) (st123_0.out W2 A1 A2 A3 a1 a2 a3 (HhB.out.trans (hbc.mono HhB.out.size)) (Hhs1.out.fwd hbc) hsl (Hhs3.out.fwd hbc))
  have st23_0 : Hid (∀ (W : World) (A2 A3 : Option Addr) (a2 a3 : Nat), Below X.heap.size X W → Sl W W.heap.size (.slice A2 F2.length a2) F2 → Sl W W.heap.size (.slice A3 F3.length a3) F3 → T 9 #[true, true, false, false, false, true, true, true, false, false, true, true, true, false, true, true, true, false, false, false] ⟨#[str t, str u, .int .i64 1, undef, undef, undef, .pointer (some ⟨w.heap.size, 0, none⟩), str E2, .int .i64 n, .bool true, .bool true, undef, undef, .bool true, str t, str E0, str E1, str u, str E2, str E2, str F0, undef, undef, undef, .int .i64 1, str E2, str F1, undef, undef, str E2, str F2, .slice A2 F2.length a2, undef, str E2, str F3, .slice A3 F3.length a3, undef, undef], []⟩ W) := by
    refine Lib.hid ?_
    intro W A2 A3 a2 a3 hB hs2 hs3
    rw [hT]
    show wpAnyH _ _ _ _ _ _ _ _ _
    have HhB := Lib.hid hB
    have Hhs2 := Lib.hid hs2
    have Hhs3 := Lib.hid hs3
    clear hB hs2 hs3
    refine wpAnyH_all (rs := [2, 8]) (by kernel_rfl) (by simp) ?_
    simp only [List.mem_cons, List.not_mem_nil, or_false, forall_eq_or_imp, forall_eq]
    refine ⟨?_, ?_⟩
    · obtain ⟨vc, W2, hcv, hbc, hsl⟩ := conv_tx F0 W (by have := HF0.out; omega)
      obtain ⟨A0, a0, rfl, -⟩ := id hsl
      refine wpOp_valueX 21 rfl rfl rfl (.slice A0 F0.length a0) W2 (by go_simp) ⟨trivial, ?_⟩
      go_frame
      exact toT hT rfl (by kernel_rfl) (st023_0.out W2 A0 A2 A3 a0 a2 a3 (HhB.out.trans (hbc.mono HhB.out.size)) hsl (Hhs2.out.fwd hbc) (Hhs3.out.fwd hbc))
    · obtain ⟨vc, W2, hcv, hbc, hsl⟩ := conv_tx F1 W (by have := HF1.out; omega)
      obtain ⟨A1, a1, rfl, -⟩ := id hsl
      refine wpOp_valueX 27 rfl rfl rfl (.slice A1 F1.length a1) W2 (by go_simp) ⟨trivial, ?_⟩
      go_frame
      exact toT hT rfl (by kernel_rfl) (st123_0.out W2 A1 A2 A3 a1 a2 a3 (HhB.out.trans (hbc.mono HhB.out.size)) hsl (Hhs2.out.fwd hbc) (Hhs3.out.fwd hbc))
  have st0_0 : Hid (∀ (W : World) (A0 : Option Addr) (a0 : Nat), Below X.heap.size X W → Sl W W.heap.size (.slice A0 F0.length a0) F0 → T 10 #[true, true, true, false, false, true, true, true, false, false, true, true, false, false, true, true, false, false, false, false] ⟨#[str t, str u, .int .i64 1, undef, undef, undef, .pointer (some ⟨w.heap.size, 0, none⟩), str E2, .int .i64 n, .bool true, .bool true, undef, undef, .bool true, str t, str E0, str E1, str u, str E2, str E2, str F0, .slice A0 F0.length a0, undef, undef, .int .i64 1, str E2, str F1, undef, undef, str E2, str F2, undef, undef, str E2, str F3, undef, undef, undef], []⟩ W) := by
    refine Lib.hid ?_
    intro W A0 a0 hB hs0
    rw [hT]
    show wpAnyH _ _ _ _ _ _ _ _ _
    have HhB := Lib.hid hB
    have Hhs0 := Lib.hid hs0
    clear hB hs0
    refine wpAnyH_all (rs := [3, 8, 12, 16]) (by kernel_rfl) (by simp) ?_
    simp only [List.mem_cons, List.not_mem_nil, or_false, forall_eq_or_imp, forall_eq]
    refine ⟨?_, ?_, ?_, ?_⟩
    · refine wpOp_callD 22 rfl rfl rfl 18 #[.slice A0 F0.length a0] (by go_simp) ?_
      have hzW := HhB.out.size
      have hzX := HBX.out.size
      refine (refSum_any W.heap.size _ F0 W (HT.out.below (HBX.out.trans (HhB.out.mono HBX.out.size)) hG) (Nat.lt_of_lt_of_le hG (by omega)) Hhs0.out (Nat.le_refl _) (by have := HF0.out; omega)).mono ?_
      rintro e W2 ⟨v2, rfl, hO, hbc⟩
      obtain ⟨B0, b0, rfl, -, hb32, -, -⟩ := hO.sl
      rw [sumL_length] at hb32 hO ⊢
      refine ⟨_, rfl, trivial, ?_⟩
      go_frame
      have hsl := fun W => slice_hB B0 32 b0 16 (by omega) W
      refine takeH 4 23 (.slice B0 16 b0) rfl rfl (by kernel_rfl) (by kernel_rfl) (by kernel_rfl) (fun _ _ _ h => h) rfl (fun w' h => by first | (go_simp; done) | (go_simp; omega)) trivial ?_
      go_frame
      exact toT hT rfl (by kernel_rfl) (st0_1.out W2 A0 a0 B0 b0 (HhB.out.trans (hbc.mono HhB.out.size)) (hO.lower (by have := HZX.out; omega)))
    · obtain ⟨vc, W2, hcv, hbc, hsl⟩ := conv_tx F1 W (by have := HF1.out; omega)
      obtain ⟨A1, a1, rfl, -⟩ := id hsl
      refine wpOp_valueX 27 rfl rfl rfl (.slice A1 F1.length a1) W2 (by go_simp) ⟨trivial, ?_⟩
      go_frame
      exact toT hT rfl (by kernel_rfl) (st01_0.out W2 A0 A1 a0 a1 (HhB.out.trans (hbc.mono HhB.out.size)) (Hhs0.out.fwd hbc) hsl)
    · obtain ⟨vc, W2, hcv, hbc, hsl⟩ := conv_tx F2 W (by have := HF2.out; omega)
      obtain ⟨A2, a2, rfl, -⟩ := id hsl
      refine wpOp_valueX 31 rfl rfl rfl (.slice A2 F2.length a2) W2 (by go_simp) ⟨trivial, ?_⟩
      go_frame
      exact toT hT rfl (by kernel_rfl) (st02_0.out W2 A0 A2 a0 a2 (HhB.out.trans (hbc.mono HhB.out.size)) (Hhs0.out.fwd hbc) hsl)
    · obtain ⟨vc, W2, hcv, hbc, hsl⟩ := conv_tx F3 W (by have := HF3.out; omega)
      obtain ⟨A3, a3, rfl, -⟩ := id hsl
      refine wpOp_valueX 35 rfl rfl rfl (.slice A3 F3.length a3) W2 (by go_simp) ⟨trivial, ?_⟩
      go_frame
      exact toT hT rfl (by kernel_rfl) (st03_0.out W2 A0 A3 a0 a3 (HhB.out.trans (hbc.mono HhB.out.size)) (Hhs0.out.fwd hbc) hsl)
  have st1_0 : Hid (∀ (W : World) (A1 : Option Addr) (a1 : Nat), Below X.heap.size X W → Sl W W.heap.size (.slice A1 F1.length a1) F1 → T 10 #[true, true, false, false, false, true, true, true, true, false, true, true, false, false, true, true, false, false, false, false] ⟨#[str t, str u, .int .i64 1, undef, undef, undef, .pointer (some ⟨w.heap.size, 0, none⟩), str E2, .int .i64 n, .bool true, .bool true, undef, undef, .bool true, str t, str E0, str E1, str u, str E2, str E2, str F0, undef, undef, undef, .int .i64 1, str E2, str F1, .slice A1 F1.length a1, undef, str E2, str F2, undef, undef, str E2, str F3, undef, undef, undef], []⟩ W) := by
    refine Lib.hid ?_
    intro W A1 a1 hB hs1
    rw [hT]
    show wpAnyH _ _ _ _ _ _ _ _ _
    have HhB := Lib.hid hB
    have Hhs1 := Lib.hid hs1
    clear hB hs1
    refine wpAnyH_all (rs := [2, 12, 16]) (by kernel_rfl) (by simp) ?_
    simp only [List.mem_cons, List.not_mem_nil, or_false, forall_eq_or_imp, forall_eq]
    refine ⟨?_, ?_, ?_⟩
    · obtain ⟨vc, W2, hcv, hbc, hsl⟩ := conv_tx F0 W (by have := HF0.out; omega)
      obtain ⟨A0, a0, rfl, -⟩ := id hsl
      refine wpOp_valueX 21 rfl rfl rfl (.slice A0 F0.length a0) W2 (by go_simp) ⟨trivial, ?_⟩
      go_frame
      exact toT hT rfl (by kernel_rfl) (st01_0.out W2 A0 A1 a0 a1 (HhB.out.trans (hbc.mono HhB.out.size)) hsl (Hhs1.out.fwd hbc))
    · obtain ⟨vc, W2, hcv, hbc, hsl⟩ := conv_tx F2 W (by have := HF2.out; omega)
      obtain ⟨A2, a2, rfl, -⟩ := id hsl
      refine wpOp_valueX 31 rfl rfl rfl (.slice A2 F2.length a2) W2 (by go_simp) ⟨trivial, ?_⟩
      go_frame
      exact toT hT rfl (by kernel_rfl) (st12_0.out W2 A1 A2 a1 a2 (HhB.out.trans (hbc.mono HhB.out.size)) (Hhs1.out.fwd hbc) hsl)
    · obtain ⟨vc, W2, hcv, hbc, hsl⟩ := conv_tx F3 W (by have := HF3.out; omega)
      obtain ⟨A3, a3, rfl, -⟩ := id hsl
      refine wpOp_valueX 35 rfl rfl rfl (.slice A3 F3.length a3) W2 (by go_simp) ⟨trivial, ?_⟩
      go_frame
      exact toT hT rfl (by kernel_rfl) (st13_0.out W2 A1 A3 a1 a3 (HhB.out.trans (hbc.mono HhB.out.size)) (Hhs1.out.fwd hbc) hsl)
  have st2_0 : Hid (∀ (W : World) (A2 : Option Addr) (a2 : Nat), Below X.heap.size X W → Sl W W.heap.size (.slice A2 F2.length a2) F2 → T 10 #[true, true, false, false, false, true, true, true, false, false, true, true, true, false, true, true, false, false, false, false] ⟨#[str t, str u, .int .i64 1, undef, undef, undef, .pointer (some ⟨w.heap.size, 0, none⟩), str E2, .int .i64 n, .bool true, .bool true, undef, undef, .bool true, str t, str E0, str E1, str u, str E2, str E2, str F0, undef, undef, undef, .int .i64 1, str E2, str F1, undef, undef, str E2, str F2, .slice A2 F2.length a2, undef, str E2, str F3, undef, undef, undef], []⟩ W) := by
    refine Lib.hid ?_
    intro W A2 a2 hB hs2
    rw [hT]
    show wpAnyH _ _ _ _ _ _ _ _ _
    have HhB := Lib.hid hB
    have Hhs2 := Lib.hid hs2
    clear hB hs2
    refine wpAnyH_all (rs := [2, 8, 16]) (by kernel_rfl) (by simp) ?_
    simp only [List.mem_cons, List.not_mem_nil, or_false, forall_eq_or_imp, forall_eq]
    refine ⟨?_, ?_, ?_⟩
    · obtain ⟨vc, W2, hcv, hbc, hsl⟩ := conv_tx F0 W (by have := HF0.out; omega)
      obtain ⟨A0, a0, rfl, -⟩ := id hsl
      refine wpOp_valueX 21 rfl rfl rfl (.slice A0 F0.length a0) W2 (by go_simp) ⟨trivial, ?_⟩
      go_frame
      exact toT hT rfl (by kernel_rfl) (st02_0.out W2 A0 A2 a0 a2 (HhB.out.trans (hbc.mono HhB.out.size)) hsl (Hhs2.out.fwd hbc))
    · obtain ⟨vc, W2, hcv, hbc, hsl⟩ := conv_tx F1 W (by have := HF1.out; omega)
      obtain ⟨A1, a1, rfl, -⟩ := id hsl
      refine wpOp_valueX 27 rfl rfl rfl (.slice A1 F1.length a1) W2 (by go_simp) ⟨trivial, ?_⟩
      go_frame
      exact toT hT rfl (by kernel_rfl) (st12_0.out W2 A1 A2 a1 a2 (HhB.out.trans (hbc.mono HhB.out.size)) hsl (Hhs2.out.fwd hbc))
    · obtain ⟨vc, W2, hcv, hbc, hsl⟩ := conv_tx F3 W (by have := HF3.out; omega)
      obtain ⟨A3, a3, rfl, -⟩ := id hsl
      refine wpOp_valueX 35 rfl rfl rfl (.slice A3 F3.length a3) W2 (by go_simp) ⟨trivial, ?_⟩
      go_frame
      exact toT hT rfl (by kernel_rfl) (st23_0.out W2 A2 A3 a2 a3 (HhB.out.trans (hbc.mono HhB.out.size)) (Hhs2.out.fwd hbc) hsl)
  have st3_0 : Hid (∀ (W : World) (A3 : Option Addr) (a3 : Nat), Below X.heap.size X W → Sl W W.heap.size (.slice A3 F3.length a3) F3 → T 10 #[true, true, false, false, false, true, true, true, false, false, true, true, false, false, true, true, true, false, false, false] ⟨#[str t, str u, .int .i64 1, undef, undef, undef, .pointer (some ⟨w.heap.size, 0, none⟩), str E2, .int .i64 n, .bool true, .bool true, undef, undef, .bool true, str t, str E0, str E1, str u, str E2, str E2, str F0, undef, undef, undef, .int .i64 1, str E2, str F1, undef, undef, str E2, str F2, undef, undef, str E2, str F3, .slice A3 F3.length a3, undef, undef], []⟩ W) := by
    refine Lib.hid ?_
    intro W A3 a3 hB hs3
    rw [hT]
    show wpAnyH _ _ _ _ _ _ _ _ _
    have HhB := Lib.hid hB
    have Hhs3 := Lib.hid hs3
    clear hB hs3
    refine wpAnyH_all (rs := [2, 8, 12]) (by kernel_rfl) (by simp) ?_
    simp only [List.mem_cons, List.not_mem_nil, or_false, forall_eq_or_imp, forall_eq]
    refine ⟨?_, ?_, ?_⟩
    · obtain ⟨vc, W2, hcv, hbc, hsl⟩ := conv_tx F0 W (by have := HF0.out; omega)
      obtain ⟨A0, a0, rfl, -⟩ := id hsl
      refine wpOp_valueX 21 rfl rfl rfl (.slice A0 F0.length a0) W2 (by go_simp) ⟨trivial, ?_⟩
      go_frame
      exact toT hT rfl (by kernel_rfl) (st03_0.out W2 A0 A3 a0 a3 (HhB.out.trans (hbc.mono HhB.out.size)) hsl (Hhs3.out.fwd hbc))
    · obtain ⟨vc, W2, hcv, hbc, hsl⟩ := conv_tx F1 W (by have := HF1.out; omega)
      obtain ⟨A1, a1, rfl, -⟩ := id hsl
      refine wpOp_valueX 27 rfl rfl rfl (.slice A1 F1.length a1) W2 (by go_simp) ⟨trivial, ?_⟩
      go_frame
      exact toT hT rfl (by kernel_rfl) (st13_0.out W2 A1 A3 a1 a3 (HhB.out.trans (hbc.mono HhB.out.size)) hsl (Hhs3.out.fwd hbc))
    · obtain ⟨vc, W2, hcv, hbc, hsl⟩ := conv_tx F2 W (by have := HF2.out; omega)
      obtain ⟨A2, a2, rfl, -⟩ := id hsl
      refine wpOp_valueX 31 rfl rfl rfl (.slice A2 F2.length a2) W2 (by go_simp) ⟨trivial, ?_⟩
      go_frame
      exact toT hT rfl (by kernel_rfl) (st23_0.out W2 A2 A3 a2 a3 (HhB.out.trans (hbc.mono HhB.out.size)) hsl (Hhs3.out.fwd hbc))
  have st_0 : Hid (∀ (W : World), Below X.heap.size X W → T 11 #[true, true, false, false, false, true, true, true, false, false, true, true, false, false, true, true, false, false, false, false] ⟨#[str t, str u, .int .i64 1, undef, undef, undef, .pointer (some ⟨w.heap.size, 0, none⟩), str E2, .int .i64 n, .bool true, .bool true, undef, undef, .bool true, str t, str E0, str E1, str u, str E2, str E2, str F0, undef, undef, undef, .int .i64 1, str E2, str F1, undef, undef, str E2, str F2, undef, undef, str E2, str F3, undef, undef, undef], []⟩ W) := by
    refine Lib.hid ?_
    intro W  hB
    rw [hT]
    show wpAnyH _ _ _ _ _ _ _ _ _
    have HhB := Lib.hid hB
    clear hB
    refine wpAnyH_all (rs := [2, 8, 12, 16]) (by kernel_rfl) (by simp) ?_
    simp only [List.mem_cons, List.not_mem_nil, or_false, forall_eq_or_imp, forall_eq]
    refine ⟨?_, ?_, ?_, ?_⟩
    · obtain ⟨vc, W2, hcv, hbc, hsl⟩ := conv_tx F0 W (by have := HF0.out; omega)
      obtain ⟨A0, a0, rfl, -⟩ := id hsl
      refine wpOp_valueX 21 rfl rfl rfl (.slice A0 F0.length a0) W2 (by go_simp) ⟨trivial, ?_⟩
      go_frame
      exact toT hT rfl (by kernel_rfl) (st0_0.out W2 A0 a0 (HhB.out.trans (hbc.mono HhB.out.size)) hsl)
    · obtain ⟨vc, W2, hcv, hbc, hsl⟩ := conv_tx F1 W (by have := HF1.out; omega)
      obtain ⟨A1, a1, rfl, -⟩ := id hsl
      refine wpOp_valueX 27 rfl rfl rfl (.slice A1 F1.length a1) W2 (by go_simp) ⟨trivial, ?_⟩
      go_frame
      exact toT hT rfl (by kernel_rfl) (st1_0.out W2 A1 a1 (HhB.out.trans (hbc.mono HhB.out.size)) hsl)
    · obtain ⟨vc, W2, hcv, hbc, hsl⟩ := conv_tx F2 W (by have := HF2.out; omega)
      obtain ⟨A2, a2, rfl, -⟩ := id hsl
      refine wpOp_valueX 31 rfl rfl rfl (.slice A2 F2.length a2) W2 (by go_simp) ⟨trivial, ?_⟩
      go_frame
      exact toT hT rfl (by kernel_rfl) (st2_0.out W2 A2 a2 (HhB.out.trans (hbc.mono HhB.out.size)) hsl)
    · obtain ⟨vc, W2, hcv, hbc, hsl⟩ := conv_tx F3 W (by have := HF3.out; omega)
      obtain ⟨A3, a3, rfl, -⟩ := id hsl
      refine wpOp_valueX 35 rfl rfl rfl (.slice A3 F3.length a3) W2 (by go_simp) ⟨trivial, ?_⟩
      go_frame
      exact toT hT rfl (by kernel_rfl) (st3_0.out W2 A3 a3 (HhB.out.trans (hbc.mono HhB.out.size)) hsl)
  exact toT2 (by kernel_rfl) rfl (st_0.out X (Below.refl _ _))
end Go.Proofs.YteadncmhcbdicaaDoor
