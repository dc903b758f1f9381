/- The statement PipeShuts' own text, walked. -/
import Derived.Test.YtlobmffcnobgeaaDoorPpAwk
import Derived.Test.YtlobmffcnobgeaaDoorSame
import Derived.Test.YtlobmffcnobgeaaDoorCut2
set_option maxRecDepth 100000
namespace Go.Proofs.YtlobmffcnobgeaaDoor
open Go.RowKit
attribute [local go_sem] Oper.semAt_some
set_option maxHeartbeats 4000000 in
theorem pipeShuts_law (B : Nat) (v : Value) (l : List UInt8) (cut : Bool) (w : World) (hv : Sl w B v l) (hB : B ≤ w.heap.size) (hT : TabA w) :
    Calls Tryd.prog 5 #[v, .bool cut] w fun e w' => e = .returned (.bool true) ∧ Below w.heap.size w w' := by
  have hG := tab_lt hT
  have kc := fun (w : World) (C : Array Value) (n c : Nat) => Lib.run_convert_bytes_const (P := Tryd.prog) w 29 5 C n c Tryd.underlying29 Tryd.underlying5
  have HA := Lib.hid (awake22 w hT hG)
  have HV := Lib.hid hv; clear hv
  have HT := Lib.hid hT; clear hT
  obtain ⟨L, hL⟩ : ∃ L, L = l.take 50 := ⟨_, rfl⟩
  have hL50 : L.length ≤ 50 := by rw [hL, List.length_take]; omega
  have HCut := Lib.hid (fun W (h : Sl W B v l) (hb : B ≤ W.heap.size) => cut_any B v l 50 W h hb (by omega) (by omega))
  rw [show l.take (50 : Int).toNat = L from hL.symm] at HCut
  clear hL
  go_enter Tryd.func5, Tryd.ntmps5
  go_wp2_with fail
  refine HA.out.mono ?_
  rintro e w1 ⟨rfl, hB1⟩
  have HB1 := Lib.hid hB1
  have hz1 := hB1.size
  clear hB1 HA
  go_wp2_with fail
  refine (HCut.out w1 (HV.out.below HB1.out hB) (by omega)).mono ?_
  rintro e w2 ⟨vt, rfl, hO2, hB2⟩
  have HB2 := Lib.hid (HB1.out.trans (hB2.mono hz1))
  have hz2 := hB2.size
  have HO2 := Lib.hid hO2
  have HT2 := Lib.hid (HT.out.below HB2.out hG)
  obtain ⟨TA, TC, rfl, _, _, _, _⟩ := hO2.sl
  clear hO2 hB2 HB1 HCut HV
  go_wp2_with fail
  refine (new_pp 60 w2 (by omega) (by omega) HT2.out (by omega)).mono ?_
  rintro e w3 ⟨V, H, rfl, hP3, hB3⟩
  have HP3 := Lib.hid hP3
  have HO3 := Lib.hid (HO2.out.below hB3)
  have HB3 := Lib.hid hB3
  clear hP3 hB3
  go_wp2_with fail
  refine (write_0 HP3.out rfl _ _ _ HO3.out.sl).mono ?_
  rintro e w4 ⟨rfl, v4, hP4, hT4, _⟩
  have HB4 := Lib.hid (HB3.out.trans (HP3.out.toBelow hT4))
  obtain ⟨X4, hX4⟩ : ∃ X, X = upd (fun _ => wnew) 0 (wrX 60 wnew L) := ⟨_, rfl⟩
  obtain ⟨V4, hV4⟩ : ∃ X, X = upd V 0 v4 := ⟨_, rfl⟩
  have hwn : wrN 60 wnew L = L.length := by unfold wrN; show min L.length (60 - 0) = _; omega
  have e4 : X4 0 = ⟨L, false, L.length, []⟩ := by
    rw [hX4, upd_same]; unfold wrX; rw [hwn]
    show (⟨[] ++ L.take L.length, false, 0 + L.length, []⟩ : WayL) = _
    rw [List.take_length, List.nil_append, Nat.zero_add]
  have e41 : X4 1 = wnew := by rw [hX4]; rfl
  have HP4 := Lib.hid (show PP w4 w2.heap.size w2.heap.size 60 V4 H X4 from by rw [hX4, hV4]; exact hP4)
  have HE4 := Lib.hid e4
  have HE41 := Lib.hid e41
  clear hP4 hT4 hX4 hV4 e4 e41 HP3 HB3 HO3
  go_wp2_with fail
  refine (shut_0 HP4.out).mono ?_
  rintro e w5 ⟨rfl, hP5, hT5⟩
  rw [HE4.out] at hP5 ⊢
  have HB5 := Lib.hid (HB4.out.trans (HP4.out.toBelow hT5))
  obtain ⟨X5, hX5⟩ : ∃ X, X = upd X4 0 (shutX ⟨L, false, L.length, []⟩) := ⟨_, rfl⟩
  have HP5 := Lib.hid (show PP w5 w2.heap.size w2.heap.size 60 V4 H X5 from by rw [hX5]; exact hP5)
  have HE5 := Lib.hid (show X5 0 = ⟨L, true, L.length, []⟩ from by rw [hX5]; rfl)
  have HE51 := Lib.hid (show X5 1 = wnew from by rw [hX5]; exact HE41.out)
  clear hP5 hT5 hX5 HP4 HE4 HB4
  have hs1 : shutN ⟨L, false, L.length, []⟩ = 0 := rfl
  rw [hs1]
  clear hs1
  go_wp2_with fail
  refine (shut_0 HP5.out).mono ?_
  rintro e w6 ⟨rfl, hP6, hT6⟩
  rw [HE5.out] at hP6 ⊢
  have HB6 := Lib.hid (HB5.out.trans (HP5.out.toBelow hT6))
  obtain ⟨X6, hX6⟩ : ∃ X, X = upd X5 0 (shutX ⟨L, true, L.length, []⟩) := ⟨_, rfl⟩
  have HP6 := Lib.hid (show PP w6 w2.heap.size w2.heap.size 60 V4 H X6 from by rw [hX6]; exact hP6)
  have HE6 := Lib.hid (show X6 0 = ⟨L, true, L.length, []⟩ from by rw [hX6]; rfl)
  have HE61 := Lib.hid (show X6 1 = wnew from by rw [hX6]; exact HE51.out)
  clear hP6 hT6 hX6 HP5 HE5 HB5
  have hs1 : shutN ⟨L, true, L.length, []⟩ = 14 := rfl
  rw [hs1]
  clear hs1
  go_wp2_with fail
  refine (over_any HP6.out).mono ?_
  rintro e w7 ⟨rfl, hB7⟩
  have hov : overL X6 = false := by unfold overL; rw [HE61.out]; simp [overW, wnew]
  rw [hov]
  have HP7 := Lib.hid (HP6.out.below hB7)
  have HB7 := Lib.hid (HB6.out.trans (hB7.mono HP6.out.size))
  clear hB7 hov HP6 HB6
  go_wp2_with fail
  have hB8 : Below w7.heap.size w7 (w7.alloc (.cells #[.int .u8 120] 5 (1, 2))) := (Below.refl _ _).alloc (Nat.le_refl _) _
  refine (wshut_0 (HP7.out.below hB8) (by rw [HE6.out]) _).mono ?_
  rintro e w8 ⟨rfl, hw8⟩
  have HB8 := Lib.hid (show Below w2.heap.size w2 w8 from by rw [hw8]; exact HB7.out.trans (hB8.mono HP7.out.size))
  have HP8 := Lib.hid (show PP w8 w2.heap.size w2.heap.size 60 V4 H X6 from by rw [hw8]; exact HP7.out.below hB8)
  clear hw8 hB8 HP7 HB7
  go_wp2_with fail
  refine (room_0 HP8.out).mono ?_
  rintro e w9 ⟨rfl, q, hw9⟩
  have hr : roomL 60 (X6 0) = 0 := by rw [HE6.out]; rfl
  rw [hr]
  have hB9 : Below w8.heap.size w8 w9 := by rw [hw9]; exact below_drewN (Below.refl _ _) q
  have HB9 := Lib.hid (HB8.out.trans (hB9.mono HP8.out.size))
  have HP9 := Lib.hid (HP8.out.below hB9)
  clear hw9 hB9 hr HP8 HB8
  cases cut with
  | true =>
    go_wp2_with fail
    refine (cut_pp HP9.out).mono ?_
    rintro e w10 ⟨rfl, hP10, hT10⟩
    have HB10 := Lib.hid (HB9.out.trans (HP9.out.toBelow hT10))
    have HP10 := Lib.hid hP10
    clear hP10 hT10
    go_wp2_with fail
    refine (read_0 HP10.out 100).mono ?_
    rintro e w11 ⟨vb', v11, rfl, hO11, _, hP11, hT11⟩
    have hb0 : (cutX X6 2 0).buf = [] := rfl
    rw [hb0, List.take_nil] at hO11
    obtain ⟨bA, bC, rfl, _, _, _, _⟩ := hO11.sl
    have HP11 := Lib.hid hP11
    have HB11 := Lib.hid (HB10.out.trans (HP10.out.toBelow hT11))
    have hov : overL (upd (cutX X6 2) 0 (rdX (cutX X6 2 0) 100)) = true := by
      have h0 : (rdX (cutX X6 2 0) 100).buf = [] := by unfold rdX; rw [hb0]; simp
      have h1 : (rdX (cutX X6 2 0) 100).shut = true := rfl
      unfold overL
      rw [upd_same, upd_other _ _ _ _ (by omega)]
      unfold overW
      rw [h0, h1]
      rfl
    clear hO11 hP11 hT11
    go_wp2_with fail
    refine (over_any HP11.out).mono ?_
    rintro e w12 ⟨rfl, hB12⟩
    rw [hov]
    have HB12 := Lib.hid (HB11.out.trans (hB12.mono HP11.out.size))
    clear hov hB12
    go_wp2_with fail
    go_ret
    exact ⟨rfl, HB2.out.trans (HB12.out.mono (by omega))⟩
  | false =>
    go_wp2_with fail
    refine (shut_1 HP9.out).mono ?_
    rintro e w10 ⟨rfl, hP10, hT10⟩
    have HB10 := Lib.hid (HB9.out.trans (HP9.out.toBelow hT10))
    rw [HE61.out] at hP10
    obtain ⟨X10, hX10⟩ : ∃ X, X = upd X6 1 (shutX wnew) := ⟨_, rfl⟩
    have HP10 := Lib.hid (show PP w10 w2.heap.size w2.heap.size 60 V4 H X10 from by rw [hX10]; exact hP10)
    have HE10 := Lib.hid (show X10 0 = ⟨L, true, L.length, []⟩ from by rw [hX10]; exact HE6.out)
    have HE101 := Lib.hid (show X10 1 = ⟨[], true, 0, []⟩ from by rw [hX10]; rfl)
    clear hP10 hT10 hX10
    go_wp2_with fail
    refine (over_any HP10.out).mono ?_
    rintro e w11 ⟨rfl, hB11⟩
    have hov : overL X10 = decide (L.length = 0) := by unfold overL overW; rw [HE10.out, HE101.out]; simp
    rw [hov]
    have HB11 := Lib.hid (HB10.out.trans (hB11.mono HP10.out.size))
    have HP11 := Lib.hid (HP10.out.below hB11)
    clear hov hB11
    obtain ⟨N, hN⟩ : ∃ N, N = L.length := ⟨_, rfl⟩
    rw [← hN] at HE10 ⊢
    have HN := Lib.hid hN
    clear hN
    by_cases hN0 : N = 0
    · subst hN0
      rw [decide_eq_true rfl]
      go_wp2_with fail
      refine (read_0 HP11.out 100).mono ?_
      rintro e w12 ⟨vb', v12, rfl, hO12, _, hP12, hT12⟩
      rw [HE10.out] at hO12 hP12
      have hrd : rdN ⟨L, true, 0, []⟩ 100 = L.length := by unfold rdN; show min 100 L.length = _; omega
      rw [hrd] at hO12
      have hO12' : OwnB w12 w11.heap.size vb' L := by
        have := hO12
        rwa [show (⟨L, true, 0, []⟩ : WayL).buf = L from rfl, List.take_length] at this
      have HB12 := Lib.hid (HB11.out.trans (HP11.out.toBelow hT12))
      have HP12 := Lib.hid hP12
      have hov : overL (upd X10 0 (rdX ⟨L, true, 0, []⟩ 100)) = true := by
        have h0 : (rdX ⟨L, true, 0, []⟩ 100).buf = [] := by unfold rdX; rw [hrd]; show L.drop L.length = []; rw [List.drop_length]
        have h1 : (rdX ⟨L, true, 0, []⟩ 100).shut = true := rfl
        unfold overL
        rw [upd_same, upd_other _ _ _ _ (by omega), HE101.out]
        unfold overW
        rw [h0, h1]
        rfl
      have HSm := Lib.hid (same_true w12.heap.size w12.heap.size vb' (.slice TA L.length TC) L w12 hO12'.sl ((HO2.out.sl.below HB12.out (Nat.le_refl _)).more HB12.out.size))
      obtain ⟨bA, bC, rfl, _, _, _, _⟩ := hO12'.sl
      have HZ := Lib.hid HB12.out.size
      clear hO12 hO12' hP12 hT12 hrd
      rw [← HN.out] at HSm ⊢
      go_wp2_with fail
      refine HSm.out.mono ?_
      rintro e w13 ⟨rfl, hw13⟩
      subst hw13
      go_wp2_with fail
      refine (over_any HP12.out).mono ?_
      rintro e w14 ⟨rfl, hB14⟩
      rw [hov]
      have HB14 := Lib.hid (HB12.out.trans (hB14.mono HP12.out.size))
      clear hov hB14
      go_wp2_with fail
      go_ret
      exact ⟨rfl, HB2.out.trans (HB14.out.mono (by omega))⟩
    · rw [decide_eq_false hN0]
      have hN1 : ((N : Int) == 0) = false := beq_eq_false_iff_ne.2 (by omega)
      clear hN0
      go_wp2_with fail
      refine (read_0 HP11.out 100).mono ?_
      rintro e w12 ⟨vb', v12, rfl, hO12, _, hP12, hT12⟩
      rw [HE10.out] at hO12 hP12
      have hrd : rdN ⟨L, true, N, []⟩ 100 = L.length := by unfold rdN; show min 100 L.length = _; omega
      rw [hrd] at hO12
      have hO12' : OwnB w12 w11.heap.size vb' L := by
        have := hO12
        rwa [show (⟨L, true, N, []⟩ : WayL).buf = L from rfl, List.take_length] at this
      have HB12 := Lib.hid (HB11.out.trans (HP11.out.toBelow hT12))
      have HP12 := Lib.hid hP12
      have hov : overL (upd X10 0 (rdX ⟨L, true, N, []⟩ 100)) = true := by
        have h0 : (rdX ⟨L, true, N, []⟩ 100).buf = [] := by unfold rdX; rw [hrd]; show L.drop L.length = []; rw [List.drop_length]
        have h1 : (rdX ⟨L, true, N, []⟩ 100).shut = true := rfl
        unfold overL
        rw [upd_same, upd_other _ _ _ _ (by omega), HE101.out]
        unfold overW
        rw [h0, h1]
        rfl
      have HSm := Lib.hid (same_true w12.heap.size w12.heap.size vb' (.slice TA L.length TC) L w12 hO12'.sl ((HO2.out.sl.below HB12.out (Nat.le_refl _)).more HB12.out.size))
      obtain ⟨bA, bC, rfl, _, _, _, _⟩ := hO12'.sl
      have HZ := Lib.hid HB12.out.size
      clear hO12 hO12' hP12 hT12 hrd
      rw [← HN.out] at HSm ⊢
      go_wp2_with fail
      refine HSm.out.mono ?_
      rintro e w13 ⟨rfl, hw13⟩
      subst hw13
      go_wp2_with fail
      refine (over_any HP12.out).mono ?_
      rintro e w14 ⟨rfl, hB14⟩
      rw [hov]
      have HB14 := Lib.hid (HB12.out.trans (hB14.mono HP12.out.size))
      clear hov hB14
      go_wp2_with fail
      go_ret
      exact ⟨rfl, HB2.out.trans (HB14.out.mono (by omega))⟩
end Go.Proofs.YtlobmffcnobgeaaDoor
