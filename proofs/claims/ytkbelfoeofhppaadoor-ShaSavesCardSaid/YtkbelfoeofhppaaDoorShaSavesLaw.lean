/- The statement ShaSaves' own text, walked. -/
import Derived.Test.YtkbelfoeofhppaaDoorShaSavesM
import Derived.Test.YtkbelfoeofhppaaDoorShaStreamsLaw
namespace Go.Proofs.YtkbelfoeofhppaaDoor
open Go.RowKit
/-- Two slices and a Hash that lie below block Z, and all that was there ahead. -/
structure SvS (w : World) (Z H : Nat) (va vb : Value) (a b : List UInt8) (W : World) : Prop where
  oa : OwnB W w.heap.size va a
  za : ∀ k, va.ownBlock = some k → k < Z
  ob : OwnB W w.heap.size vb b
  zb : ∀ k, vb.ownBlock = some k → k < Z
  hash : HashM W H a
  zh : H < Z
  zw : w.heap.size ≤ Z
  below : Below w.heap.size w W
theorem SvS.on {w : World} {Z H : Nat} {va vb : Value} {a b : List UInt8} {W W' : World} (h : SvS w Z H va vb a b W) (hb : Below W.heap.size W W') : SvS w Z H va vb a b W' :=
  ⟨h.oa.below hb, h.za, h.ob.below hb, h.zb, h.hash.below hb h.hash.lt, h.zh, h.zw, h.below.trans (hb.mono h.below.size)⟩
theorem ne_row {v : Value} {Z : Nat} {row : Option Nat} (h : ∀ k, v.ownBlock = some k → k < Z) (hr : ∀ k, row = some k → Z ≤ k) : v.ownBlock = none ∨ v.ownBlock ≠ row := by
  cases hv : v.ownBlock with
  | none => exact .inl rfl
  | some k => exact .inr fun e => by have := h k hv; have := hr k e.symm; omega
theorem SvS.new {w : World} {Z H : Nat} {va vb : Value} {a b : List UInt8} {W W' : World} {row : Option Nat} (h : SvS w Z H va vb a b W) (hg : W.grownBy W' row) (hr : ∀ k, row = some k → Z ≤ k) : SvS w Z H va vb a b W' :=
  ⟨h.oa.kept hg (ne_row h.za hr), h.za, h.ob.kept hg (ne_row h.zb hr), h.zb, h.hash.grown hg (fun e => by have := hr _ e.symm; have := h.zh; omega), h.zh, h.zw, h.below.grown hg h.below.size (fun k e => Nat.le_trans h.zw (hr k e))⟩
theorem OwnB.srcZ {w : World} {base n c Z G : Nat} {A : Option Addr} {l : List UInt8} (h : OwnB w base (.slice A n c) l) (hz : ∀ k, (Value.slice A n c).ownBlock = some k → k < Z) (hG : Z ≤ G) (hl : l.length ≤ 4611686018427387904) : Src w G A l c := by
  obtain ⟨A', c', e, h1, h2, h3, h4⟩ := h.sl
  injection e with e1 _ e3
  subst e1; subst e3
  refine ⟨h2, h3, hl, fun hp => ?_⟩
  obtain ⟨b', o', h5, h6, h7⟩ := h4 hp
  subst h5
  exact ⟨b', o', rfl, h6, by have := hz b' rfl; omega, h7⟩
set_option maxRecDepth 100000 in
set_option maxHeartbeats 2000000 in
theorem shaSaves_law (B : Nat) (v : Value) (l : List UInt8) (v' : Value) (l' : List UInt8) (w : World) (hs0 : Sl w B v l) (hs1 : Sl w B v' l') (hB : B ≤ w.heap.size) (hT : TabA w) (hU : TabB w) :
    Calls Tryd.prog 5 #[v, v'] w fun e w' => e = .returned (.bool true) ∧ Below w.heap.size w w' := by
  have HS := Lib.hid hs0; clear hs0
  have HS' := Lib.hid hs1; clear hs1
  have hG := tab_lt hT
  have hG2 : 1 < w.heap.size := World.block_lt_of_cell? w _ (hU 0 (by decide))
  have HT := Lib.hid hT; clear hT
  have HU := Lib.hid hU; clear hU
  go_enter Tryd.func5, Tryd.ntmps5
  go_wp2_with fail
  refine (awake1 w HT.out).mono ?_
  rintro e w1 ⟨rfl, hB1⟩
  have HB1 := Lib.hid hB1
  have hz1 := hB1.size
  clear hB1
  go_wp2_with fail
  refine (cut_any B v l 300 w1 (HS.out.below HB1.out hB) (by omega) (by omega) (by omega)).mono ?_
  rintro e w2 ⟨va, rfl, hO2, hB2⟩
  obtain ⟨a, ha⟩ : ∃ a, a = l.take (300 : Int).toNat := ⟨_, rfl⟩
  have hal : a.length ≤ 300 := by rw [ha]; exact List.length_take_le _ _
  rw [← ha] at hO2
  clear ha
  have HO2 := Lib.hid hO2
  have HB2 := Lib.hid (HB1.out.trans (hB2.mono hz1))
  have hz2 := HB2.out.size
  clear hO2 hB2
  go_wp2_with fail
  refine (cut_any B v' l' 150 w2 (HS'.out.below HB2.out hB) (by omega) (by omega) (by omega)).mono ?_
  rintro e w3 ⟨vb, rfl, hO3, hB3⟩
  obtain ⟨b, hb⟩ : ∃ b, b = l'.take (150 : Int).toNat := ⟨_, rfl⟩
  have hbl : b.length ≤ 150 := by rw [hb]; exact List.length_take_le _ _
  rw [← hb] at hO3
  clear hb
  have HO3 := Lib.hid hO3
  have HA3 := Lib.hid (HO2.out.below hB3)
  have HB3 := Lib.hid (HB2.out.trans (hB3.mono hz2))
  have hz3 := HB3.out.size
  clear hO3 hB3
  go_wp2_with fail
  refine (new_any w3).mono ?_
  rintro e w4 ⟨rfl, hM4, hB4⟩
  obtain ⟨H, hH⟩ : ∃ H, H = w3.heap.size := ⟨_, rfl⟩
  have hA4 : OwnB w4 w1.heap.size va a := HA3.out.below hB4
  have hO4 : OwnB w4 w2.heap.size vb b := HO3.out.below hB4
  have hHZ : H < w4.heap.size := by rw [hH]; exact hM4.lt
  have hza : ∀ k, va.ownBlock = some k → k < H := fun k e => by rw [hH]; exact (HA3.out.lt k e).2
  have hzb : ∀ k, vb.ownBlock = some k → k < H := fun k e => by rw [hH]; exact (HO3.out.lt k e).2
  have hB4' := HB3.out.trans (hB4.mono hz3)
  rw [← hH] at hM4 ⊢
  obtain ⟨Aa, ca, rfl, _⟩ := hA4.sl
  obtain ⟨Ab, cb, rfl, _⟩ := hO4.sl
  have HM4 := Lib.hid hM4
  have HA4 := Lib.hid hA4
  have HO4 := Lib.hid hO4
  have HZa := Lib.hid hza
  have HZb := Lib.hid hzb
  have HB4 := Lib.hid hB4'
  have hHw : w.heap.size ≤ H := by omega
  clear hM4 hA4 hO4 hza hzb hB4 hB4' hH
  have hsrc : Src w4 H Aa a ca := by
    obtain ⟨A', c', e, h1, h2, h3, h4⟩ := HA4.out.sl
    injection e with e1 _ e3
    subst e1; subst e3
    refine ⟨h2, h3, by omega, fun hp => ?_⟩
    obtain ⟨b', o', h5, h6, h7⟩ := h4 hp
    subst h5
    exact ⟨b', o', rfl, h6, by have := HZa.out b' rfl; omega, h7⟩
  have HSRC := Lib.hid hsrc; clear hsrc
  go_wp2_with fail
  refine (write_m H [] Aa ca a w4 HM4.out HSRC.out (HT.out.below HB4.out hG) (by omega)).mono ?_
  rintro e w5 ⟨rfl, hM5, hg5⟩
  rw [List.nil_append] at hM5
  obtain ⟨Z, hZ⟩ : ∃ Z, Z = w4.heap.size := ⟨_, rfl⟩
  have hS5 : SvS w Z H (.slice Aa a.length ca) (.slice Ab b.length cb) a b w5 :=
    ⟨(HA4.out.kept hg5 (ne_row HZa.out (fun k e => by cases e; exact Nat.le_refl _))).lower hz1, fun k e => by have := HZa.out k e; omega,
     (HO4.out.kept hg5 (ne_row HZb.out (fun k e => by cases e; exact Nat.le_refl _))).lower hz2, fun k e => by have := HZb.out k e; omega, hM5, by omega, by omega, HB4.out.grown hg5 HB4.out.size (fun k e => by cases e; exact hHw)⟩
  have hZ5 : Z ≤ w5.heap.size := by rw [hZ]; exact hg5.size
  have HS5 := Lib.hid hS5
  have hZw := hS5.zw
  clear hM5 hg5 hS5 hZ
  obtain ⟨S, hS⟩ : ∃ S, S = stOf St.first a := ⟨_, rfl⟩
  obtain ⟨R, hR⟩ : ∃ R, R = restOf a := ⟨_, rfl⟩
  obtain ⟨P, hP⟩ : ∃ P, P = saved S a.length R := ⟨_, rfl⟩
  have hRl : R.length = a.length % 64 := by rw [hR, restOf_length]
  have hPl : P.length = 40 + R.length := by rw [hP, saved_length]
  have HP1 : Hid (stB P = S) := Lib.hid (by rw [hP]; exact bword_saved _ _ _)
  have HP2 : Hid (cntB P = a.length) := Lib.hid (by rw [hP]; exact cnt_saved _ _ _ (by omega))
  have HP3 : Hid (P.drop 40 = R) := Lib.hid (by rw [hP]; exact (saved_mid _ _ _).2)
  have HP : Hid (P = wbs S.list ++ be a.length 8 ++ R) := Lib.hid (by rw [hP]; unfold saved; rfl)
  have HPs := Lib.hid hP
  have HSe := Lib.hid hS
  have HRe := Lib.hid hR
  have hPl2 : P.length ≤ 1000 := by omega
  have HRl := Lib.hid hRl
  have HPl := Lib.hid hPl
  have hz := zero_st
  clear hS hR hP hRl hPl
  go_wp2_with fail
  refine (refFirst_any w5).mono ?_
  rintro e w6 ⟨rfl, hB6⟩
  have HS6 := Lib.hid (HS5.out.on hB6)
  have hz6 : Z ≤ w6.heap.size := Nat.le_trans hZ5 hB6.size
  clear hB6
  go_wp2_with fail
  have hw6 := HS6.out.below.size
  refine (refGo_any St.first (.slice Aa a.length ca) a w6 (HU.out.below HS6.out.below hG2) (by show _ < w6.heap.size; omega) HS6.out.oa.sl (by omega)).mono ?_
  rintro e w7 ⟨v7, rfl, hS7, hB7⟩
  rw [← HSe.out]
  rw [← HRe.out] at hS7
  have HX7 := Lib.hid hS7
  have HS7 := Lib.hid (HS6.out.on hB7)
  have hz7 := hB7.size
  clear hS7 hB7
  go_wp2_with fail
  obtain ⟨w8, hw8⟩ : ∃ w8, w8 = w7.alloc (.cells #[.int .u32 (wn S.a), .int .u32 (wn S.b), .int .u32 (wn S.c), .int .u32 (wn S.d), .int .u32 (wn S.e), .int .u32 (wn S.f), .int .u32 (wn S.g), .int .u32 (wn S.h)] 42) := ⟨_, rfl⟩
  have hB8 : Below w7.heap.size w7 w8 := by rw [hw8]; exact (Below.refl _ _).alloc (Nat.le_refl _) _
  have HS8 := Lib.hid (HS7.out.on hB8)
  have HX8 := Lib.hid (HX7.out.below hB8 hz7)
  have hz8 := hB8.size
  rw [← hw8]
  clear hw8 hB8 hz
  refine (refOut_any S w8).mono ?_
  rintro e w9 ⟨v9, rfl, hO9, hB9⟩
  have HO9 := Lib.hid hO9
  have HS9 := Lib.hid (HS8.out.on hB9)
  have HX9 := Lib.hid (HX8.out.below hB9 (by omega))
  have hz9 := hB9.size
  clear hO9 hB9
  go_wp2_with fail
  refine (refBytes_any a.length 8 w9 (by omega) (by omega)).mono ?_
  rintro e w10 ⟨v10, rfl, hO10, hB10⟩
  have HO10 := Lib.hid hO10.sl
  have HO9' := Lib.hid (HO9.out.below hB10)
  have HS10 := Lib.hid (HS9.out.on hB10)
  have HX10 := Lib.hid (HX9.out.below hB10 (by omega))
  have hz10 := hB10.size
  clear hO10 hB10
  have HW : Hid ((wbs S.list).length = 32) := Lib.hid (by rw [wbs_length]; rfl)
  go_wp2_with (first
    | (at_builtin; ((with_reducible refine wpList_app_sl ?f1 (.tmp 29) (.tmp 33) ?f2 w8.heap.size v9 (wbs S.list) (be a.length 8) ?f3 HO9'.out _ v10 ?f5 HO10.out ?f7 ?f8 ?_); (case f1 => rfl); (case f2 => rfl); (case f3 => rfl); (case f5 => rfl); (case f7 => rw [HW.out, be_length]; omega); (case f8 => omega); intro v11 w11 hv11 hg11; have HV11 := Lib.hid hv11; have HS11 := Lib.hid (HS10.out.new hg11 (fun k e => by have := (HO9'.out.lt k e).1; omega)); have HX11 := Lib.hid (HX10.out.below (HO9'.out.belowBase hg11 (by omega)) (by omega)); have hz11 := hg11.size; clear hv11 hg11))
    | (at_builtin; ((with_reducible refine wpList_app_sl ?h1 (.tmp 34) (.tmp 35) ?h2 w8.heap.size v11 (wbs S.list ++ be a.length 8) R ?h3 HV11.out _ v7 ?h5 HX11.out ?h7 ?h8 ?_); (case h1 => rfl); (case h2 => rfl); (case h3 => rfl); (case h5 => rfl); (case h7 => have h1 := HP.out; have h2 := congrArg List.length h1; simp only [List.length_append] at h2 ⊢; omega); (case h8 => omega); intro v12 w12 hv12 hg12; have HV12 : Hid (OwnB w12 w8.heap.size v12 P) := Lib.hid (by rw [HP.out]; exact hv12); have HS12 := Lib.hid (HS11.out.new hg12 (fun k e => by have := (HV11.out.lt k e).1; omega)); have hz12 := hg12.size; clear hv12 hg12)))
  have hH12 : HashAt w12 H S R a.length := by rw [HSe.out, HRe.out]; exact HS12.out.hash
  have HH12 := Lib.hid hH12; clear hH12
  refine (saveH_any H S R a.length w12 HH12.out).mono ?_
  rintro e w13 ⟨v13, rfl, hO13, hB13⟩
  rw [← HPs.out] at hO13
  have HO13 := Lib.hid hO13
  have HW13 := Lib.hid (HV12.out.below hB13)
  have HS13 := Lib.hid (HS12.out.on hB13)
  have hz13 := hB13.size
  clear hO13 hB13
  go_wp2_with fail
  refine (same_true _ _ v13 v12 P w13 HO13.out.sl HW13.out.sl).mono ?_
  rintro e w14 ⟨rfl, rfl⟩
  go_wp2_with fail
  refine (load_ok w13.heap.size v13 P w13 HO13.out.sl (Nat.le_refl _) (by rw [HPl.out]; omega) (by rw [HP2.out]; omega) (by rw [HP2.out, HPl.out, HRl.out]; omega)).mono ?_
  rintro e w14 ⟨rfl, hH14, hB14⟩
  rw [HP1.out, HP2.out, HP3.out, HSe.out, HRe.out] at hH14
  obtain ⟨G, hGe⟩ : ∃ G, G = w13.heap.size := ⟨_, rfl⟩
  rw [← hGe] at hH14 ⊢
  have HG14 : Hid (HashM w14 G a) := Lib.hid hH14
  have HO14 := Lib.hid (HO13.out.below hB14)
  have HW14 := Lib.hid (HW13.out.below hB14)
  have HS14 := Lib.hid (HS13.out.on hB14)
  have hGZ : Z ≤ G := by omega
  have HGo : Hid (v13.ownBlock = none ∨ v13.ownBlock ≠ some G) := Lib.hid (HO13.out.older (by omega))
  have HGw : Hid (v12.ownBlock = none ∨ v12.ownBlock ≠ some G) := Lib.hid (HW13.out.older (by omega))
  have hz14 : G < w14.heap.size := HG14.out.lt
  clear hH14 hB14 hGe
  go_wp2_with fail
  refine (flip_any w12.heap.size v13 P w14 HO14.out (by omega)).mono ?_
  rintro e w15 ⟨rfl, hg15⟩
  have HS15 := Lib.hid (HS14.out.new hg15 (fun k e => by have := (HO14.out.lt k e).1; omega))
  have HW15 := Lib.hid (HW14.out.kept hg15 (HV12.out.unlike HO13.out (Nat.le_refl _)))
  have HG15 := Lib.hid (HG14.out.grown hg15 (some_ne HGo.out))
  clear hg15
  have hlen : Hid (Calls Tryd.prog 20 #[.pointer (some ⟨G, 0, none⟩)] w15 fun e w' => e = .returned (.int .u64 (a.length : Int)) ∧ w15 = w') := Lib.hid (by
    have := len_any G _ _ _ w15 HG15.out
    rwa [un_lt _ (by omega)] at this)
  go_wp2_with fail
  refine hlen.out.mono ?_
  rintro e w16 ⟨rfl, rfl⟩
  go_wp2_with fail
  refine (write_m G a Ab cb b w15 HG15.out (HS15.out.ob.srcZ HS15.out.zb hGZ (by omega)) (HT.out.below HS15.out.below hG) (by omega)).mono ?_
  rintro e w16 ⟨rfl, hM16, hg16⟩
  have HG16 := Lib.hid hM16
  have HS16 := Lib.hid (HS15.out.new hg16 (fun k e => by cases e; exact hGZ))
  have HW16 := Lib.hid (HW15.out.kept hg16 HGw.out)
  clear hM16 hg16
  go_wp2_with fail
  refine (sumM_any G (a ++ b) w16 HG16.out (HT.out.below HS16.out.below hG)).mono ?_
  rintro e w17 ⟨v17, rfl, hO17, hB17⟩
  have HO17 := Lib.hid hO17
  have HS17 := Lib.hid (HS16.out.on hB17)
  have HW17 := Lib.hid (HW16.out.below hB17)
  have hz17 : Z ≤ w17.heap.size := by have h1 := HG16.out.lt; have h2 := hB17.size; omega
  clear hO17 hB17
  go_wp2_with fail
  refine (copy_any w17.heap.size (.slice Aa a.length ca) a w17 HS17.out.oa.sl (Nat.le_refl _) (by omega)).mono ?_
  rintro e w18 ⟨v18, rfl, hO18, hB18⟩
  have HO18 := Lib.hid hO18
  have HS18 := Lib.hid (HS17.out.on hB18)
  have HW18 := Lib.hid (HW17.out.below hB18)
  have HO17' := Lib.hid (HO17.out.below hB18)
  have hz18 := hB18.size
  clear hO18 hB18
  go_wp2_with (at_builtin; ((with_reducible refine wpList_app_sl ?k1 (.tmp 66) (.tmp 67) ?k2 w17.heap.size v18 a b ?k3 HO18.out _ (.slice Ab b.length cb) ?k5 HS18.out.ob.sl ?k7 ?k8 ?_); (case k1 => rfl); (case k2 => rfl); (case k3 => rfl); (case k5 => rfl); (case k7 => omega); (case k8 => exact hz18); intro v19 w19 hv19 hg19; have HV19 := Lib.hid hv19; have HG19 := Lib.hid hg19; clear hv19 hg19))
  have HS19 := Lib.hid (HS18.out.new HG19.out (fun k e => by have := (HO18.out.lt k e).1; omega))
  have HW19 := Lib.hid (HW18.out.kept HG19.out (HW17.out.unlike HO18.out (Nat.le_refl _)))
  have HO19 := Lib.hid (HO17'.out.kept HG19.out (HO17.out.unlike HO18.out (Nat.le_refl _)))
  have hw19 := HS19.out.below.size
  refine (refSum_any w19.heap.size v19 (a ++ b) w19 (HU.out.below HS19.out.below hG2) (by show _ < w19.heap.size; omega) HV19.out.sl (Nat.le_refl _) (by rw [List.length_append]; omega)).mono ?_
  rintro e w20 ⟨v20, rfl, hO20, hB20⟩
  have HX20 := Lib.hid hO20.sl
  have HO20 := Lib.hid (HO19.out.below hB20)
  have HS20 := Lib.hid (HS19.out.on hB20)
  have HW20 := Lib.hid (HW19.out.below hB20)
  clear hO20 hB20
  go_wp2_with fail
  refine (same_true _ _ v17 v20 (sumL (a ++ b)) w20 HO20.out.sl HX20.out).mono ?_
  rintro e w21 ⟨rfl, rfl⟩
  have hH20 : HashAt w20 H S R a.length := by rw [HSe.out, HRe.out]; exact HS20.out.hash
  have HH20 := Lib.hid hH20; clear hH20
  go_wp2_with fail
  refine (saveH_any H S R a.length w20 HH20.out).mono ?_
  rintro e w21 ⟨v21, rfl, hO21, hB21⟩
  rw [← HPs.out] at hO21
  have HO21 := Lib.hid hO21.sl
  have HW21 := Lib.hid (HW20.out.below hB21)
  have HS21 := Lib.hid (HS20.out.on hB21)
  clear hO21 hB21
  go_wp2_with fail
  refine (same_true _ _ v21 v12 P w21 HO21.out HW21.out.sl).mono ?_
  rintro e w22 ⟨rfl, rfl⟩
  go_wp2_with fail
  go_ret
  exact ⟨rfl, HS21.out.below⟩
end Go.Proofs.YtkbelfoeofhppaaDoor
