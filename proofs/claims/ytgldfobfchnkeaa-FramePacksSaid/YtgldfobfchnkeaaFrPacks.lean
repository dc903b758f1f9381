/- The statement FramePacks's own text, walked. -/
import Derived.Test.YtgldfobfchnkeaaFrAwake
namespace Go.Proofs.Ytgldfobfchnkeaa
open Go.RowKit

set_option maxRecDepth 100000 in
set_option maxHeartbeats 2000000 in
theorem packs_any (B : Nat) (k : UInt8) (v1 v2 : Value) (l1 l2 : List UInt8) (w : World) (h1 : Sl w B v1 l1) (h2 : Sl w B v2 l2) (hB : B ≤ w.heap.size) :
    Calls Try.prog 3 #[vb k, v1, v2] w fun e w' => e = .returned (.bool true) ∧ Below w.heap.size w w' := by
  have H1 := Lib.hid h1; clear h1
  have H2 := Lib.hid h2; clear h2
  go_enter Try.func3, Try.ntmps3
  go_wp2_with fail
  refine (awake6 w).mono ?_
  rintro e w1 ⟨rfl, hb⟩
  have HB1 := Lib.hid hb; clear hb
  go_wp2_with fail
  refine (cut_any B v1 l1 2100 w1 (H1.out.below HB1.out hB) (by have := HB1.out.size; omega) (by decide) (by decide)).mono ?_
  rintro e w2 ⟨a1, rfl, hO, hb⟩
  have HB2 := Lib.hid (HB1.out.trans (hb.mono HB1.out.size)); clear hb HB1
  have HA := Lib.hid hO; clear hO
  go_wp2_with fail
  refine (cut_any B v2 l2 50 w2 (H2.out.below HB2.out hB) (by have := HB2.out.size; omega) (by decide) (by decide)).mono ?_
  rintro e w3 ⟨b1, rfl, hO, hb⟩
  obtain ⟨la, hla⟩ : ∃ la, la = l1.take (2100 : Int).toNat := ⟨_, rfl⟩
  obtain ⟨lb, hlb⟩ : ∃ lb, lb = l2.take (50 : Int).toNat := ⟨_, rfl⟩
  rw [← hlb] at hO
  have hla90 : la.length ≤ 2100 := by rw [hla, List.length_take]; exact Nat.min_le_left _ _
  have hlb90 : lb.length ≤ 50 := by rw [hlb, List.length_take]; exact Nat.min_le_left _ _
  rw [← hla] at HA
  clear hla hlb H1 H2
  have HA3 := Lib.hid ((HA.out.sl).below hb (Nat.le_refl _))
  have HB3 := Lib.hid (HB2.out.trans (hb.mono HB2.out.size))
  have hs23 : w2.heap.size ≤ w3.heap.size := hb.size
  clear hb HB2 HA
  have HBo := Lib.hid hO.sl; clear hO
  obtain ⟨Aa, ca, rfl, _, _, _, _⟩ := HA3.out
  obtain ⟨Ab, cb, rfl, _, _, _, _⟩ := HBo.out
  go_wp2_with fail
  refine (copy_any w2.heap.size _ la w3 HA3.out hs23 (by omega)).mono ?_
  rintro e w4 ⟨c1, rfl, hO, hb⟩
  obtain ⟨Ac, cc, rfl, _, _, _, _⟩ := hO.sl
  have HC4 := Lib.hid hO.sl; clear hO
  have HA4 := Lib.hid (HA3.out.below hb hs23)
  have HBo4 := Lib.hid (HBo.out.below hb (Nat.le_refl _))
  have HB4 := Lib.hid (HB3.out.trans (hb.mono HB3.out.size))
  have hs34 : w3.heap.size ≤ w4.heap.size := hb.size
  have HB4s := Lib.hid (HB4.out.size)
  have HB6s := Lib.hid (HB3.out.size)
  clear hb HA3 HBo HB3
  have HX := Lib.hid ((Below.refl w4.heap.size w4).alloc (Nat.le_refl _) (.cells #[.int .u8 (bn k), .slice Ac la.length cc] 27))
  by_cases hk : chk k la.length = 0
  · have hkk : (1 ≤ bn k ∧ bn k ≤ 15) ∧ la.length ≤ 2048 := by
      rcases chk_cases k la.length with ⟨h, _⟩ | ⟨h, _⟩ | ⟨_, h1, h2, h3⟩
      · omega
      · omega
      · exact ⟨⟨h1, h2⟩, h3⟩
    obtain ⟨⟨hk1, hk2⟩, hk3⟩ := hkk
    clear hk
    obtain ⟨F, hF⟩ : ∃ F, F = frm k la := ⟨_, rfl⟩
    have hFl : (((3 : Int) + (la.length : Int)) == (F.length : Int)) = true := by rw [hF, frm_length]; simp; omega
    have HFl : Hid (F.length ≤ 3000) := Lib.hid (by rw [hF, frm_length]; omega)
    have HU : Hid (un (F ++ lb) = .fr k la lb) := Lib.hid (by rw [hF]; exact un_frm k la lb (chk_ok hk1 hk2 hk3) hk3)
    have HP := Lib.hid (pack_ok k (.slice Ac la.length cc) la w4.heap.size _ (HC4.out.below HX.out (Nat.le_refl _)) (by simp) hk1 hk2 hk3)
    have HQ := fun (W : World) (h : Sl W w2.heap.size (.slice Aa la.length ca) la) (hW : w2.heap.size ≤ W.heap.size) => packRef_ok k (.slice Aa la.length ca) la w2.heap.size W h hW hk1 hk2 hk3
    rw [← hF] at HP
    simp only [← hF] at HQ
    have HQ' := Lib.hid HQ; clear HQ
    clear hF
    go_wp2_with fail
    refine HP.out.mono ?_
    rintro e w5 ⟨p, rfl, hO, hb⟩
    obtain ⟨Ap, cp, rfl, _, _, _, _⟩ := hO.sl
    have HP5 := Lib.hid hO.sl; clear hO
    have hbx : Below w4.heap.size w4 w5 := HX.out.trans (hb.mono (by simp))
    have hk := (Blk.new w4 [.int .u8 (bn k), .slice Ac la.length cc] 27).below hb (by simp)
    have HK5 := Lib.hid hk
    have i1 := hk.at (o := 1) rfl
    have hs45 : w4.heap.size + 1 ≤ w5.heap.size := by have := hk.lt; omega
    clear hk hb HP
    have HA5 := Lib.hid (HA4.out.below hbx (by omega))
    have HBo5 := Lib.hid (HBo4.out.below hbx (by omega))
    have HC5 := Lib.hid (HC4.out.below hbx (Nat.le_refl _))
    have HB5 := Lib.hid (HB4.out.trans (hbx.mono HB4.out.size))
    clear hbx HA4 HBo4 HC4 HB4 HX
    go_wp2_with fail
    refine (HQ'.out w5 HA5.out (by omega)).mono ?_
    rintro e w6 ⟨q, rfl, hO, hb⟩
    obtain ⟨Aq, cq, rfl, _, _, _, _⟩ := hO.sl
    have HQ6 := Lib.hid hO.sl; clear hO
    have HP6 := Lib.hid (HP5.out.below hb (Nat.le_refl _))
    have HA6 := Lib.hid (HA5.out.below hb (by omega))
    have HBo6 := Lib.hid (HBo5.out.below hb (by omega))
    have HC6 := Lib.hid (HC5.out.below hb (by omega))
    have HB6 := Lib.hid (HB5.out.trans (hb.mono HB5.out.size))
    have hk := HK5.out.below hb (by omega)
    have j1 := hk.at (o := 1) rfl
    have hs56 : w5.heap.size ≤ w6.heap.size := hb.size
    clear hb hk i1 HP5 HA5 HBo5 HC5 HB5 HK5 HQ'
    go_wp2_with (first | (refine (same_true _ _ _ _ F _ HP6.out HQ6.out).mono ?_; rintro e w7 ⟨rfl, rfl⟩) | (refine (same_true _ _ _ _ la _ HC6.out HA6.out).mono ?_; rintro e w7 ⟨rfl, rfl⟩))
    clear HQ6 HC6 j1
    refine (copy_any w5.heap.size _ F w6 HP6.out hs56 (by have := HFl.out; omega)).mono ?_
    rintro e w7 ⟨d1, rfl, hO, hb⟩
    have HD := Lib.hid hO; clear hO
    have HA7 := Lib.hid (HA6.out.below hb (by omega))
    have HBo7 := Lib.hid (HBo6.out.below hb (by omega))
    have HB7 := Lib.hid (HB6.out.trans (hb.mono HB6.out.size))
    have hs67 : w6.heap.size ≤ w7.heap.size := hb.size
    clear hb HP6 HA6 HBo6 HB6
    go_wp2_with (at_builtin; ((with_reducible refine wpList_app_sl ?g1 (.tmp 57) (.tmp 58) ?g2 w6.heap.size d1 F lb ?g3 ?g4 w3.heap.size (.slice Ab lb.length cb) ?g5 ?g6 ?g7 ?g8 ?_); (case g1 => rfl); (case g2 => rfl); (case g3 => rfl); (case g4 => exact HD.out); (case g5 => rfl); (case g6 => exact HBo7.out); (case g7 => have := HFl.out; omega); (case g8 => exact hs67); intro d2 w8 hv hg; have Hv := Lib.hid hv.sl; clear hv; have Hg := Lib.hid (HD.out.belowBase hg hs67); have hs78 : w7.heap.size ≤ w8.heap.size := hg.size; clear hg))
    have HA8 := Lib.hid (HA7.out.below Hg.out (by omega))
    have HB8 := Lib.hid (HB7.out.trans (Hg.out.mono (by have := HB7.out.size; have := HB4s.out; omega)))
    clear HA7 HBo7 HB7 Hg HD
    have HUU := Lib.hid (unpack_any w8.heap.size d2 (F ++ lb) w8 Hv.out (Nat.le_refl _) (by rw [List.length_append]; have := HFl.out; omega))
    rw [HU.out] at HUU
    clear HU
    refine HUU.out.mono ?_
    rintro e w9 ⟨⟨x, rfl, hO⟩, hb⟩
    obtain ⟨Ax, cx, rfl, _, _, _, _⟩ := hO.sl
    have HX9 := Lib.hid hO.sl; clear hO
    have HA9 := Lib.hid (HA8.out.below hb (by omega))
    have HB9 := Lib.hid (HB8.out.trans (hb.mono HB8.out.size))
    have hs89 : w8.heap.size ≤ w9.heap.size := hb.size
    clear hb HA8 HB8 HUU Hv
    have HY := Lib.hid ((Below.refl w9.heap.size w9).alloc (Nat.le_refl _) (.cells #[.int .u8 (bn k), .slice Ax la.length cx] 27))
    go_wp2_with (refine (sameFr w9.heap.size w2.heap.size k (.slice Ax la.length cx) (.slice Aa la.length ca) la _ (HX9.out.below HY.out (Nat.le_refl _)) (HA9.out.below HY.out (by omega)) (by simp) (by simp; omega)).mono ?_; rintro e w10 ⟨rfl, hb⟩; have HZ := Lib.hid hb; clear hb)
    go_ret
    exact ⟨rfl, HB9.out.trans ((HY.out.trans (HZ.out.mono (by simp))).mono HB9.out.size)⟩
  · have hk' : (chk k la.length : Int) ≠ 0 := by omega
    have HP := Lib.hid (pack_bad k (.slice Ac la.length cc) la w4.heap.size _ (HC4.out.below HX.out (Nat.le_refl _)) (by omega) hk')
    have HQ := Lib.hid fun (W : World) (h : Sl W w2.heap.size (.slice Aa la.length ca) la) => packRef_bad k (.slice Aa la.length ca) la w2.heap.size W h hk (by omega)
    obtain ⟨E, hE⟩ : ∃ E, E = chk k la.length := ⟨_, rfl⟩
    rw [← hE] at HP HQ hk'
    clear hE hk
    have hne : ((E : Int) != 0) = true := by simp; omega
    go_wp2_with fail
    refine HP.out.mono ?_
    rintro e w5 ⟨rfl, hb⟩
    have hbx : Below w4.heap.size w4 w5 := HX.out.trans (hb.mono (by simp))
    have hk := (Blk.new w4 [.int .u8 (bn k), .slice Ac la.length cc] 27).below hb (by simp)
    have HK5 := Lib.hid hk
    have i1 := hk.at (o := 1) rfl
    have hs45 : w4.heap.size + 1 ≤ w5.heap.size := by have := hk.lt; omega
    clear hk hb HP
    have HA5 := Lib.hid (HA4.out.below hbx (by omega))
    have HC5 := Lib.hid (HC4.out.below hbx (Nat.le_refl _))
    have HB5 := Lib.hid (HB4.out.trans (hbx.mono HB4.out.size))
    clear hbx HA4 HBo4 HC4 HB4 HX
    go_wp2_with fail
    refine (HQ.out w5 HA5.out).mono ?_
    rintro e w6 ⟨rfl, hb⟩
    have HA6 := Lib.hid (HA5.out.below hb (by omega))
    have HC6 := Lib.hid (HC5.out.below hb (by omega))
    have HB6 := Lib.hid (HB5.out.trans (hb.mono HB5.out.size))
    have hk := HK5.out.below hb (by omega)
    have j1 := hk.at (o := 1) rfl
    have hs56 : w5.heap.size ≤ w6.heap.size := hb.size
    clear hb hk i1 HA5 HC5 HB5 HK5 HQ
    have HN := Lib.hid (fun (W : World) => (OwnB.nil W 0).sl)
    go_wp2_with (first | (refine (same_true _ _ _ _ [] _ (HN.out _) (HN.out _)).mono ?_; rintro e w7 ⟨rfl, rfl⟩) | (refine (same_true _ _ _ _ la _ HC6.out HA6.out).mono ?_; rintro e w7 ⟨rfl, rfl⟩))
    go_ret
    exact ⟨rfl, HB6.out⟩
end Go.Proofs.Ytgldfobfchnkeaa
