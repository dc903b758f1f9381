/- The statement B64Longer's own text, walked. -/
import Derived.Test.YtbjhaihfkncdoaaAwake3
import Derived.Test.YtbjhaihfkncdoaaCut2
namespace Go.Proofs.Ytbjhaihfkncdoaa
open Go.RowKit

theorem fill_append (x y : List UInt8) (h : x.length % 4 = 0) : fill (x ++ y) = x ++ fill y := by
  unfold fill
  rw [List.length_append, List.append_assoc, show (x.length + y.length) % 4 = y.length % 4 by omega]
theorem fill_self (x : List UInt8) (h : x.length % 4 = 0) : fill x = x := by
  unfold fill; rw [h]; simp
theorem letters6_len3 (al a : List UInt8) (h : a.length % 3 = 0) : (letters 6 al a).length % 4 = 0 := by
  rw [letters_length]; unfold many; omega
theorem encS_append (a b : List UInt8) (h : a.length % 3 = 0) : encS (a ++ b) = encS a ++ encS b := by
  unfold encS
  rw [letters_append 6 (by decide) alS a b (8 * a.length / 6) (by omega), fill_append _ _ (letters6_len3 alS a h), fill_self _ (letters6_len3 alS a h)]
theorem encU_append (a b : List UInt8) (h : a.length % 3 = 0) : encU (a ++ b) = encU a ++ encU b :=
  letters_append 6 (by decide) alU a b (8 * a.length / 6) (by omega)
theorem encH_append (a b : List UInt8) : encH (a ++ b) = encH a ++ encH b :=
  letters_append 4 (by decide) alH a b (2 * a.length) (by omega)
theorem encS_le (l : List UInt8) : (encS l).length ≤ 8 * l.length + 8 := by
  unfold encS fill; rw [List.length_append, List.length_replicate, letters_length]; unfold many; omega
theorem encU_le (l : List UInt8) : (encU l).length ≤ 8 * l.length + 8 := by
  unfold encU; rw [letters_length]; unfold many; omega
theorem encH_le (l : List UInt8) : (encH l).length ≤ 8 * l.length + 8 := by
  unfold encH; rw [letters_length]; unfold many; omega

set_option maxRecDepth 100000 in
set_option maxHeartbeats 1000000 in
theorem longer_any (B : Nat) (v1 v2 : Value) (l1 l2 : List UInt8) (w : World) (h1 : Sl w B v1 l1) (h2 : Sl w B v2 l2) (hB : B ≤ w.heap.size) :
    Calls Try.prog 7 #[v1, v2] w fun e w' => e = .returned (.bool true) ∧ Below w.heap.size w w' := by
  have H1 := Lib.hid h1; clear h1
  have H2 := Lib.hid h2; clear h2
  go_enter Try.func7, Try.ntmps7
  go_wp2_with fail
  refine (awake3 w).mono ?_
  rintro e w1 ⟨rfl, hb⟩
  have HB1 := Lib.hid hb; clear hb
  go_wp2_with fail
  refine (cut_any B v1 l1 90 w1 (H1.out.below HB1.out hB) (by have := HB1.out.size; omega) (by decide) (by decide)).mono ?_
  rintro e w2 ⟨a1, rfl, hO, hb⟩
  have HB2 := Lib.hid (HB1.out.trans (hb.mono HB1.out.size)); clear hb HB1
  have HA := Lib.hid hO; clear hO
  go_wp2_with fail
  refine (cut_any B v2 l2 90 w2 (H2.out.below HB2.out hB) (by have := HB2.out.size; omega) (by decide) (by decide)).mono ?_
  rintro e w3 ⟨b1, rfl, hO, hb⟩
  obtain ⟨la, hla⟩ : ∃ la, la = l1.take (90 : Int).toNat := ⟨_, rfl⟩
  obtain ⟨lb, hlb⟩ : ∃ lb, lb = l2.take (90 : Int).toNat := ⟨_, rfl⟩
  rw [← hlb] at hO
  have hla90 : la.length ≤ 90 := by rw [hla, List.length_take]; exact Nat.min_le_left _ _
  have hlb90 : lb.length ≤ 90 := by rw [hlb, List.length_take]; exact Nat.min_le_left _ _
  rw [← hla] at HA
  clear hla hlb
  have HA3 := Lib.hid ((HA.out.sl).below hb (Nat.le_refl _))
  have HB3 := Lib.hid (HB2.out.trans (hb.mono HB2.out.size))
  have hs23 : w2.heap.size ≤ w3.heap.size := hb.size
  clear hb HB2 HA
  have HBo := Lib.hid hO.sl; clear hO
  obtain ⟨q, hq⟩ : ∃ q, q = la.length / 3 * 3 := ⟨_, rfl⟩
  obtain ⟨A, c, e1, hk0, hk1, hk2, hsl⟩ := HA3.out.take q (by omega)
  subst e1
  have HP := Lib.hid hsl; clear hsl HA3
  have hrun := slice_h A la.length c q hk0
  have hcast : (la.length : Int) / 3 * 3 = (q : Int) := by omega
  obtain ⟨x, hx⟩ : ∃ x, x = la.take q := ⟨_, rfl⟩
  have hx3 : Hid (x.length % 3 = 0) := Lib.hid (by rw [hx, List.length_take]; omega)
  have hx90 : x.length ≤ 90 := by rw [hx, List.length_take]; omega
  rw [← hx] at HP
  clear hx hq
  go_wp2_with fail
  refine (copy_any w2.heap.size _ x w3 HP.out hs23 (by omega)).mono ?_
  rintro e w4 ⟨d1, rfl, hO, hb⟩
  have HD := Lib.hid hO; clear hO
  have HP4 := Lib.hid (HP.out.below hb hs23)
  have HB4 := Lib.hid (HBo.out.below hb (Nat.le_refl _))
  have HW4 := Lib.hid (HB3.out.trans (hb.mono HB3.out.size))
  have hs34 : w3.heap.size ≤ w4.heap.size := hb.size
  have hW3 : w.heap.size ≤ w3.heap.size := HB3.out.size
  clear hb HP HBo HB3
  go_wp2_with (at_builtin; ((with_reducible refine wpList_app_sl ?g1 (.tmp 19) (.tmp 20) ?g2 w3.heap.size d1 x lb ?g3 ?g4 w3.heap.size b1 ?g5 ?g6 ?g7 ?g8 ?_); (case g1 => rfl); (case g2 => rfl); (case g3 => rfl); (case g4 => exact HD.out); (case g5 => rfl); (case g6 => exact HB4.out); (case g7 => omega); (case g8 => exact hs34); intro d2 w5 hv hg; have Hv := Lib.hid hv; clear hv; have Hg := Lib.hid (HD.out.belowBase hg hs34); have hs45 : w4.heap.size ≤ w5.heap.size := hg.size; clear hg))
  have SD := Lib.hid Hv.out.sl; clear Hv
  have SX := Lib.hid ((HP4.out.below Hg.out hs23).more (show w2.heap.size ≤ w5.heap.size by omega))
  have SB := Lib.hid ((HB4.out.below Hg.out (Nat.le_refl _)).more (show w3.heap.size ≤ w5.heap.size by omega))
  have HW5 := Lib.hid (HW4.out.trans (Hg.out.mono (by have := hW3; omega)))
  clear HP4 HB4 HW4 Hg HD hrun hcast
  have hw5 : w.heap.size ≤ w5.heap.size := HW5.out.size
  have hj : ∀ a b : List UInt8, ByteArray.mk a.toArray ++ ByteArray.mk b.toArray = ByteArray.mk (a ++ b).toArray := fun a b => ByteArray.mk_append_mk a b
  have HJ := Lib.hid hj; clear hj
  refine (encode_any w5.heap.size d2 (x ++ lb) w5 (SD.out.below (Below.refl _ _) (Nat.le_refl _)) (Nat.le_refl _) (by rw [List.length_append]; omega)).mono ?_
  rintro e w6 ⟨rfl, hb⟩
  have HKw6 := Lib.hid (hb); clear hb
  rw [encS_append x lb hx3.out]
  go_wp2_with fail
  refine (encode_any w5.heap.size (.slice A q c) x w6 (SX.out.below HKw6.out (Nat.le_refl _)) (HKw6.out.size) (by omega)).mono ?_
  rintro e w7 ⟨rfl, hb⟩
  have HKw7 := Lib.hid (HKw6.out.trans (hb.mono HKw6.out.size)); clear hb HKw6
  go_wp2_with fail
  refine (encode_any w5.heap.size b1 lb w7 (SB.out.below HKw7.out (Nat.le_refl _)) (HKw7.out.size) (by omega)).mono ?_
  rintro e w8 ⟨rfl, hb⟩
  have HKw8 := Lib.hid (HKw7.out.trans (hb.mono HKw7.out.size)); clear hb HKw7
  have hsum : (encS x).length + (encS lb).length ≤ 9223372036854775807 := by have := encS_le x; have := encS_le lb; omega
  have hj := HJ.out
  go_wp2_with fail
  clear hsum hj
  refine (encodeURL_any w5.heap.size d2 (x ++ lb) w8 (SD.out.below HKw8.out (Nat.le_refl _)) (HKw8.out.size) (by rw [List.length_append]; omega)).mono ?_
  rintro e w9 ⟨rfl, hb⟩
  have HKw9 := Lib.hid (HKw8.out.trans (hb.mono HKw8.out.size)); clear hb HKw8
  rw [encU_append x lb hx3.out]
  go_wp2_with fail
  refine (encodeURL_any w5.heap.size (.slice A q c) x w9 (SX.out.below HKw9.out (Nat.le_refl _)) (HKw9.out.size) (by omega)).mono ?_
  rintro e w10 ⟨rfl, hb⟩
  have HKw10 := Lib.hid (HKw9.out.trans (hb.mono HKw9.out.size)); clear hb HKw9
  go_wp2_with fail
  refine (encodeURL_any w5.heap.size b1 lb w10 (SB.out.below HKw10.out (Nat.le_refl _)) (HKw10.out.size) (by omega)).mono ?_
  rintro e w11 ⟨rfl, hb⟩
  have HKw11 := Lib.hid (HKw10.out.trans (hb.mono HKw10.out.size)); clear hb HKw10
  have hsum : (encU x).length + (encU lb).length ≤ 9223372036854775807 := by have := encU_le x; have := encU_le lb; omega
  have hj := HJ.out
  go_wp2_with fail
  clear hsum hj
  refine (hex_any w5.heap.size d2 (x ++ lb) w11 (SD.out.below HKw11.out (Nat.le_refl _)) (HKw11.out.size) (by rw [List.length_append]; omega)).mono ?_
  rintro e w12 ⟨rfl, hb⟩
  have HKw12 := Lib.hid (HKw11.out.trans (hb.mono HKw11.out.size)); clear hb HKw11
  rw [encH_append x lb]
  go_wp2_with fail
  refine (hex_any w5.heap.size (.slice A q c) x w12 (SX.out.below HKw12.out (Nat.le_refl _)) (HKw12.out.size) (by omega)).mono ?_
  rintro e w13 ⟨rfl, hb⟩
  have HKw13 := Lib.hid (HKw12.out.trans (hb.mono HKw12.out.size)); clear hb HKw12
  go_wp2_with fail
  refine (hex_any w5.heap.size b1 lb w13 (SB.out.below HKw13.out (Nat.le_refl _)) (HKw13.out.size) (by omega)).mono ?_
  rintro e w14 ⟨rfl, hb⟩
  have HKw14 := Lib.hid (HKw13.out.trans (hb.mono HKw13.out.size)); clear hb HKw13
  have hsum : (encH x).length + (encH lb).length ≤ 9223372036854775807 := by have := encH_le x; have := encH_le lb; omega
  have hj := HJ.out
  go_wp2_with fail
  clear hsum hj
  go_ret
  exact ⟨rfl, HW5.out.trans (HKw14.out.mono hw5)⟩
end Go.Proofs.Ytbjhaihfkncdoaa
