/- The statement FrameBreaks's own text, walked. -/
import Derived.Test.YtgldfobfchnkeaaFrAwake
namespace Go.Proofs.Ytgldfobfchnkeaa
open Go.RowKit

theorem vb_hi2 (n : Nat) (h : n < 65536) : Value.int .u8 ((n : Int) / 256) = vb (UInt8.ofNat (n / 256)) := by
  have e : bn (UInt8.ofNat (n / 256)) = (n : Int) / 256 := by unfold bn; rw [UInt8.toNat_ofNat']; omega
  rw [vb, e]
unseal num2 in
theorem num2_len2 (n : Nat) (h : n < 65536) : num2 (UInt8.ofNat (n / 256)) (UInt8.ofNat n) = n := by
  unfold num2; rw [UInt8.toNat_ofNat', UInt8.toNat_ofNat']; omega
theorem un_head (k : UInt8) (n : Nat) (h : n < 65536) : un (k :: len2 n) = if chk k n ≠ 0 then .no (chk k n) else if n = 0 then .fr k [] [] else .no 2 := by
  show un (k :: UInt8.ofNat (n / 256) :: UInt8.ofNat n :: []) = _
  simp only [un, num2_len2 n h]
  by_cases hc : chk k n ≠ 0
  · rw [if_pos hc, if_pos hc]
  · rw [if_neg hc, if_neg hc]
    by_cases h0 : n = 0
    · subst h0; simp
    · rw [if_neg h0, if_pos (by simp; omega)]
set_option maxRecDepth 100000 in
set_option maxHeartbeats 2000000 in
theorem breaks_any (B : Nat) (k : UInt8) (n : Nat) (hn : n < 65536) (v1 v2 : Value) (l1 l2 : List UInt8) (w : World) (h1 : Sl w B v1 l1) (h2 : Sl w B v2 l2) (hB : B ≤ w.heap.size) :
    Calls Try.prog 7 #[v1, vb k, .int .u16 (n : Int), v2] w fun e w' => e = .returned (.bool true) ∧ Below w.heap.size w w' := by
  have H1 := Lib.hid h1; clear h1
  have H2 := Lib.hid h2; clear h2
  have hc1 := Lib.hid (vb_hi2 n hn)
  have hc2 := Lib.hid (vb_lo n)
  go_enter Try.func7, Try.ntmps7
  go_wp2_with fail
  refine (awake6 w).mono ?_
  rintro e w1 ⟨rfl, hb⟩
  have HB1 := Lib.hid hb; clear hb
  have hW1 : w.heap.size ≤ w1.heap.size := HB1.out.size
  go_wp2_with fail
  refine (newReader w1).mono ?_
  rintro e w2 ⟨V0, rfl, hr, hb⟩
  have HR2 := Lib.hid hr; clear hr
  have HB2 := Lib.hid (HB1.out.trans (hb.mono HB1.out.size))
  have hs12 : w1.heap.size ≤ w2.heap.size := hb.size
  clear hb HB1
  go_wp2_with fail
  refine (cut_any B v1 l1 100 w2 (H1.out.below HB2.out hB) (by omega) (by decide) (by decide)).mono ?_
  rintro e w3 ⟨a1, rfl, hO, hb⟩
  obtain ⟨la, hla⟩ : ∃ la, la = l1.take (100 : Int).toNat := ⟨_, rfl⟩
  have hla90 : la.length ≤ 100 := by rw [hla, List.length_take]; exact Nat.min_le_left _ _
  rw [← hla] at hO
  clear hla H1
  obtain ⟨Aa, ca, rfl, _, _, _, _⟩ := hO.sl
  have HA3 := Lib.hid hO.sl; clear hO
  have HR3 := Lib.hid (HR2.out.below hb)
  have HB3 := Lib.hid (HB2.out.trans (hb.mono (by omega)))
  have hs23 : w2.heap.size ≤ w3.heap.size := hb.size
  clear hb HB2 HR2
  have HPP : Hid (Calls Try.prog 12 #[.agg #[.int .u8 3, .slice Aa la.length ca]] w3 fun e w' => ∃ v', e = .returned (.tuple #[v', .int .i64 0]) ∧ OwnB w' w3.heap.size v' (frm 3 la) ∧ Below w3.heap.size w3 w') :=
    Lib.hid (packRef_ok 3 _ la w3.heap.size w3 HA3.out (Nat.le_refl _) (by decide) (by decide) (by omega))
  obtain ⟨F, hF⟩ : ∃ F, F = frm 3 la := ⟨_, rfl⟩
  rw [← hF] at HPP
  have HFl : Hid (F.length ≤ 103) := Lib.hid (by rw [hF, frm_length]; omega)
  have HU : Hid (∀ r, un (F ++ r) = .fr 3 la r) := Lib.hid fun r => by rw [hF]; exact un_frm 3 la r (chk_ok (by decide) (by decide) (by omega)) (by omega)
  clear hF
  go_wp2_with fail
  refine HPP.out.mono ?_
  rintro e w4 ⟨p, rfl, hO, hb⟩
  obtain ⟨Ap, cp, rfl, _, _, _, _⟩ := hO.sl
  have HP4 := Lib.hid hO.sl; clear hO
  have HR4 := Lib.hid (HR3.out.below hb)
  have HB4 := Lib.hid (HB3.out.trans (hb.mono (by omega)))
  have hs34 : w3.heap.size ≤ w4.heap.size := hb.size
  clear hb HB3 HR3 HPP HA3
  go_wp2_with fail
  refine (feed_any HR4.out w4.heap.size _ F HP4.out F.length (by rw [if_pos (by have := HFl.out; simp; omega)])).mono ?_
  rintro e w5 ⟨rfl, V1, hr, hc, _⟩
  have hb := HR4.out.chgBelow hc
  have hs45 : w4.heap.size ≤ w5.heap.size := hc.size
  rw [List.nil_append, List.take_length] at hr
  have HR5 := Lib.hid hr; clear hr hc
  have HB5 := Lib.hid (HB4.out.trans (hb.mono hW1))
  clear hb HB4 HR4 HP4
  have HA := Lib.hid ((Below.refl w5.heap.size w5).alloc (Nat.le_refl _) (.cells #[.int .u8 (bn k), .int .u8 ((n : Int) / 256), .int .u8 ((n : Int) % 256)] 5))
  have HSl : Hid (Sl (w5.alloc (.cells #[.int .u8 (bn k), .int .u8 ((n : Int) / 256), .int .u8 ((n : Int) % 256)] 5)) (w5.heap.size + 1) (.slice (some ⟨w5.heap.size, 0, none⟩) 3 3) (k :: len2 n)) :=
    Lib.hid (Sl.newA w5 _ _ (k :: len2 n) (by rw [hc1.out, hc2.out]; rfl) rfl rfl (by omega) (by simp [len2]))
  have HS3 : Hid ((k :: len2 n).length = 3) := Lib.hid rfl
  obtain ⟨G, hG⟩ : ∃ G, G = k :: len2 n := ⟨_, rfl⟩
  rw [← hG] at HSl HS3
  have HG := Lib.hid (un_head k n hn)
  rw [← hG] at HG
  clear hG
  go_wp2_with fail
  refine (feed_any (HR5.out.below HA.out) (w5.heap.size + 1) _ G HSl.out 3 (by have := HFl.out; have := HS3.out; rw [if_pos (by omega)]; omega)).mono ?_
  rintro e w6 ⟨rfl, V2, hr, hc, _⟩
  rw [List.take_of_length_le (by have := HS3.out; omega)] at hr
  have hb := ((HA.out.mono (by omega)).trans ((HR5.out.below HA.out).chgBelow hc))
  have hs56 : w5.heap.size ≤ w6.heap.size := hb.size
  have HR6 := Lib.hid hr; clear hr hc
  have HB6 := Lib.hid (HB5.out.trans (hb.mono hW1))
  clear hb HB5 HR5 HA HSl
  go_wp2_with fail
  refine (next_fr HR6.out 3 la G (HU.out G)).mono ?_
  rintro e w7 ⟨x7, V3, rfl, ho, hr, hc, _⟩
  obtain ⟨Ax, cx, rfl, _, _, _, _⟩ := ho.sl
  have hb := HR6.out.chgBelow hc
  have hs67 : w6.heap.size ≤ w7.heap.size := hc.size
  clear ho
  have HR7 := Lib.hid hr; clear hr hc
  have HB7 := Lib.hid (HB6.out.trans (hb.mono hW1))
  clear hb HB6 HR6
  have HA7 := Lib.hid ((Below.refl w7.heap.size w7).alloc (Nat.le_refl _) (.cells #[.int .u8 (bn 3), .slice Ax la.length cx] 27))
  have HR7a := Lib.hid (HR7.out.below HA7.out)
  have HB7a := Lib.hid (HB7.out.alloc (by omega) (.cells #[.int .u8 (bn 3), .slice Ax la.length cx] 27))
  clear HR7 HB7 HA7 HU
  go_wp2_with fail
  have hgs : w1.heap.size < w7.heap.size + 1 := by omega
  have hbk := bn_range k
  rcases chk_cases k n with ⟨hc, hk | hk⟩ | ⟨hc, hk1, hk2, hk3⟩ | ⟨hc, hk1, hk2, hk3⟩
  rotate_left 3
  · rw [hc, if_neg (by omega)] at HG
    clear hc
    have hk0 : ((bn k : Int) == 0) = false := by simp; omega
    have hn2 : (n : Int) ≤ 2048 := by omega
    by_cases h0 : n = 0
    · rw [if_pos h0] at HG
      have hn0 : ((n : Int) == 0) = true := by simp; omega
      clear h0
      refine (next_fr HR7a.out k [] [] HG.out).mono ?_
      rintro e w8 ⟨x8, V4, rfl, ho, hr, hc, _⟩
      obtain ⟨Ay, cy, rfl, _, _, _, _⟩ := ho.sl
      have hb := HR7a.out.chgBelow hc
      have hs78 : w7.heap.size + 1 ≤ w8.heap.size := by simpa using hc.size
      clear ho
      have HB8 := Lib.hid ((HB7a.out.trans (hb.mono hW1)).alloc (by omega) (.cells #[.int .u8 (bn k), .slice Ay 0 cy] 27))
      have HR8 := Lib.hid (hr.below ((Below.refl _ w8).alloc (Nat.le_refl _) (.cells #[.int .u8 (bn k), .slice Ay 0 cy] 27))); clear hr hc
      clear hb HB7a HR7a
      go_wp2_with (refine (broken_any HR8.out).mono ?_; rintro e w9 ⟨rfl, rfl⟩)
      go_ret
      exact ⟨rfl, HB8.out⟩
    · rw [if_neg h0] at HG
      have hn0 : ((n : Int) == 0) = false := by simp; omega
      clear h0
      refine (next_short HR7a.out HG.out).mono ?_
      rintro e w8 ⟨rfl, hb⟩
      have hs78 : w7.heap.size + 1 ≤ w8.heap.size := by simpa using hb.size
      have HB8 := Lib.hid ((HB7a.out.trans (hb.mono (by simp; omega))).alloc (by omega) (.cells #[.int .u8 0, .slice none 0 0] 27))
      have HR8 := Lib.hid ((HR7a.out.below hb).below ((Below.refl _ w8).alloc (Nat.le_refl _) (.cells #[.int .u8 0, .slice none 0 0] 27)))
      clear hb HB7a HR7a
      go_wp2_with (refine (broken_any HR8.out).mono ?_; rintro e w9 ⟨rfl, rfl⟩)
      go_ret
      exact ⟨rfl, HB8.out⟩
  · rw [hc, if_pos (by omega)] at HG
    have hk0 : ((bn k : Int) == 0) = true := by simp; omega
    have hq := HR7a.out.le
    clear hc hk
    refine (next_err HR7a.out 1 (.inl rfl) HG.out).mono ?_
    rintro e w8 ⟨rfl, hr, hc⟩
    have hb := HR7a.out.chgBelow hc
    have hs78 : w7.heap.size + 1 ≤ w8.heap.size := by simpa using hc.size
    have HB8 := Lib.hid ((HB7a.out.trans (hb.mono hW1)).alloc (by omega) (.cells #[.int .u8 0, .slice none 0 0] 27))
    have HR8 := Lib.hid (hr.below ((Below.refl _ w8).alloc (Nat.le_refl _) (.cells #[.int .u8 0, .slice none 0 0] 27))); clear hr hc
    clear hb HB7a HR7a
    go_wp2_with fail
    refine (next_bad HR8.out (by decide)).mono ?_
    rintro e w9 ⟨rfl, hb⟩
    have hs89 : w8.heap.size + 1 ≤ w9.heap.size := by simpa using hb.size
    have HB9 := Lib.hid ((HB8.out.trans (hb.mono (by simp; omega))).alloc (by omega) (.cells #[.int .u8 0, .slice none 0 0] 27))
    have HR9 := Lib.hid ((HR8.out.below hb).below ((Below.refl _ w9).alloc (Nat.le_refl _) (.cells #[.int .u8 0, .slice none 0 0] 27)))
    clear hb HB8 HR8
    go_wp2_with (refine (broken_any HR9.out).mono ?_; rintro e w10 ⟨rfl, rfl⟩)
    refine (cut_any B v2 l2 20 _ (H2.out.below HB9.out hB) (by have := HB9.out.size; omega) (by decide) (by decide)).mono ?_
    rintro e w11 ⟨m1, rfl, hO, hb⟩
    have HR11 := Lib.hid (HR9.out.below hb)
    have HB11 := Lib.hid (HB9.out.trans (hb.mono HB9.out.size))
    clear hO hb HR9 HB9
    go_wp2_with (first | (refine (feed_bad HR11.out (by decide) _).mono ?_; rintro e w12 ⟨rfl, rfl⟩) | (refine (waiting_any HR11.out).mono ?_; rintro e w12 ⟨rfl, rfl⟩))
    go_ret
    exact ⟨rfl, HB11.out⟩
  · rw [hc, if_pos (by omega)] at HG
    have hk0 : ((bn k : Int) == 0) = false := by simp; omega
    have hk15 : 15 < bn k := hk
    have hq := HR7a.out.le
    clear hc hk
    refine (next_err HR7a.out 1 (.inl rfl) HG.out).mono ?_
    rintro e w8 ⟨rfl, hr, hc⟩
    have hb := HR7a.out.chgBelow hc
    have hs78 : w7.heap.size + 1 ≤ w8.heap.size := by simpa using hc.size
    have HB8 := Lib.hid ((HB7a.out.trans (hb.mono hW1)).alloc (by omega) (.cells #[.int .u8 0, .slice none 0 0] 27))
    have HR8 := Lib.hid (hr.below ((Below.refl _ w8).alloc (Nat.le_refl _) (.cells #[.int .u8 0, .slice none 0 0] 27))); clear hr hc
    clear hb HB7a HR7a
    go_wp2_with fail
    refine (next_bad HR8.out (by decide)).mono ?_
    rintro e w9 ⟨rfl, hb⟩
    have hs89 : w8.heap.size + 1 ≤ w9.heap.size := by simpa using hb.size
    have HB9 := Lib.hid ((HB8.out.trans (hb.mono (by simp; omega))).alloc (by omega) (.cells #[.int .u8 0, .slice none 0 0] 27))
    have HR9 := Lib.hid ((HR8.out.below hb).below ((Below.refl _ w9).alloc (Nat.le_refl _) (.cells #[.int .u8 0, .slice none 0 0] 27)))
    clear hb HB8 HR8
    go_wp2_with (refine (broken_any HR9.out).mono ?_; rintro e w10 ⟨rfl, rfl⟩)
    refine (cut_any B v2 l2 20 _ (H2.out.below HB9.out hB) (by have := HB9.out.size; omega) (by decide) (by decide)).mono ?_
    rintro e w11 ⟨m1, rfl, hO, hb⟩
    have HR11 := Lib.hid (HR9.out.below hb)
    have HB11 := Lib.hid (HB9.out.trans (hb.mono HB9.out.size))
    clear hO hb HR9 HB9
    go_wp2_with (first | (refine (feed_bad HR11.out (by decide) _).mono ?_; rintro e w12 ⟨rfl, rfl⟩) | (refine (waiting_any HR11.out).mono ?_; rintro e w12 ⟨rfl, rfl⟩))
    go_ret
    exact ⟨rfl, HB11.out⟩
  · rw [hc, if_pos (by omega)] at HG
    have hk0 : ((bn k : Int) == 0) = false := by simp; omega
    have hk15 : bn k ≤ 15 := hk2
    have hn2 : (2048 : Int) < (n : Int) := by omega
    have hq := HR7a.out.le
    clear hc
    refine (next_err HR7a.out 3 (.inr rfl) HG.out).mono ?_
    rintro e w8 ⟨rfl, hr, hc⟩
    have hb := HR7a.out.chgBelow hc
    have hs78 : w7.heap.size + 1 ≤ w8.heap.size := by simpa using hc.size
    have HB8 := Lib.hid ((HB7a.out.trans (hb.mono hW1)).alloc (by omega) (.cells #[.int .u8 0, .slice none 0 0] 27))
    have HR8 := Lib.hid (hr.below ((Below.refl _ w8).alloc (Nat.le_refl _) (.cells #[.int .u8 0, .slice none 0 0] 27))); clear hr hc
    clear hb HB7a HR7a
    go_wp2_with fail
    refine (next_bad HR8.out (by decide)).mono ?_
    rintro e w9 ⟨rfl, hb⟩
    have hs89 : w8.heap.size + 1 ≤ w9.heap.size := by simpa using hb.size
    have HB9 := Lib.hid ((HB8.out.trans (hb.mono (by simp; omega))).alloc (by omega) (.cells #[.int .u8 0, .slice none 0 0] 27))
    have HR9 := Lib.hid ((HR8.out.below hb).below ((Below.refl _ w9).alloc (Nat.le_refl _) (.cells #[.int .u8 0, .slice none 0 0] 27)))
    clear hb HB8 HR8
    go_wp2_with (refine (broken_any HR9.out).mono ?_; rintro e w10 ⟨rfl, rfl⟩)
    refine (cut_any B v2 l2 20 _ (H2.out.below HB9.out hB) (by have := HB9.out.size; omega) (by decide) (by decide)).mono ?_
    rintro e w11 ⟨m1, rfl, hO, hb⟩
    have HR11 := Lib.hid (HR9.out.below hb)
    have HB11 := Lib.hid (HB9.out.trans (hb.mono HB9.out.size))
    clear hO hb HR9 HB9
    go_wp2_with (first | (refine (feed_bad HR11.out (by decide) _).mono ?_; rintro e w12 ⟨rfl, rfl⟩) | (refine (waiting_any HR11.out).mono ?_; rintro e w12 ⟨rfl, rfl⟩))
    go_ret
    exact ⟨rfl, HB11.out⟩
end Go.Proofs.Ytgldfobfchnkeaa
