/- guard: the statement GuardFull's own text, walked. -/
import Derived.Test.YtnfkkopegbeacaaDoorGdFrm
set_option maxRecDepth 100000
namespace Go.Proofs.YtnfkkopegbeacaaDoor
open Go.RowKit Go.Shelf
def nmG (q : Nat) : List UInt8 := [UInt8.ofNat (97 + q)]
def uF (f : Bool) : Int := if f then 12 else 10
def entF (f : Bool) (q : Nat) : VT := ⟨nmG q, if f then 1 else 0, 10, uF f⟩
def gfL (f : Bool) (j : Nat) : List (List UInt8 × VT) := (List.range j).map fun q => (nmG q, entF f q)
def nmsG : Array Value := #[strT [97], strT [98], strT [99], strT [100], strT [101]]
theorem nmsG_at {w : World} {nb : Nat} (h : w.heap[nb]? = some (Obj.cells nmsG 9 (0, 0))) (q : Nat) (hq : q < 5) : w.cell? ⟨nb, q, none⟩ = some (strT (nmG q)) := by
  have e : w.cell? ⟨nb, q, none⟩ = nmsG[q]? := by simp [World.cell?, h]
  rw [e]
  rcases (show q = 0 ∨ q = 1 ∨ q = 2 ∨ q = 3 ∨ q = 4 by omega) with rfl | rfl | rfl | rfl | rfl <;> rfl
theorem src_nm : ∀ q, q < 5 → srcB (nmG q) = true := by decide +kernel
theorem src_z : srcB [122] = true := by decide +kernel
theorem gfL_len (f : Bool) (j : Nat) : (gfL f j).length = j := by unfold gfL; rw [List.length_map, List.length_range]
theorem gfL_none (f : Bool) : ∀ j, j < 5 → getL (gfL f j) (nmG j) = none := by
  intro j hj
  rcases (show j = 0 ∨ j = 1 ∨ j = 2 ∨ j = 3 ∨ j = 4 by omega) with rfl | rfl | rfl | rfl | rfl <;> rfl
theorem gfL_enter (f : Bool) (j : Nat) (hj : j < 5) : enterL (gfL f j) (nmG j) 10 = (0, gfL f j ++ [(nmG j, ⟨nmG j, 0, 10, 10⟩)]) := by
  unfold enterL
  rw [src_nm j hj, if_pos rfl, gfL_none f j hj]
theorem gfL_false (j : Nat) : gfL false j ++ [(nmG j, ⟨nmG j, 0, 10, 10⟩)] = gfL false (j + 1) := by
  unfold gfL
  rw [List.range_succ, List.map_append]
  rfl
theorem fe_one (s : List UInt8) : fe 1 2 ⟨s, 0, 10, 10⟩ 10 = ⟨s, 1, 10, 12⟩ := by
  have h : aftL 10 (wI 1 (tI 2) (exN (min ((0 : Int) + 1) 60))) = 12 := by decide +kernel
  unfold fe
  show VT.mk s 1 10 (aftL 10 (wI 1 (tI 2) (exN (min ((0 : Int) + 1) 60)))) = _
  rw [h]
theorem gfL_get1 (f : Bool) : ∀ j, j < 5 → getL (gfL f j ++ [(nmG j, ⟨nmG j, 0, 10, 10⟩)]) (nmG j) = some ⟨nmG j, 0, 10, 10⟩ := by
  intro j hj
  rcases (show j = 0 ∨ j = 1 ∨ j = 2 ∨ j = 3 ∨ j = 4 by omega) with rfl | rfl | rfl | rfl | rfl <;> rfl
theorem gfL_fail : ∀ j, j < 5 → failL 1 2 (gfL true j ++ [(nmG j, ⟨nmG j, 0, 10, 10⟩)]) (nmG j) 10 = (0, gfL true (j + 1)) := by
  intro j hj
  unfold failL
  rw [src_nm j hj, if_pos rfl, gfL_get1 true j hj]
  show setL _ _ (fe 1 2 ⟨nmG j, 0, 10, 10⟩ 10) = _
  rw [fe_one]
  rcases (show j = 0 ∨ j = 1 ∨ j = 2 ∨ j = 3 ∨ j = 4 by omega) with rfl | rfl | rfl | rfl | rfl <;> rfl
theorem gfL_set : ∀ j, j < 5 → setL (gfL true j ++ [(nmG j, ⟨nmG j, 0, 10, 10⟩)]) (nmG j) (fe 1 2 ⟨nmG j, 0, 10, 10⟩ 10) = (0, gfL true (j + 1)) := by
  intro j hj
  rw [fe_one]
  rcases (show j = 0 ∨ j = 1 ∨ j = 2 ∨ j = 3 ∨ j = 4 by omega) with rfl | rfl | rfl | rfl | rfl <;> rfl
theorem gfL_u (f : Bool) (j : Nat) : ∀ q ∈ gfL f j, q.2.u = uF f := by
  intro q hq
  unfold gfL at hq
  obtain ⟨k, _, rfl⟩ := List.mem_map.1 hq
  rfl
theorem uF_rng (f : Bool) : uF f = 12 ∨ uF f = 10 := by cases f <;> simp [uF]
theorem gfL_sw (f : Bool) (j : Nat) {h now : Int} (h0 : 0 ≤ h) (h1 : h ≤ 1000) : swL h now (gfL f j) = if uF f + h ≤ now then [] else gfL f j := by
  have hu : tI (tI (uF f) + tI h) = uF f + h := by
    rw [tI_def, tI_def, tI_def]; rcases uF_rng f with e | e <;> rw [e] <;> omega
  unfold swL
  by_cases hc : uF f + h ≤ now
  · rw [if_pos hc, List.filter_eq_nil_iff]
    intro q hq
    unfold ovr
    rw [gfL_u f j q hq, hu, decide_eq_true hc]; simp
  · rw [if_neg hc, List.filter_eq_self]
    intro q hq
    unfold ovr
    rw [gfL_u f j q hq, hu, decide_eq_false hc]; rfl
theorem gfL_z (f : Bool) : ∀ j, j ≤ 5 → getL (gfL f j) [122] = none := by
  intro j hj
  rcases (show j = 0 ∨ j = 1 ∨ j = 2 ∨ j = 3 ∨ j = 4 ∨ j = 5 by omega) with rfl | rfl | rfl | rfl | rfl | rfl <;> rfl
theorem gfL_a (f : Bool) (j : Nat) (hj : 1 ≤ j) : getL (gfL f j) [97] = some (entF f 0) := by
  obtain ⟨k, rfl⟩ : ∃ k, j = k + 1 := ⟨j - 1, by omega⟩
  unfold gfL
  rw [List.range_succ_eq_map, List.map_cons, getL_cons]
  rfl
theorem gfL_putf (f : Bool) (j : Nat) (hj : j ≤ 5) (v : VT) : putL j (gfL f j) [122] v = (8, gfL f j) := by
  unfold putL
  rw [getL_has _ _ (gfL_z f j hj), if_neg (by simp), if_pos (gfL_len f j)]
theorem slice_s (nb n c k : Nat) (hk : k ≤ c) (hc : 0 < c) (w : World) : (Instr.slice 43 (.slice (some ⟨nb, 0, none⟩) n c) none (some (.int .i64 (k : Int))) none).run Tryd.prog w = .ok (.slice (some ⟨nb, 0, none⟩) k c) w := by
  rw [run_slice_h w 43 (some ⟨nb, 0, none⟩) n c Tryd.underlying43 .i64 k (by omega) (by omega)]
  have h0 : c ≠ 0 := by omega
  simp [sliced, go_sem, h0]
section
variable {w : World} {base G T m K : Nat} {hh : Int} {f : Bool}
theorem z_full (h : GD w base G T m K 1 2 hh (gfL f K)) (hK : K ≤ 5) (h0 : 1 ≤ hh) (h1 : hh ≤ 1000) (hT : tabsOK w) (now : Int) (hn : ¬ uF f + hh ≤ now) :
    Calls Tryd.prog 9 #[tP G, strT [122], u64v now] w fun e w' => e = .returned (.int .i64 8) ∧ GD w' base G T m K 1 2 hh (gfL f K) ∧ Below base w w' :=
  enter_full h [122] now (by simp) hT src_z (gfL_z f K hK) (gfL_len f K) (fun q hq => by rw [gfL_u f K q hq]; rcases uF_rng f with e | e <;> rw [e] <;> omega) (by omega) (by omega) (by rw [gfL_sw f K (by omega) h1, if_neg hn, gfL_putf f K hK])
theorem z_over (h : GD w base G T m K 1 2 hh (gfL f K)) (hK1 : 1 ≤ K) (hK : K ≤ 5) (h0 : 1 ≤ hh) (h1 : hh ≤ 1000) (hT : tabsOK w) (now : Int) (hn : uF f + hh ≤ now) :
    Calls Tryd.prog 9 #[tP G, strT [122], u64v now] w fun e w' => e = .returned (.int .i64 0) ∧ GD w' base G T m K 1 2 hh [([122], ⟨[122], 0, now, now⟩)] ∧ Below base w w' :=
  enter_full h [122] now (by simp) hT src_z (gfL_z f K hK) (gfL_len f K) (fun q hq => by rw [gfL_u f K q hq]; rcases uF_rng f with e | e <;> rw [e] <;> omega) (by omega) (by omega) (by
    rw [gfL_sw f K (by omega) h1, if_pos hn]
    unfold putL
    rw [show hasL [] [122] = false from rfl, if_neg (by simp), if_neg (by simp; omega)]; rfl)
theorem a_in (h : GD w base G T m K 1 2 hh (gfL f K)) (hK1 : 1 ≤ K) (hT : tabsOK w) (now : Int) (hn : uF f ≤ now) :
    Calls Tryd.prog 9 #[tP G, strT [97], u64v now] w fun e w' => e = .returned (.int .i64 0) ∧ GD w' base G T m K 1 2 hh (gfL f K) ∧ Below base w w' :=
  enter_s h [97] now (by simp) hT (fun h => by rw [gfL_a f K hK1] at h; cases h) (by
    unfold enterL
    rw [show srcB [97] = true from src_nm 0 (by omega), if_pos rfl, gfL_a f K hK1]
    show (if now < uF f then (11 : Int) else 0, gfL f K) = _
    rw [if_neg (by omega)])
end
set_option maxHeartbeats 4000000 in
theorem guardFull_law (u1 u2 : Int) (f : Bool) (w : World) (h1 : 0 ≤ u1 ∧ u1 ≤ 255) (h2 : 0 ≤ u2 ∧ u2 ≤ 65535) (hT : tabsOK w) :
    Calls Tryd.prog 5 #[.int .u8 u1, .int .u16 u2, .bool f] w fun e w' => e = .returned (.bool true) ∧ Below w.heap.size w w' := by
  have HT := Lib.hid hT; clear hT
  obtain ⟨K, hK⟩ : ∃ K : Nat, (K : Int) = 1 + u1 % 5 := ⟨(1 + u1 % 5).toNat, by omega⟩
  obtain ⟨hh, hhd⟩ : ∃ hh, hh = 1 + u2 % 1000 := ⟨_, rfl⟩
  have hK1 : 1 ≤ K := by omega
  have hK2 : K ≤ 5 := by omega
  have hh1 : 1 ≤ hh := by omega
  have hh2 : hh ≤ 1000 := by omega
  have hm1 : 0 ≤ u1 % 5 ∧ u1 % 5 < 5 := by omega
  have hm2 : 0 ≤ u2 % 1000 ∧ u2 % 1000 < 1000 := by omega
  have HK := Lib.hid hK; clear hK
  have HH := Lib.hid hhd; clear hhd
  go_enter Tryd.func5, Tryd.ntmps5
  go_wp2_with fail
  refine (awake13 w HT.out).mono ?_
  rintro e w1 ⟨rfl, hB1⟩
  have HB1 := Lib.hid hB1; clear hB1
  go_wp2_with fail
  rw [← HK.out, ← HH.out]
  refine (new_gd K 1 2 hh w1 hK1 (by omega) (by omega) (by omega) (by omega) (by omega) (by omega) (by omega)).mono ?_
  rintro e w2 ⟨G, T, mm, rfl, h2, b2⟩
  have H2 := Lib.hid h2; have HB2 := Lib.hid (HB1.out.trans (b2.mono HB1.out.size)); clear h2 b2
  have HW1 := Lib.hid HB1.out.size
  have hsl := slice_s w2.heap.size 5 5 K hK2 (by omega)
  go_wp2_with fail
  obtain ⟨w3, hw3⟩ : ∃ w3, w3 = w2.alloc (.cells nmsG 9) := ⟨_, rfl⟩
  have hN : w3.heap[w2.heap.size]? = some (Obj.cells nmsG 9 (0, 0)) := by rw [hw3]; exact heap_alloc_new w2 _
  have hT3 : GD w3 w1.heap.size G T mm K 1 2 hh [] := by rw [hw3]; exact H2.out.keep ((Below.refl _ _).alloc (Nat.le_refl _) _)
  have hB3 : Below w.heap.size w w3 := by rw [hw3]; exact HB2.out.alloc HB2.out.size _
  have hfold : w2.alloc (.cells #[strT [97], strT [98], strT [99], strT [100], strT [101]] 9) = w3 := hw3.symm
  rw [hfold]
  clear hw3 hfold hsl
  obtain ⟨nb, hnb⟩ : ∃ nb, nb = w2.heap.size := ⟨_, rfl⟩
  rw [← hnb] at hN ⊢
  clear hnb
  have HN := Lib.hid hN
  have HT3 := Lib.hid hT3
  have HB3 := Lib.hid hB3
  clear hN hT3 hB3
  go_loopw [39] (fun i wr => ∃ (j : Nat), j ≤ K ∧ i = .int .i64 (j : Int) ∧ GD wr w1.heap.size G T mm K 1 2 hh (gfL f j) ∧ wr.heap[nb]? = some (Obj.cells nmsG 9 (0, 0)) ∧ Below w.heap.size w wr) (fun i _ => K - (intOf i).toNat)
  case atStart => exact ⟨0, by omega, rfl, HT3.out, HN.out, HB3.out⟩
  case round =>
    obtain ⟨j, hj, rfl, hg, hrow, hbw⟩ := hrel
    by_cases hlt : j < K
    · have HG := Lib.hid hg
      have HN := Lib.hid hrow
      have HBW := Lib.hid hbw
      have hc := nmsG_at hrow j (by omega)
      have hsrc := src_nm j (by omega)
      have hgn := gfL_none f j (by omega)
      have hg1 := gfL_get1 f j (by omega)
      have hgf := gfL_false j
      have hgs := gfL_set j (by omega)
      have hkl : (nmG j).length ≤ 600 := by unfold nmG; simp
      obtain ⟨key, hkey⟩ : ∃ key, key = nmG j := ⟨_, rfl⟩
      rw [← hkey] at hc hsrc hgn hg1 hgf hgs hkl
      clear hkey hg hrow hbw
      have HG1 := Lib.hid hg1; have HGF := Lib.hid hgf; have HGS := Lib.hid hgs; have HGN := Lib.hid hgn
      clear hg1 hgf hgs hgn
      cases f
      · go_wp2_with fail
        refine (enter_fr HG.out key 10 hkl (Utf8Tabs_below HT.out HBW.out) hsrc HGN.out (fun _ => by rw [gfL_len]; omega)).mono ?_
        rintro e w4 ⟨rfl, h4, f4⟩
        have H4 := Lib.hid h4; have HB4 := Lib.hid (HBW.out.trans (f4.low.mono HW1.out)); have HN4 := Lib.hid (f4.kt _ _ _ _ HN.out (by decide) (by decide)); clear h4 f4 hc
        go_wp2_with fail
        go_roundw
        case rel => exact ⟨j + 1, by omega, by go_num, by rw [← HGF.out]; exact H4.out, HN4.out, HB4.out⟩
        case measure => simp [intOf]; omega
      · go_wp2_with fail
        refine (enter_fr HG.out key 10 hkl (Utf8Tabs_below HT.out HBW.out) hsrc HGN.out (fun _ => by rw [gfL_len]; omega)).mono ?_
        rintro e w4 ⟨rfl, h4, f4⟩
        have H4 := Lib.hid h4; have HB4 := Lib.hid (HBW.out.trans (f4.low.mono HW1.out)); have HN4 := Lib.hid (f4.kt _ _ _ _ HN.out (by decide) (by decide)); clear h4 f4 hc
        go_wp2_with fail
        have hff := fail_fr H4.out key 10 _ hkl (Utf8Tabs_below HT.out HB4.out) (by omega) (by omega) (by omega) (by omega) (by omega) (by omega) hsrc HG1.out (by simp) (by simp)
        rw [HGS.out] at hff
        refine hff.mono ?_
        clear hff
        rintro e w5 ⟨rfl, h5, f5⟩
        have H5 := Lib.hid h5; have HB5 := Lib.hid (HB4.out.trans (f5.low.mono HW1.out)); have HN5 := Lib.hid (f5.kt _ _ _ _ HN4.out (by decide) (by decide)); clear h5 f5
        go_wp2_with fail
        go_roundw
        case rel => exact ⟨j + 1, by omega, by go_num, H5.out, HN5.out, HB5.out⟩
        case measure => simp [intOf]; omega
    · obtain rfl : j = K := by omega
      cases f
      · have H4 := Lib.hid hg; have HB4 := Lib.hid hbw; clear hg hbw hrow
        go_wp2_with fail
        refine (z_full H4.out hK2 hh1 hh2 (Utf8Tabs_below HT.out HB4.out) _ (by unfold uF; first | (simp; omega) | simp)).mono ?_
        rintro e w5 ⟨rfl, h5, b5⟩
        have H5 := Lib.hid h5; have HB5 := Lib.hid (HB4.out.trans (b5.mono HW1.out)); clear h5 b5
        go_wp2_with fail
        refine (z_full H5.out hK2 hh1 hh2 (Utf8Tabs_below HT.out HB5.out) _ (by unfold uF; first | (simp; omega) | simp)).mono ?_
        rintro e w6 ⟨rfl, h6, b6⟩
        have H6 := Lib.hid h6; have HB6 := Lib.hid (HB5.out.trans (b6.mono HW1.out)); clear h6 b6
        go_wp2_with fail
        refine (len_gd H6.out).mono ?_
        rintro e w7 ⟨rfl, rfl⟩
        rw [gfL_len]
        go_wp2_with fail
        refine (a_in H6.out hK1 (Utf8Tabs_below HT.out HB6.out) _ (by unfold uF; first | (simp; omega) | simp)).mono ?_
        rintro e w8 ⟨rfl, h8, b8⟩
        have H8 := Lib.hid h8; have HB8 := Lib.hid (HB6.out.trans (b8.mono HW1.out)); clear h8 b8
        go_wp2_with fail
        refine (z_over H8.out hK1 hK2 hh1 hh2 (Utf8Tabs_below HT.out HB8.out) _ (by unfold uF; first | (simp; omega) | simp)).mono ?_
        rintro e w9 ⟨rfl, h9, b9⟩
        have H9 := Lib.hid h9; have HB9 := Lib.hid (HB8.out.trans (b9.mono HW1.out)); clear h9 b9
        go_wp2_with fail
        refine (len_gd H9.out).mono ?_
        rintro e w10 ⟨rfl, rfl⟩
        go_wp2_with fail
        go_ret
        exact ⟨rfl, HB9.out⟩
      · have H4 := Lib.hid hg; have HB4 := Lib.hid hbw; clear hg hbw hrow
        go_wp2_with fail
        refine (z_full H4.out hK2 hh1 hh2 (Utf8Tabs_below HT.out HB4.out) _ (by unfold uF; first | (simp; omega) | simp)).mono ?_
        rintro e w5 ⟨rfl, h5, b5⟩
        have H5 := Lib.hid h5; have HB5 := Lib.hid (HB4.out.trans (b5.mono HW1.out)); clear h5 b5
        go_wp2_with fail
        refine (z_full H5.out hK2 hh1 hh2 (Utf8Tabs_below HT.out HB5.out) _ (by unfold uF; first | (simp; omega) | simp)).mono ?_
        rintro e w6 ⟨rfl, h6, b6⟩
        have H6 := Lib.hid h6; have HB6 := Lib.hid (HB5.out.trans (b6.mono HW1.out)); clear h6 b6
        go_wp2_with fail
        refine (len_gd H6.out).mono ?_
        rintro e w7 ⟨rfl, rfl⟩
        rw [gfL_len]
        go_wp2_with fail
        refine (a_in H6.out hK1 (Utf8Tabs_below HT.out HB6.out) _ (by unfold uF; first | (simp; omega) | simp)).mono ?_
        rintro e w8 ⟨rfl, h8, b8⟩
        have H8 := Lib.hid h8; have HB8 := Lib.hid (HB6.out.trans (b8.mono HW1.out)); clear h8 b8
        go_wp2_with fail
        refine (z_over H8.out hK1 hK2 hh1 hh2 (Utf8Tabs_below HT.out HB8.out) _ (by unfold uF; first | (simp; omega) | simp)).mono ?_
        rintro e w9 ⟨rfl, h9, b9⟩
        have H9 := Lib.hid h9; have HB9 := Lib.hid (HB8.out.trans (b9.mono HW1.out)); clear h9 b9
        go_wp2_with fail
        refine (len_gd H9.out).mono ?_
        rintro e w10 ⟨rfl, rfl⟩
        go_wp2_with fail
        go_ret
        exact ⟨rfl, HB9.out⟩
end Go.Proofs.YtnfkkopegbeacaaDoor
