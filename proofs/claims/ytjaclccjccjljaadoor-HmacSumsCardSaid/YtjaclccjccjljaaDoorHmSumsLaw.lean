/- The statement HmacSums' own text, walked. -/
import Derived.Test.YtjaclccjccjljaaDoorHmRefS
import Derived.Test.YtjaclccjccjljaaDoorWh
namespace Go.Proofs.YtjaclccjccjljaaDoor
open Go.RowKit
/-- The first k parts, at most five, cut. -/
def cuts5 (ls : List (List UInt8)) (n k : Nat) : List (List UInt8) := ((ls.take k).take 5).map (·.take n)
theorem cuts5_zero (ls : List (List UInt8)) (n : Nat) : cuts5 ls n 0 = [] := rfl
theorem cuts5_len (ls : List (List UInt8)) (n k : Nat) : (cuts5 ls n k).length = min 5 (min k ls.length) := by unfold cuts5; simp
theorem cuts5_lo (ls : List (List UInt8)) (n k : Nat) (hk : k < ls.length) (h6 : k < 5) : cuts5 ls n (k + 1) = cuts5 ls n k ++ [(ls[k]).take n] := by
  unfold cuts5
  rw [List.take_take, List.take_take, Nat.min_eq_right (by omega), Nat.min_eq_right (by omega), List.take_succ_eq_append_getElem hk, List.map_append]; rfl
theorem cuts5_hi (ls : List (List UInt8)) (n k : Nat) (h6 : 5 ≤ k) : cuts5 ls n (k + 1) = cuts5 ls n k := by
  unfold cuts5
  rw [List.take_take, List.take_take, Nat.min_eq_left (by omega), Nat.min_eq_left (by omega)]
theorem cuts5_at (ls : List (List UInt8)) (n j : Nat) (h : j < (cuts5 ls n ls.length).length) (h2 : j < ls.length) : (cuts5 ls n ls.length)[j] = (ls[j]).take n := by
  unfold cuts5
  simp [List.getElem_take]
theorem cuts5_short (ls : List (List UInt8)) (n k : Nat) : ∀ x ∈ cuts5 ls n k, x.length ≤ n := by
  intro x hx
  unfold cuts5 at hx
  rw [List.mem_map] at hx
  obtain ⟨y, _, rfl⟩ := hx
  exact List.length_take_le _ _
attribute [irreducible] cuts5
set_option maxRecDepth 100000 in
set_option maxHeartbeats 4000000 in
theorem hmacSums_law (B : Nat) (v0 v : Value) (l0 : List UInt8) (ls : List (List UInt8)) (w : World) (h0 : Sl w B v0 l0) (hs0 : Sls w B v ls) (hB0 : B ≤ w.heap.size) (hT : TabA w) (hU : TabB w) :
    Calls Tryd.prog 3 #[v0, v] w fun e w' => e = .returned (.bool true) ∧ Below w.heap.size w w' := by
  obtain ⟨i0, hi, hz0, hz1, hz2⟩ := info_parts info_bs
  have hs := hs0.more hB0
  have H0 := Lib.hid (h0.more hB0)
  clear hs0 h0 hB0
  have HS := Lib.hid hs
  have hG := tab_lt hT
  have hG2 : 1 < w.heap.size := World.block_lt_of_cell? w _ (hU 0 (by decide))
  have HT := Lib.hid hT; clear hT
  have HU := Lib.hid hU; clear hU
  obtain ⟨A, c, rfl, k1, k2, k3⟩ := hs
  have H3 := Lib.hid k3; clear k3
  go_enter Tryd.func3, Tryd.ntmps3
  go_wp2_with fail
  refine (awake2 w HT.out).mono ?_
  rintro e w1 ⟨rfl, hB1⟩
  have HB1 := Lib.hid hB1; clear hB1
  have hy1 := HB1.out.size
  go_wp2_with fail
  refine (cut_any w.heap.size v0 l0 150 w1 (H0.out.below HB1.out (Nat.le_refl _)) hy1 (by omega) (by omega)).mono ?_
  rintro e w2 ⟨a1, rfl, hO, hB2⟩
  obtain ⟨a, ha⟩ : ∃ a, a = l0.take (150 : Int).toNat := ⟨_, rfl⟩
  rw [← ha] at hO
  have hla : a.length ≤ 150 := by rw [ha, List.length_take]; omega
  clear ha
  have HA := Lib.hid hO.sl; clear hO
  have HB2 := Lib.hid (HB1.out.trans (hB2.mono hy1)); clear hB2
  have hy2 := HB2.out.size
  go_wp2_with fail
  refine (copy_any w2.heap.size a1 a w2 HA.out (Nat.le_refl _) (by omega)).mono ?_
  rintro e w3 ⟨a2, rfl, hO, hB3⟩
  have HM := Lib.hid hO.sl; clear hO
  have HA3 := Lib.hid (HA.out.fwd hB3)
  have HB3 := Lib.hid (HB2.out.trans (hB3.mono hy2)); clear hB3
  have hy3 := HB3.out.size
  go_wp2_with fail
  go_loopw [6, 7, 8, 9, 21] (fun vp va _ _ i wr => ∃ (k : Nat) (vs : List Value), k ≤ ls.length ∧ i = .int .i64 k ∧ Wh wr w3.heap.size vp va (cuts5 ls 100 k) vs ∧ Below w3.heap.size w3 wr) (fun _ _ _ _ i _ => ls.length - (intOf i).toNat)
  case atStart =>
    refine ⟨0, [], by omega, rfl, ?_, Below.refl _ _⟩
    rw [cuts5_zero]
    exact ⟨World.ownsRow_nil _ _ _ _, rfl, fun j hj => by simp at hj, OwnB.nil _ _, Nat.le_refl _⟩
  case round =>
    obtain ⟨k, vs, hk, rfl, hW, hB⟩ := hrel
    have HW := Lib.hid hW; clear hW
    have HB := Lib.hid hB; clear hB
    have HBw := Lib.hid (HB3.out.trans (HB.out.mono hy3))
    have hyr := HBw.out.size
    by_cases hlt : k < ls.length
    · obtain ⟨b, o, rfl, hb, hx⟩ := H3.out (by omega)
      obtain ⟨vj, hc, hsl⟩ := hx k hlt
      have hcell : wr.cell? ⟨b, o + k, none⟩ = some vj := (HBw.out.cell (p := ⟨b, o + k, none⟩) hb).trans hc
      have HSL := Lib.hid (hsl.below HBw.out (Nat.le_refl _))
      clear hx hc hsl
      by_cases h6 : k < 5
      · have h6' : (k : Int) < 5 := by omega
        have HC := Lib.hid (cuts5_lo ls 100 k hlt h6)
        have hlen : (cuts5 ls 100 k).length ≤ 5 := by rw [cuts5_len]; omega
        have hfl : (cuts5 ls 100 k).flatten.length ≤ 500 := by
          have := flatten_le 100 _ (cuts5_short ls 100 k)
          have h2 : 100 * (cuts5 ls 100 k).length ≤ 100 * 5 := Nat.mul_le_mul (Nat.le_refl _) hlen
          omega
        go_wp2_with fail
        refine (cut_any w.heap.size vj ls[k] 100 wr HSL.out hyr (by omega) (by omega)).mono ?_
        rintro e w5 ⟨v1, rfl, hO, hB1⟩
        obtain ⟨x, hx⟩ : ∃ x, x = (ls[k]).take (100 : Int).toNat := ⟨_, rfl⟩
        have hxl : x.length ≤ 100 := by rw [hx]; exact List.length_take_le _ _
        rw [show (100 : Int).toNat = 100 from rfl] at hx
        rw [← hx] at HC
        rw [show (100 : Int).toNat = 100 from rfl, ← hx] at hO
        clear hx
        obtain ⟨A1, c1, rfl, _⟩ := hO.sl
        have HO := Lib.hid hO; clear hO
        have HB1 := Lib.hid hB1; clear hB1
        have HW1 := Lib.hid (HW.out.below HB1.out)
        have hz1' := HW1.out.le
        go_wp2_with (first
          | (at_builtin; ((with_reducible refine wpList_append_own_at _ ?a1 (.tmp 30) (.tmp 32) 23 ?a2 w3.heap.size 22 i0 (.slice none 0 0) 1 24 Tryd.underlying23 hi hz0 hz1 hz2 ?a3 (by decide) u6 (cuts5 ls 100 k).length vs ?a4 (HW1.out.row.alloc _) ⟨w5.heap.size, 0, none⟩ 1 1 [.slice A1 x.length c1] ?a5 ?a6 (cell_one_new _ _ _) ?a7 (by unfold maxLen; omega) (by omega) ?a8 ?_); (case a1 => rfl); (case a2 => rfl); (case a3 => rfl); (case a4 => rfl); (case a5 => rfl); (case a6 => rfl); (case a7 => simp [Value.oneCell']); (case a8 => simp; omega); intro vp' w6 hr3 hg3 _ _; have H2 := HW1.out.below ((Below.refl w5.heap.size w5).alloc (Nat.le_refl _) (.cells #[.slice A1 x.length c1] 22)); have HR3 := Lib.hid hr3; have HG3 := Lib.hid hg3; have HA6 := Lib.hid (H2.all.kept hg3 (ownB_apart H2.all H2.row)); have HX3 := Lib.hid ((HO.out.below ((Below.refl w5.heap.size w5).alloc (Nat.le_refl _) (.cells #[.slice A1 x.length c1] 22))).kept hg3 (ownB_apart (HO.out.below ((Below.refl w5.heap.size w5).alloc (Nat.le_refl _) _)) H2.row)).sl; have hz3 : w3.heap.size ≤ w6.heap.size := Nat.le_trans H2.le hg3.size; clear H2 hr3 hg3))
          | (at_builtin; ((with_reducible refine wpList_app_at ?b1 (.tmp 34) (.tmp 35) ?b2 w3.heap.size u7 (cuts5 ls 100 k).flatten x ?b3 ?b4 _ (.slice A1 x.length c1) ?b5 HX3.out ?b6 ?b7 ?_); (case b1 => rfl); (case b2 => rfl); (case b3 => rfl); (case b4 => exact HA6.out); (case b5 => rfl); (case b6 => omega); (case b7 => exact hz3); intro va' w7 hv4 hg4 hat4; have HV4 := Lib.hid hv4; have HG4 := Lib.hid hg4; have HAT := Lib.hid hat4; clear hv4 hg4 hat4)))
        have hstep := HW.out.step HB1.out HO.out ((Below.refl w5.heap.size w5).alloc (Nat.le_refl _) (.cells #[.slice A1 x.length c1] 22)) HR3.out HG3.out HV4.out HG4.out HAT.out
        have HST := Lib.hid hstep; clear hstep
        have HB4 : Hid (Below w3.heap.size w3 w7) := Lib.hid (by
          have b1 := (HB.out.trans (HB1.out.mono HB.out.size)).alloc hz1' (.cells #[.slice A1 x.length c1] 22)
          have b2 := b1.grown HG3.out (by simp; omega) (fun j e => (World.ownsRow.lt HW1.out.row j e).1)
          exact b2.grown HG4.out hz3 (fun j e => (HA6.out.lt j e).1))
        go_wp2_with fail
        go_roundw
        case rel => exact ⟨k + 1, vs ++ [.slice A1 x.length c1], by omega, by go_num, by rw [HC.out]; exact HST.out, HB4.out⟩
        case measure => simp [intOf]; omega
      · have h6' : ¬ (k : Int) < 5 := by omega
        have HC := Lib.hid (cuts5_hi ls 100 k (by omega))
        go_wp2_with fail
        go_roundw
        case rel => exact ⟨k + 1, vs, by omega, by go_num, by rw [HC.out]; exact HW.out, HB.out⟩
        case measure => simp [intOf]; omega
    · obtain rfl : k = ls.length := by omega
      obtain ⟨w4, hw4⟩ : ∃ w4, w4 = wr := ⟨_, rfl⟩
      subst hw4
      obtain ⟨L, hL⟩ : ∃ L, L = cuts5 ls 100 ls.length := ⟨_, rfl⟩
      rw [← hL] at HW
      have hLl : L.length ≤ 5 ∧ L.length ≤ ls.length := by rw [hL, cuts5_len]; omega
      have hLs : ∀ x ∈ L, x.length ≤ 100 := by rw [hL]; exact cuts5_short _ _ _
      have hLf : L.flatten.length ≤ 500 := by have := flatten_le 100 L hLs; have h2 : 100 * L.length ≤ 100 * 5 := Nat.mul_le_mul (Nat.le_refl _) hLl.1; omega
      have HLS := Lib.hid hLs; clear hLs
      have HLA : Hid (∀ j (h : j < L.length) (h2 : j < ls.length), L[j] = (ls[j]).take 100) := Lib.hid (by subst hL; exact fun j h h2 => cuts5_at ls 100 j h h2)
      clear hL
      have HM4 := Lib.hid ((HM.out.below HB.out (Nat.le_refl _)).more HB.out.size)
      have HA4 := Lib.hid ((HA3.out.below HB.out (Nat.le_refl _)).more HB.out.size)
      go_wp2_with fail
      refine (hmacSum_any a2 u6 a L w4 HM4.out (by omega) HW.out.sls (fun l h => by have := HLS.out l h; omega) (HT.out.below HBw.out hG)).mono ?_
      rintro e w5 ⟨vg, rfl, hO5, hB5⟩
      have HW5 := Lib.hid (HW.out.below hB5)
      have HO5 := Lib.hid hO5.sl
      have HM5 := Lib.hid (HM4.out.fwd hB5)
      have HA5 := Lib.hid (HA4.out.fwd hB5)
      have hB5w := HBw.out.trans (hB5.mono hyr)
      have HB5 := Lib.hid hB5w; clear hB5 hO5 hB5w
      have hz5 := HB5.out.size
      have HP5 := Lib.hid HW5.out.sls
      obtain ⟨Ap, cp, rfl, p1, p2, p3⟩ := HW5.out.sls
      have P3 := Lib.hid p3; clear p3
      clear p1 p2
      go_wp2_with fail
      go_loopw [11, 12, 43] (fun _ _ i wr => ∃ k : Nat, k ≤ L.length ∧ i = .int .i64 k ∧ Below w5.heap.size w5 wr) (fun _ _ i _ => L.length - (intOf i).toNat)
      case atStart => exact ⟨0, by omega, rfl, Below.refl _ _⟩
      case round =>
        obtain ⟨k, hk, rfl, hB⟩ := hrel
        have HBq := Lib.hid hB; clear hB
        by_cases hlt : k < L.length
        · have hlt2 : k < ls.length := by omega
          obtain ⟨b, o, rfl, hb, hx⟩ := H3.out (by omega)
          obtain ⟨vj, hc, hsl⟩ := hx k hlt2
          have hcell : wr.cell? ⟨b, o + k, none⟩ = some vj := (HBq.out.cell (p := ⟨b, o + k, none⟩) (by show b < w5.heap.size; omega)).trans ((HB5.out.cell (p := ⟨b, o + k, none⟩) hb).trans hc)
          obtain ⟨b2, o2, rfl, hb2, hx2⟩ := P3.out (by omega)
          obtain ⟨vi, hc2, hsl2⟩ := hx2 k hlt
          have hcell2 : wr.cell? ⟨b2, o2 + k, none⟩ = some vi := (HBq.out.cell (p := ⟨b2, o2 + k, none⟩) hb2).trans hc2
          have HSL := Lib.hid ((hsl.below HB5.out (Nat.le_refl _)).below HBq.out hz5)
          have HSL2 := Lib.hid (hsl2.below HBq.out (Nat.le_refl _))
          have hki : (k : Int) < (ls.length : Int) := by omega
          have hzr := HBq.out.size
          clear hx hc hsl hx2 hc2 hsl2
          go_wp2_with fail
          refine (cut_any w.heap.size vj ls[k] 100 wr HSL.out (by omega) (by omega) (by omega)).mono ?_
          rintro e w6 ⟨v4, rfl, hO, hB6⟩
          have HB6 := Lib.hid (HBq.out.trans (hB6.mono hzr))
          have HS6 := Lib.hid (HSL2.out.below hB6 hzr)
          have e4 : (ls[k]).take (100 : Int).toNat = L[k] := (HLA.out k hlt hlt2).symm
          rw [e4] at hO
          have HO6 := Lib.hid hO.sl
          clear hO e4 hB6
          go_wp2_with fail
          refine (same_true _ _ vi v4 L[k] w6 HS6.out HO6.out).mono ?_
          rintro e w7 ⟨rfl, rfl⟩
          go_wp2_with fail
          go_roundw
          case rel => exact ⟨k + 1, by omega, by go_num, HB6.out⟩
          case measure => simp [intOf]; omega
        · obtain rfl : k = L.length := by omega
          have hzr := HBq.out.size
          have HBz := Lib.hid (HB5.out.trans (HBq.out.mono hz5))
          have HWr := Lib.hid (HW5.out.below HBq.out)
          have HOr := Lib.hid (HO5.out.fwd HBq.out)
          have HMr := Lib.hid (HM5.out.fwd HBq.out)
          have HAr := Lib.hid (HA5.out.fwd HBq.out)
          obtain ⟨q, hq⟩ : ∃ q, q = hm a L.flatten := ⟨_, rfl⟩
          rw [← hq] at HOr
          have HQ := Lib.hid hq; clear hq
          go_wp2_with fail
          refine (refHm_any wr.heap.size a1 u7 a L.flatten wr (HU.out.below HBz.out hG2) (by show _ < wr.heap.size; omega) HAr.out HWr.out.all.sl (Nat.le_refl _) (by omega) (by omega)).mono ?_
          rintro e w6 ⟨v4, rfl, hO4, hB4⟩
          rw [← HQ.out] at hO4
          have HO4 := Lib.hid hO4.sl; clear hO4
          have HOr4 := Lib.hid (HOr.out.fwd hB4)
          have HMr4 := Lib.hid (HMr.out.fwd hB4)
          have HAr4 := Lib.hid (HAr.out.fwd hB4)
          have HB4 := Lib.hid (HBz.out.trans (hB4.mono HBz.out.size)); clear hB4
          go_wp2_with fail
          refine (same_true _ _ _ v4 q w6 HOr4.out HO4.out).mono ?_
          rintro e w7 ⟨rfl, rfl⟩
          go_wp2_with fail
          refine (same_true _ _ _ _ a w6 HMr4.out HAr4.out).mono ?_
          rintro e w8 ⟨rfl, rfl⟩
          go_wp2_with fail
          go_ret
          exact ⟨rfl, HB4.out⟩
theorem hmacSums_wf (B : Nat) (v0 : Value) (l0 : List UInt8) (v : Value) (ls : List (List UInt8)) (w : World) (h0 : Sl w B v0 l0) (hs0 : Sls w B v ls) (hB0 : B ≤ w.heap.size) (hT : TabA w) (hU : TabB w) :
    Calls Tryd.prog 3 #[v0, v] w fun e w' => e = .returned (.bool true) ∧ Below w.heap.size w w' := hmacSums_law B v0 v l0 ls w h0 hs0 hB0 hT hU
end Go.Proofs.YtjaclccjccjljaaDoor
