/- The statement B64Lines' own text, walked. -/
import Derived.Test.YtbjhaihfkncdoaaDoorLines
namespace Go.Proofs.YtbjhaihfkncdoaaDoor
open Go.RowKit
theorem str_one (s : List UInt8) (k : Nat) (hk : k < s.length) (w : World) : (Instr.slice 9 (str s) (some (.int .i64 (k : Int))) (some (.int .i64 ((k : Int) + 1))) none).run Tryd.prog w = .ok (str [s.getD k 0]) w := by
  have h := run_slice_string (P := Tryd.prog) w 9 ⟨s.toArray⟩ .i64 .i64 (k : Int) ((k : Int) + 1) Tryd.underlying9 (by omega) (by omega) (by show (k : Int) + 1 ≤ (s.toArray.size : Int); simp; omega)
  rw [h]
  have e1 : ((k : Int)).toNat = k := by omega
  have e2 : ((k : Int) + 1).toNat = k + 1 := by omega
  have e3 : (ByteArray.mk s.toArray).extract (k : Int).toNat ((k : Int) + 1).toNat = ByteArray.mk [s.getD k 0].toArray := by
    rw [e1, e2]
    apply ByteArray.ext
    simp only [ByteArray.data_extract]
    apply Array.ext'
    simp only [Array.toList_extract, List.extract_eq_take_drop]
    rw [show k + 1 - k = 1 by omega, List.getD_eq_getElem?_getD, List.getElem?_eq_getElem hk]
    rw [List.drop_eq_getElem_cons hk]
    rfl
  rw [e3]
set_option maxRecDepth 100000 in
set_option maxHeartbeats 1000000 in
theorem lines_law (s0 : List UInt8) (sz : Int) (w : World) (hs0 : s0.length ≤ 9223372036854775807) (h1 : sz ≤ 9223372036854775807) (h2 : -9223372036854775808 ≤ sz) (hL : Looks w) :
    Calls Tryd.prog 3 #[str s0, .int .i64 sz] w fun e w' => e = .returned (.bool true) ∧ Below w.heap.size w w' := by
  go_enter Tryd.func3, Tryd.ntmps3
  go_wp2_with fail
  refine (awake3 w).mono ?_
  rintro e w1 ⟨rfl, hb⟩
  have hL1 := hL.below hb
  have HB1 := Lib.hid hb; clear hb
  go_wp2_with fail
  refine (cutText_any s0 200 w1 hs0 (by decide) (by decide)).mono ?_
  rintro e w2 ⟨rfl, rfl⟩
  obtain ⟨s, hs⟩ : ∃ s, s = s0.take (200 : Int).toNat := ⟨_, rfl⟩
  have hsl : s.length ≤ 200 := by rw [hs, List.length_take]; exact Nat.min_le_left _ _
  rw [← hs]
  clear hs
  by_cases hsz : sz < 1
  · go_wp2_with fail
    refine (unwrap_small s sz w1 hsz).mono ?_
    rintro e w2 ⟨rfl, rfl⟩
    go_wp2_with fail
    go_ret
    exact ⟨rfl, HB1.out⟩
  · go_wp2_with fail
    refine (unwrap_any s sz w1 (by omega) (by omega) h1 hL1).mono ?_
    rintro e w2 ⟨hb, k, hH, rfl⟩
    have hL2 := hL1.below hb
    have HB2 := Lib.hid (HB1.out.trans (hb.mono HB1.out.size)); clear hb HB1
    obtain ⟨t, ht⟩ : ∃ t, t = s.filter (· != 10) := ⟨_, rfl⟩
    have htl : t.length ≤ 200 := by rw [ht]; exact Nat.le_trans (filter_le s) hsl
    rw [← ht] at hH ⊢
    have Ht := Lib.hid ht; clear ht
    obtain ⟨y, hy⟩ : ∃ y, y = wrapT (pieces (npc sz t) t k) := ⟨_, rfl⟩
    rw [← hy, show t.all (alF.contains ·) = okL t from rfl]
    have Hy := Lib.hid hy; clear hy
    have HH := Lib.hid hH; clear hH
    obtain ⟨r, c, hrc, hcase⟩ : ∃ (r : List UInt8) (c : Int), (if okL t = true ∧ y = s then Value.tuple #[str t, .int .i64 0] else .tuple #[str [], .int .i64 4]) = .tuple #[str r, .int .i64 c] ∧
        ((okL t = true ∧ y = s ∧ r = t ∧ c = 0) ∨ (¬(okL t = true ∧ y = s) ∧ r = [] ∧ c = 4)) := by
      by_cases h : okL t = true ∧ y = s
      · exact ⟨t, 0, if_pos h, .inl ⟨h.1, h.2, rfl, rfl⟩⟩
      · exact ⟨[], 4, if_neg h, .inr ⟨h, rfl, rfl⟩⟩
    rw [hrc]
    clear hrc
    have HC := Lib.hid hcase; clear hcase
    go_wp2_with fail
    go_loop [7, 8] (fun x i => ∃ k : Nat, k ≤ s.length ∧ i = .int .i64 (k : Int) ∧ x = str ((s.take k).filter (· != 10))) (fun _ i => s.length - (intOf i).toNat)
    case atStart => exact ⟨0, by omega, rfl, rfl⟩
    case round =>
      obtain ⟨j, hj, rfl, rfl⟩ := hrel
      by_cases hlt : j < s.length
      · obtain ⟨b, hb⟩ : ∃ b, b = s.getD j 0 := ⟨_, rfl⟩
        have hix := index_at s j hlt
        have hso := str_one s j hlt
        rw [← hb] at hix hso
        have Htk : Hid (s.take (j + 1) = s.take j ++ [b]) := Lib.hid (by rw [List.take_succ_eq_append_getElem hlt, hb, List.getD_eq_getElem?_getD, List.getElem?_eq_getElem hlt]; rfl)
        clear hb
        obtain ⟨x, hx⟩ : ∃ x, x = (s.take j).filter (· != 10) := ⟨_, rfl⟩
        have hxl : x.length ≤ 200 := by rw [hx]; exact Nat.le_trans (List.length_filter_le _ _) (by rw [List.length_take]; omega)
        rw [← hx]
        have Hx := Lib.hid hx; clear hx
        have hjj := fun a b : List UInt8 => (ByteArray.mk_append_mk a b : ByteArray.mk a.toArray ++ ByteArray.mk b.toArray = ByteArray.mk (a ++ b).toArray)
        by_cases h10 : b = 10
        · have HE : Hid ((s.take (j + 1)).filter (· != 10) = x) := Lib.hid (by rw [Htk.out, List.filter_append, ← Hx.out, h10]; simp)
          subst h10
          go_wp2_with fail
          go_round
          case rel => exact ⟨j + 1, by omega, by go_num, by rw [HE.out]⟩
          case measure => simp [intOf]; omega
        · have HE : Hid ((s.take (j + 1)).filter (· != 10) = x ++ [b]) := Lib.hid (by rw [Htk.out, List.filter_append, ← Hx.out]; simp [h10])
          have hbn : bn b ≠ 10 := by
            intro e; exact h10 (UInt8.toNat_inj.1 (by unfold bn at e; show b.toNat = 10; omega))
          have hsum : x.length + [b].length ≤ 9223372036854775807 := by simp; omega
          go_wp2_with fail
          go_round
          case rel => exact ⟨j + 1, by omega, by go_num, by rw [HE.out]⟩
          case measure => simp [intOf]; omega
      · obtain rfl : j = s.length := by omega
        rw [List.take_length, ← Ht.out]
        go_wp2_with fail
        refine (letters_any t w2 (by omega)).mono ?_
        rintro e w3 ⟨rfl, rfl⟩
        by_cases hok : okL t = true
        · rw [hok]
          go_wp2_with fail
          refine (refWrap_any sz t w2 (by omega) h1 h2).mono ?_
          rintro e w3 ⟨k', hH', rfl, hb⟩
          obtain rfl := HH.out.one hH'
          clear hH'
          rw [← Hy.out]
          have hL3 := hL2.below hb
          have HB3 := Lib.hid (HB2.out.trans (hb.mono HB2.out.size)); clear hb HB2
          by_cases hys : y = s
          · obtain ⟨rfl, rfl⟩ : r = t ∧ c = 0 := by
              rcases HC.out with ⟨_, _, h3, h4⟩ | ⟨h, _⟩
              · exact ⟨h3, h4⟩
              · exact absurd ⟨hok, hys⟩ h
            subst hys
            go_wp2_with fail
            refine (wrap_any r sz w3 (by omega) h1 h2).mono ?_
            rintro e w4 ⟨k', hH', rfl, hb⟩
            obtain rfl := HH.out.one hH'
            clear hH'
            rw [← Hy.out]
            have hL4 := hL3.below hb
            have HB4 := Lib.hid (HB3.out.trans (hb.mono HB3.out.size)); clear hb HB3
            go_wp2_with fail
            refine (unwrap_any y sz w4 (by omega) (by omega) h1 hL4).mono ?_
            rintro e w5 ⟨hb, k', hH', rfl⟩
            rw [← Ht.out] at hH' ⊢
            obtain rfl := HH.out.one hH'
            clear hH'
            rw [← Hy.out, show r.all (alF.contains ·) = okL r from rfl, if_pos ⟨hok, rfl⟩]
            have HB5 := Lib.hid (HB4.out.trans (hb.mono HB4.out.size)); clear hb HB4
            go_wp2_with fail
            go_ret
            exact ⟨rfl, HB5.out⟩
          · obtain ⟨rfl, rfl⟩ : r = [] ∧ c = 4 := by
              rcases HC.out with ⟨_, h2, _⟩ | ⟨_, h3, h4⟩
              · exact absurd h2 hys
              · exact ⟨h3, h4⟩
            have hne : (y == s) = false := beq_eq_false_iff_ne.2 hys
            go_wp2_with fail
            go_ret
            exact ⟨rfl, HB3.out⟩
        · obtain ⟨rfl, rfl⟩ : r = [] ∧ c = 4 := by
            rcases HC.out with ⟨h1, _⟩ | ⟨_, h3, h4⟩
            · exact absurd h1 hok
            · exact ⟨h3, h4⟩
          simp only [Bool.not_eq_true] at hok
          rw [hok]
          go_wp2_with fail
          go_ret
          exact ⟨rfl, HB2.out⟩
end Go.Proofs.YtbjhaihfkncdoaaDoor
