/- b64.spell: bytes in digits of 6 bits, and of 4. -/
import Derived.Test.YteadncmhcbdicaaDoorSl
import Derived.Test.YteadncmhcbdicaaDoorNum
import Derived.Test.YteadncmhcbdicaaDoorShelf
import Derived.Deep.DeepFit
namespace Go.Proofs.YteadncmhcbdicaaDoor
open Go.RowKit

set_option maxHeartbeats 400000 in
theorem bitsOf_64 (s : ByteArray) (h : s.size = 64) (w : World) : Calls Tryd.prog 42 #[.string s] w fun e w' => e = .returned (.int .i64 6) ∧ w = w' := by
  go_enter Tryd.func42, Tryd.ntmps42
  go_wp2_with fail
  refine (Tryd.bits_Len 63 w (by decide) (by decide)).mono ?_
  rintro e w' ⟨rfl, rfl⟩
  go_wp2_with fail
  go_ret
  exact ⟨rfl, rfl⟩
set_option maxHeartbeats 400000 in
theorem bitsOf_16 (s : ByteArray) (h : s.size = 16) (w : World) : Calls Tryd.prog 42 #[.string s] w fun e w' => e = .returned (.int .i64 4) ∧ w = w' := by
  go_enter Tryd.func42, Tryd.ntmps42
  go_wp2_with fail
  refine (Tryd.bits_Len 15 w (by decide) (by decide)).mono ?_
  rintro e w' ⟨rfl, rfl⟩
  go_wp2_with fail
  go_ret
  exact ⟨rfl, rfl⟩
theorem index_str (s : ByteArray) (al : List UInt8) (hs : s.data.toList = al) (y : BitVec 32) (hy : y.toNat < al.length) (w : World) : (Instr.index 9 (.string s) (.int .u32 (wn y))).run Tryd.prog w = .ok (vb (al.getD y.toNat 0)) w := by
  subst hs
  have hy2 : y.toNat < s.size := by simpa using hy
  rw [run_index_string w 9 s .u32 _ Tryd.underlying9]
  unfold wn
  rw [dif_pos ⟨by omega, by omega⟩]
  simp [ByteArray.getElem_eq_getElem_data, List.getD_eq_getElem?_getD, hy2, bn]
theorem byte_str (s : ByteArray) (al : List UInt8) (hs : s.data.toList = al) (y : BitVec 32) (d : Nat) (hd : y.toNat = d) (h : (wn y).toNat < s.size) : Value.int .u8 ((s[(wn y).toNat]'h).toNat : Int) = vb (al.getD d 0) := by
  subst hs; subst hd
  have e : (wn y).toNat = y.toNat := rfl
  have hy2 : y.toNat < s.size := by rw [← e]; exact h
  simp [e, ByteArray.getElem_eq_getElem_data, List.getD_eq_getElem?_getD, hy2, bn]
theorem make_cap (n : Nat) (hn : n ≤ 1000000) (W : World) :
    (Instr.makeSlice 26 (.int .i64 0) (.int .i64 (((n : Int) * 8 + 6 - 1) / 6))).run Tryd.prog W = .ok (.slice (some ⟨W.heap.size, 0, none⟩) 0 ((8 * n + 5) / 6)) (W.alloc (.cells (noughts ((8 * n + 5) / 6)) 5)) := by
  have := make_bytes 0 ((8 * n + 5) / 6) (by omega) (by omega) W
  rwa [show (((8 * n + 5) / 6 : Nat) : Int) = ((n : Int) * 8 + 6 - 1) / 6 from by omega] at this
/-- The first m digits, as letters. -/
def firsts (wd : Nat) (al l : List UInt8) (m : Nat) : List UInt8 := (List.range m).map fun j => al.getD (dig wd l j) 0
theorem firsts_zero (wd : Nat) (al l : List UInt8) : firsts wd al l 0 = [] := rfl
theorem firsts_succ (wd : Nat) (al l : List UInt8) (m : Nat) : firsts wd al l (m + 1) = firsts wd al l m ++ [al.getD (dig wd l m) 0] := by
  unfold firsts; rw [List.range_succ, List.map_append]; rfl
theorem firsts_length (wd : Nat) (al l : List UInt8) (m : Nat) : (firsts wd al l m).length = m := by unfold firsts; simp
theorem letters_firsts (wd : Nat) (al l : List UInt8) : letters wd al l = firsts wd al l (many wd l.length) := rfl

/-- The bytes so far, in a word of 32 bits. -/
def held (l : List UInt8) : BitVec 32 := BitVec.ofNat 32 (numL l)
theorem held_snoc (l : List UInt8) (b : UInt8) : held l <<< 8 ||| bw b = held (l ++ [b]) := by
  apply BitVec.eq_of_toNat_eq
  have hb := b.toNat_lt
  unfold held bw
  rw [numL_snoc, BitVec.toNat_or, BitVec.toNat_shiftLeft, BitVec.toNat_ofNat, BitVec.toNat_ofNat, BitVec.toNat_ofNat, Nat.shiftLeft_eq]
  rw [show b.toNat % 2 ^ 32 = b.toNat from Nat.mod_eq_of_lt (by omega), show numL l % 2 ^ 32 * 2 ^ 8 % 2 ^ 32 = 2 ^ 8 * (numL l % 2 ^ 24) by omega, ← Nat.two_pow_add_eq_or_of_lt (by omega)]
  omega
/-- The digit that is told of the bytes l, where r bits stand behind it. -/
theorem held_digit (l : List UInt8) (wd r m : Nat) (hr : wd * (m + 1) + r = 8 * l.length) (hw : r + wd ≤ 32) : ((held l >>> r) &&& BitVec.ofNat 32 (2 ^ wd - 1)).toNat = dig wd l m := by
  rw [dig_whole wd l m (by omega), show 8 * l.length - wd * (m + 1) = r by omega]
  have h1 : 2 ^ wd ≤ 2 ^ 32 := Nat.pow_le_pow_right (by decide) (by omega)
  have h0 := Nat.two_pow_pos wd
  unfold held
  rw [BitVec.toNat_and, BitVec.toNat_ushiftRight, BitVec.toNat_ofNat, BitVec.toNat_ofNat, Nat.shiftRight_eq_div_pow, Nat.mod_eq_of_lt (show 2 ^ wd - 1 < 2 ^ 32 by omega), Nat.and_two_pow_sub_one_eq_mod]
  have e : 2 ^ 32 = 2 ^ r * 2 ^ (32 - r) := by rw [← Nat.pow_add]; congr 1; omega
  rw [e, Nat.mod_mul_right_div_self, Nat.mod_mod_of_dvd _ (Nat.pow_dvd_pow 2 (by omega))]
/-- The last digit, of which r bits are there. -/
theorem held_last (l : List UInt8) (wd r m : Nat) (hr : wd * m + r = 8 * l.length) (h0 : 0 < r) (hw : r < wd) (hw2 : wd ≤ 32) : ((held l <<< (wd - r)) &&& BitVec.ofNat 32 (2 ^ wd - 1)).toNat = dig wd l m := by
  rw [dig_part wd l m (by omega) (by rw [Nat.mul_succ]; omega), show 8 * l.length - wd * m = r by omega]
  have h1 : 2 ^ wd ≤ 2 ^ 32 := Nat.pow_le_pow_right (by decide) (by omega)
  have h2 := Nat.two_pow_pos wd
  unfold held
  rw [BitVec.toNat_and, BitVec.toNat_shiftLeft, BitVec.toNat_ofNat, BitVec.toNat_ofNat, Nat.shiftLeft_eq, Nat.mod_eq_of_lt (show 2 ^ wd - 1 < 2 ^ 32 by omega), Nat.and_two_pow_sub_one_eq_mod, Nat.mod_mul_mod, Nat.mod_mod_of_dvd _ (Nat.pow_dvd_pow 2 hw2)]
theorem bv_mask63 (x : BitVec 32) : bits .and .u32 (wn x) 63 = wn (x &&& BitVec.ofNat 32 63) := bv_and x (BitVec.ofNat 32 63)
theorem bv_mask15 (x : BitVec 32) : bits .and .u32 (wn x) 15 = wn (x &&& BitVec.ofNat 32 15) := bv_and x (BitVec.ofNat 32 15)

theorem bv_shl4 (x : BitVec 32) : wn x * (16 : Int) % (4294967296 : Int) = wn (x <<< 4) := bv_shl' x 4
theorem bv_shl2 (x : BitVec 32) : wn x * (4 : Int) % (4294967296 : Int) = wn (x <<< 2) := bv_shl' x 2
attribute [local go_sem] bv_shl4 bv_shl2 bv_shl8 bn_mod bv_or bv_mask63 bv_shr bv_shl'
set_option maxRecDepth 100000 in
set_option maxHeartbeats 1000000 in
theorem spell6 (s : ByteArray) (al : List UInt8) (hs : s.data.toList = al) (hal : al.length = 64) (B : Nat) (v : Value) (l : List UInt8) (w : World) (hv : Sl w B v l) (hB : B ≤ w.heap.size) (hl : l.length ≤ 100000) :
    Calls Tryd.prog 33 #[v, .string s] w fun e w' => e = .returned (str (letters 6 al l)) ∧ Below w.heap.size w w' := by
  have hsz : s.size = 64 := by rw [← hal, ← hs]; simp
  have Hb := Lib.hid (bitsOf_64 s hsz w)
  obtain ⟨A, c, rfl, _, h1, h2, h3⟩ := hv
  have hmk := make_cap l.length (by omega)
  have H3 := Lib.hid h3; clear h3
  have Hs := Lib.hid hs; clear hs
  have Hal := Lib.hid hal; clear hal
  go_enter Tryd.func33, Tryd.ntmps33
  go_wp2_with fail
  refine Hb.out.mono ?_
  rintro e w' ⟨rfl, rfl⟩
  go_wp2_with fail
  clear hmk
  have Hsz := Lib.hid hsz; clear hsz
  go_loopw [7, 8, 9, 11, 29] (fun x cn u b i wr => ∃ k m n : Nat, k ≤ l.length ∧ i = .int .i64 k ∧ n + 6 * m = 8 * k ∧ n < 6 ∧ cn = .int .i64 (n : Int) ∧ x = vw (held (l.take k)) ∧ OwnB wr w.heap.size u (firsts 6 al l m) ∧ Below w.heap.size w wr) (fun _ _ _ _ i _ => l.length - (intOf i).toNat)
  case atStart => 
    refine ⟨0, 0, 0, by omega, rfl, by omega, by omega, rfl, rfl, ?_, (Below.refl _ _).alloc (Nat.le_refl _) _⟩
    rw [firsts_zero]
    exact OwnB.of_heap (cur := noughts ((8 * l.length + 5) / 6)) (Nat.le_refl _) (heap_alloc_new w _) (noughts_size _) (by unfold maxLen; omega) rfl (by simp) (by omega)
  case round =>
    obtain ⟨k, m, n, hk, rfl, hnm, hn, rfl, rfl, hO, hBl⟩ := hrel
    have HO := Lib.hid hO; clear hO
    have HBl := Lib.hid hBl; clear hBl
    by_cases hlt : k < l.length
    · obtain ⟨b, o, rfl, hb, hbs⟩ := H3.out (by omega)
      have hc : wr.cell? ⟨b, o + k, none⟩ = some (vb (l.getD k 0)) := (hbs.below HBl.out (by omega)).getD hlt
      clear hbs
      have Hc0 : Hid (n + 8 + 6 * m = 8 * (k + 1)) := Lib.hid (by omega)
      clear hnm
      go_wp2_with fail
      obtain ⟨H, hH⟩ : ∃ H : BitVec 32, held (l.take k) <<< 8 ||| bw l[k] = H := ⟨_, rfl⟩
      rw [bv_shl8, bn_mod, hH]
      have HH : Hid (H = held (l.take (k + 1))) := Lib.hid (by rw [← hH, held_snoc, List.take_succ_eq_append_getElem hlt])
      clear hH
      obtain ⟨wo, rfl⟩ : ∃ wo : World, wo = wr := ⟨_, rfl⟩
      clear hc
      go_loopw [8, 9] (fun cn u wi => ∃ q r : Nat, r + 6 * q = 8 * (k + 1) ∧ r < 14 ∧ cn = .int .i64 (r : Int) ∧ OwnB wi w.heap.size u (firsts 6 al l q) ∧ Below w.heap.size w wi) (fun cn _ _ => (intOf cn).toNat)
      case atStart => exact ⟨m, n + 8, Hc0.out, by omega, by go_num, HO.out, HBl.out⟩
      case round =>
        clear HO HBl
        obtain ⟨q, r, hqr, hr, rfl, hO, hBl⟩ := hrel
        have HO := Lib.hid hO; clear hO
        have HBl := Lib.hid hBl; clear hBl
        have hq : q ≤ 200000 := by omega
        have Hqr := Lib.hid hqr; clear hqr
        by_cases hge : 6 ≤ r
        · obtain ⟨r', rfl⟩ : ∃ r', r = r' + 6 := ⟨r - 6, by omega⟩
          have Hd : Hid ((H >>> r' &&& BitVec.ofNat 32 63).toNat = dig 6 l q) := Lib.hid (by
            have e := Hqr.out
            have ht : (l.take (k + 1)).length = k + 1 := by rw [List.length_take]; omega
            rw [HH.out, held_digit (l.take (k + 1)) 6 r' q (by rw [ht]; omega) (by omega)]
            conv => rhs; rw [← List.take_append_drop (k + 1) l]
            rw [dig_append_left _ _ _ _ (by rw [ht]; omega)])
          have hd1 : 0 ≤ wn (H >>> r' &&& 63#32) ∧ wn (H >>> r' &&& 63#32) < (s.size : Int) := ⟨(wn_range _).1, by
            rw [Hsz.out]; unfold wn; rw [show (63#32 : BitVec 32) = BitVec.ofNat 32 63 from rfl, Hd.out]; have := dig_lt 6 l q; omega⟩
          have Hx : Hid (∀ h, Value.int .u8 ((s[(wn (H >>> r' &&& 63#32)).toNat]'h).toNat : Int) = vb (al.getD (dig 6 l q) 0)) := Lib.hid (fun h => byte_str s al Hs.out _ _ Hd.out h)
          go_wp2_with (at_builtin; go_must ((with_reducible refine wpList_app ?g1 (.tmp 46) (.tmp 54) ?g2 w.heap.size u9 (firsts 6 al l q) [al.getD (dig 6 l q) 0] ?g3 ?g4 wr.heap.size 0 1 1 ?g5 ?g6 ?g7 ?g8 ?g9 ?_); (case g1 => rfl); (case g2 => rfl); (case g3 => rfl); (case g4 => exact HO.out.below ((Below.refl _ _).alloc (Nat.le_refl _) _)); (case g5 => rfl); (case g6 => rfl); (case g7 => exact Bs.of_blk (Blk.newA _ _ _) 0 (fun j hj => by match j, hj with | 0, _ => exact congrArg some (Hx.out _))); (case g8 => rw [firsts_length]; omega); (case g9 => have := HBl.out.size; simp; omega); intro v' w1 hv hg; have Hv := Lib.hid hv; clear hv; have Hg := Lib.hid ((HBl.out.alloc (by have := HBl.out.size; omega) _).trans (OwnB.belowBase (w := wr.alloc _) (HO.out.below ((Below.refl _ _).alloc (Nat.le_refl _) _)) hg (by have := HBl.out.size; simp; omega))); clear hg))
          go_wp2_with fail
          go_roundw
          case rel => exact ⟨q + 1, r', by have := Hqr.out; omega, by omega, rfl, by rw [firsts_succ]; exact Hv.out, Hg.out⟩
          case measure => simp [intOf]; omega
        · go_wp2_with fail
          exact ⟨⟨k + 1, q, r, by omega, by go_num, Hqr.out, by omega, rfl, by rw [HH.out], HO.out, HBl.out⟩, by simp [intOf]; omega⟩
    · obtain rfl : k = l.length := by omega
      rw [List.take_length]
      have Hm : Hid (8 * l.length = 6 * m + n) := Lib.hid (by omega)
      obtain rfl | rfl | rfl : n = 0 ∨ n = 2 ∨ n = 4 := by omega
      · have hcnt : (((0 : Nat) : Int)) = (0 : Int) := rfl
        rw [hcnt]; clear hcnt
        have hcv := conv_sl HO.out.sl
        clear hnm hn
        go_wp2_with fail
        go_ret
        exact ⟨by rw [letters_firsts, show many 6 l.length = m from by have := Hm.out; unfold many; omega]; rfl, HBl.out⟩
      · have hcnt : (((2 : Nat) : Int)) = (2 : Int) := rfl
        rw [hcnt]; clear hcnt
        have hm : m ≤ 200000 := by omega
        clear hnm hn
        have Hd : Hid ((held l <<< 4 &&& BitVec.ofNat 32 63).toNat = dig 6 l m) := Lib.hid (held_last l 6 2 m (by have := Hm.out; omega) (by omega) (by omega) (by omega))
        have hd1 : 0 ≤ wn (held l <<< 4 &&& 63#32) ∧ wn (held l <<< 4 &&& 63#32) < (s.size : Int) := ⟨(wn_range _).1, by
          rw [Hsz.out]; unfold wn; rw [show (63#32 : BitVec 32) = BitVec.ofNat 32 63 from rfl, Hd.out]; have := dig_lt 6 l m; omega⟩
        have Hx : Hid (∀ h, Value.int .u8 ((s[(wn (held l <<< 4 &&& 63#32)).toNat]'h).toNat : Int) = vb (al.getD (dig 6 l m) 0)) := Lib.hid (fun h => byte_str s al Hs.out _ _ Hd.out h)
        go_wp2_with (at_builtin; ((with_reducible refine wpList_app ?g1 (.tmp 59) (.tmp 69) ?g2 w.heap.size u9 (firsts 6 al l m) [al.getD (dig 6 l m) 0] ?g3 ?g4 wr.heap.size 0 1 1 ?g5 ?g6 ?g7 ?g8 ?g9 ?_); (case g1 => rfl); (case g2 => rfl); (case g3 => rfl); (case g4 => exact HO.out.below ((Below.refl _ _).alloc (Nat.le_refl _) _)); (case g5 => rfl); (case g6 => rfl); (case g7 => exact Bs.of_blk (Blk.newA _ _ _) 0 (fun j hj => by match j, hj with | 0, _ => exact congrArg some (Hx.out _))); (case g8 => rw [firsts_length]; omega); (case g9 => have := HBl.out.size; simp; omega); intro v' w1 hv hg; have Hg := Lib.hid ((HBl.out.alloc (by have := HBl.out.size; omega) _).trans (OwnB.belowBase (w := wr.alloc _) (HO.out.below ((Below.refl _ _).alloc (Nat.le_refl _) _)) hg (by have := HBl.out.size; simp; omega))); clear hg; have hcv := conv_sl hv.sl; clear hv))
        go_ret
        exact ⟨by rw [letters_firsts, show many 6 l.length = m + 1 from by have := Hm.out; unfold many; omega, firsts_succ]; rfl, Hg.out⟩
      · have hcnt : (((4 : Nat) : Int)) = (4 : Int) := rfl
        rw [hcnt]; clear hcnt
        have hm : m ≤ 200000 := by omega
        clear hnm hn
        have Hd : Hid ((held l <<< 2 &&& BitVec.ofNat 32 63).toNat = dig 6 l m) := Lib.hid (held_last l 6 4 m (by have := Hm.out; omega) (by omega) (by omega) (by omega))
        have hd1 : 0 ≤ wn (held l <<< 2 &&& 63#32) ∧ wn (held l <<< 2 &&& 63#32) < (s.size : Int) := ⟨(wn_range _).1, by
          rw [Hsz.out]; unfold wn; rw [show (63#32 : BitVec 32) = BitVec.ofNat 32 63 from rfl, Hd.out]; have := dig_lt 6 l m; omega⟩
        have Hx : Hid (∀ h, Value.int .u8 ((s[(wn (held l <<< 2 &&& 63#32)).toNat]'h).toNat : Int) = vb (al.getD (dig 6 l m) 0)) := Lib.hid (fun h => byte_str s al Hs.out _ _ Hd.out h)
        go_wp2_with (at_builtin; ((with_reducible refine wpList_app ?g1 (.tmp 59) (.tmp 69) ?g2 w.heap.size u9 (firsts 6 al l m) [al.getD (dig 6 l m) 0] ?g3 ?g4 wr.heap.size 0 1 1 ?g5 ?g6 ?g7 ?g8 ?g9 ?_); (case g1 => rfl); (case g2 => rfl); (case g3 => rfl); (case g4 => exact HO.out.below ((Below.refl _ _).alloc (Nat.le_refl _) _)); (case g5 => rfl); (case g6 => rfl); (case g7 => exact Bs.of_blk (Blk.newA _ _ _) 0 (fun j hj => by match j, hj with | 0, _ => exact congrArg some (Hx.out _))); (case g8 => rw [firsts_length]; omega); (case g9 => have := HBl.out.size; simp; omega); intro v' w1 hv hg; have Hg := Lib.hid ((HBl.out.alloc (by have := HBl.out.size; omega) _).trans (OwnB.belowBase (w := wr.alloc _) (HO.out.below ((Below.refl _ _).alloc (Nat.le_refl _) _)) hg (by have := HBl.out.size; simp; omega))); clear hg; have hcv := conv_sl hv.sl; clear hv))
        go_ret
        exact ⟨by rw [letters_firsts, show many 6 l.length = m + 1 from by have := Hm.out; unfold many; omega, firsts_succ]; rfl, Hg.out⟩
end Go.Proofs.YteadncmhcbdicaaDoor
