/- b64.spell with digits of 4 bits. -/
import Derived.Test.YteadncmhcbdicaaDoorSpell
namespace Go.Proofs.YteadncmhcbdicaaDoor
open Go.RowKit
theorem make_cap4 (n : Nat) (hn : n ≤ 1000000) (W : World) :
    (Instr.makeSlice 26 (.int .i64 0) (.int .i64 (((n : Int) * 8 + 4 - 1) / 4))).run Tryd.prog W = .ok (.slice (some ⟨W.heap.size, 0, none⟩) 0 ((8 * n + 3) / 4)) (W.alloc (.cells (noughts ((8 * n + 3) / 4)) 5)) := by
  have := make_bytes 0 ((8 * n + 3) / 4) (by omega) (by omega) W
  rwa [show (((8 * n + 3) / 4 : Nat) : Int) = ((n : Int) * 8 + 4 - 1) / 4 from by omega] at this
attribute [local go_sem] bv_shl8 bn_mod bv_or bv_mask15 bv_shr bv_shl'
set_option maxRecDepth 100000 in
set_option maxHeartbeats 1000000 in
theorem spell4 (s : ByteArray) (al : List UInt8) (hs : s.data.toList = al) (hal : al.length = 16) (B : Nat) (v : Value) (l : List UInt8) (w : World) (hv : Sl w B v l) (hB : B ≤ w.heap.size) (hl : l.length ≤ 100000) :
    Calls Tryd.prog 33 #[v, .string s] w fun e w' => e = .returned (str (letters 4 al l)) ∧ Below w.heap.size w w' := by
  have hsz : s.size = 16 := by rw [← hal, ← hs]; simp
  have Hb := Lib.hid (bitsOf_16 s hsz w)
  obtain ⟨A, c, rfl, _, h1, h2, h3⟩ := hv
  have hmk := make_cap4 l.length (by omega)
  have H3 := Lib.hid h3; clear h3
  have Hs := Lib.hid hs; clear hs
  have Hal := Lib.hid hal; clear hal
  go_enter Tryd.func33, Tryd.ntmps33
  go_wp2_with fail
  refine Hb.out.mono ?_
  rintro e w' ⟨rfl, rfl⟩
  go_wp2_with fail
  clear hmk
  have Hsz := Lib.hid hsz; clear hsz
  go_loopw [7, 8, 9, 11, 29] (fun x cn u b i wr => ∃ k m n : Nat, k ≤ l.length ∧ i = .int .i64 k ∧ n + 4 * m = 8 * k ∧ n < 4 ∧ cn = .int .i64 (n : Int) ∧ x = vw (held (l.take k)) ∧ OwnB wr w.heap.size u (firsts 4 al l m) ∧ Below w.heap.size w wr) (fun _ _ _ _ i _ => l.length - (intOf i).toNat)
  case atStart => 
    refine ⟨0, 0, 0, by omega, rfl, by omega, by omega, rfl, rfl, ?_, (Below.refl _ _).alloc (Nat.le_refl _) _⟩
    rw [firsts_zero]
    exact OwnB.of_heap (cur := noughts ((8 * l.length + 3) / 4)) (Nat.le_refl _) (heap_alloc_new w _) (noughts_size _) (by unfold maxLen; omega) rfl (by simp) (by omega)
  case round =>
    obtain ⟨k, m, n, hk, rfl, hnm, hn, rfl, rfl, hO, hBl⟩ := hrel
    have HO := Lib.hid hO; clear hO
    have HBl := Lib.hid hBl; clear hBl
    by_cases hlt : k < l.length
    · obtain ⟨b, o, rfl, hb, hbs⟩ := H3.out (by omega)
      have hc : wr.cell? ⟨b, o + k, none⟩ = some (vb (l.getD k 0)) := (hbs.below HBl.out (by omega)).getD hlt
      clear hbs
      have Hc0 : Hid (n + 8 + 4 * m = 8 * (k + 1)) := Lib.hid (by omega)
      clear hnm
      go_wp2_with fail
      obtain ⟨H, hH⟩ : ∃ H : BitVec 32, held (l.take k) <<< 8 ||| bw l[k] = H := ⟨_, rfl⟩
      rw [bv_shl8, bn_mod, hH]
      have HH : Hid (H = held (l.take (k + 1))) := Lib.hid (by rw [← hH, held_snoc, List.take_succ_eq_append_getElem hlt])
      clear hH
      obtain ⟨wo, rfl⟩ : ∃ wo : World, wo = wr := ⟨_, rfl⟩
      clear hc
      go_loopw [8, 9] (fun cn u wi => ∃ q r : Nat, r + 4 * q = 8 * (k + 1) ∧ r < 12 ∧ cn = .int .i64 (r : Int) ∧ OwnB wi w.heap.size u (firsts 4 al l q) ∧ Below w.heap.size w wi) (fun cn _ _ => (intOf cn).toNat)
      case atStart => exact ⟨m, n + 8, Hc0.out, by omega, by go_num, HO.out, HBl.out⟩
      case round =>
        clear HO HBl
        obtain ⟨q, r, hqr, hr, rfl, hO, hBl⟩ := hrel
        have HO := Lib.hid hO; clear hO
        have HBl := Lib.hid hBl; clear hBl
        have hq : q ≤ 200000 := by omega
        have Hqr := Lib.hid hqr; clear hqr
        by_cases hge : 4 ≤ r
        · obtain ⟨r', rfl⟩ : ∃ r', r = r' + 4 := ⟨r - 4, by omega⟩
          have Hd : Hid ((H >>> r' &&& BitVec.ofNat 32 15).toNat = dig 4 l q) := Lib.hid (by
            have e := Hqr.out
            have ht : (l.take (k + 1)).length = k + 1 := by rw [List.length_take]; omega
            rw [HH.out, held_digit (l.take (k + 1)) 4 r' q (by rw [ht]; omega) (by omega)]
            conv => rhs; rw [← List.take_append_drop (k + 1) l]
            rw [dig_append_left _ _ _ _ (by rw [ht]; omega)])
          have hd1 : 0 ≤ wn (H >>> r' &&& 15#32) ∧ wn (H >>> r' &&& 15#32) < (s.size : Int) := ⟨(wn_range _).1, by
            rw [Hsz.out]; unfold wn; rw [show (15#32 : BitVec 32) = BitVec.ofNat 32 15 from rfl, Hd.out]; have := dig_lt 4 l q; omega⟩
          have Hx : Hid (∀ h, Value.int .u8 ((s[(wn (H >>> r' &&& 15#32)).toNat]'h).toNat : Int) = vb (al.getD (dig 4 l q) 0)) := Lib.hid (fun h => byte_str s al Hs.out _ _ Hd.out h)
          go_wp2_with (at_builtin; go_must ((with_reducible refine wpList_app ?g1 (.tmp 46) (.tmp 54) ?g2 w.heap.size u9 (firsts 4 al l q) [al.getD (dig 4 l q) 0] ?g3 ?g4 wr.heap.size 0 1 1 ?g5 ?g6 ?g7 ?g8 ?g9 ?_); (case g1 => rfl); (case g2 => rfl); (case g3 => rfl); (case g4 => exact HO.out.below ((Below.refl _ _).alloc (Nat.le_refl _) _)); (case g5 => rfl); (case g6 => rfl); (case g7 => exact Bs.of_blk (Blk.newA _ _ _) 0 (fun j hj => by match j, hj with | 0, _ => exact congrArg some (Hx.out _))); (case g8 => rw [firsts_length]; omega); (case g9 => have := HBl.out.size; simp; omega); intro v' w1 hv hg; have Hv := Lib.hid hv; clear hv; have Hg := Lib.hid ((HBl.out.alloc (by have := HBl.out.size; omega) _).trans (OwnB.belowBase (w := wr.alloc _) (HO.out.below ((Below.refl _ _).alloc (Nat.le_refl _) _)) hg (by have := HBl.out.size; simp; omega))); clear hg))
          go_wp2_with fail
          go_roundw
          case rel => exact ⟨q + 1, r', by have := Hqr.out; omega, by omega, rfl, by rw [firsts_succ]; exact Hv.out, Hg.out⟩
          case measure => simp [intOf]; omega
        · go_wp2_with fail
          exact ⟨⟨k + 1, q, r, by omega, by go_num, Hqr.out, by omega, rfl, by rw [HH.out], HO.out, HBl.out⟩, by simp [intOf]; omega⟩
    · obtain rfl : k = l.length := by omega
      rw [List.take_length]
      have Hm : Hid (8 * l.length = 4 * m + n) := Lib.hid (by omega)
      obtain rfl : n = 0 := by omega
      · have hcnt : (((0 : Nat) : Int)) = (0 : Int) := rfl
        rw [hcnt]; clear hcnt
        have hcv := conv_sl HO.out.sl
        clear hnm hn
        go_wp2_with fail
        go_ret
        exact ⟨by rw [letters_firsts, show many 4 l.length = m from by have := Hm.out; unfold many; omega]; rfl, HBl.out⟩
end Go.Proofs.YteadncmhcbdicaaDoor
