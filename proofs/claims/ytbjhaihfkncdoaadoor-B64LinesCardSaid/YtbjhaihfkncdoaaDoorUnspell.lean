/- b64.unspell with digits of 6 bits. -/
import Derived.Test.YtbjhaihfkncdoaaDoorEnc
import Derived.Test.YtbjhaihfkncdoaaDoorNumW
import Derived.Lib.IndexLaws
namespace Go.Proofs.YtbjhaihfkncdoaaDoor
open Go.RowKit

/-- A letter's place in the alphabet. -/
def pos (al : List UInt8) (c : UInt8) : Nat := (Lib.indexByte al c).toNat
/-- What is decoded, and the error. -/
def unS (wd : Nat) (al s : List UInt8) : List UInt8 × Int :=
  if s.any (fun c => decide (Lib.indexByte al c < 0)) then ([], 5)
  else if unused wd (s.map (pos al)) = 0 then (byts wd (s.map (pos al)) (wd * s.length / 8), 0) else ([], 4)
theorem pos_lt (al : List UInt8) (c : UInt8) (h : 0 < al.length) : pos al c < al.length := by
  unfold pos
  by_cases h0 : 0 ≤ Lib.indexByte al c
  · obtain ⟨o, ho⟩ := Int.eq_ofNat_of_zero_le h0
    have := (Lib.indexByte_some ho).1
    rw [ho]
    exact (List.getElem?_eq_some_iff.1 this).1
  · omega
/-- The letters so far, in a word of 32 bits. -/
def heldW (w : Nat) (vs : List Nat) : BitVec 32 := BitVec.ofNat 32 (numW w vs)
theorem heldW_snoc (w : Nat) (vs : List Nat) (d : Nat) (hd : d < 2 ^ w) (hw : w ≤ 32) : heldW w vs <<< w ||| BitVec.ofNat 32 d = heldW w (vs ++ [d]) := by
  apply BitVec.eq_of_toNat_eq
  have h32 : 2 ^ w ≤ 2 ^ 32 := Nat.pow_le_pow_right (by decide) hw
  unfold heldW
  rw [numW_snoc, BitVec.toNat_or, BitVec.toNat_shiftLeft, BitVec.toNat_ofNat, BitVec.toNat_ofNat, BitVec.toNat_ofNat, Nat.shiftLeft_eq, Nat.mod_eq_of_lt (show d < 2 ^ 32 by omega), Nat.mod_mul_mod]
  have e : 2 ^ 32 = 2 ^ w * 2 ^ (32 - w) := by rw [← Nat.pow_add]; congr 1; omega
  have e1 : numW w vs * 2 ^ w % 2 ^ 32 = 2 ^ w * (numW w vs % 2 ^ (32 - w)) := by rw [e, Nat.mul_comm, Nat.mul_mod_mul_left]
  rw [e1, ← Nat.two_pow_add_eq_or_of_lt hd]
  have h1 : numW w vs % 2 ^ (32 - w) + 1 ≤ 2 ^ (32 - w) := Nat.mod_lt _ (Nat.two_pow_pos _)
  have h2 : 2 ^ w * (numW w vs % 2 ^ (32 - w)) + 2 ^ w ≤ 2 ^ 32 := by rw [e]; exact Nat.mul_le_mul_left _ h1
  have h3 : numW w vs * 2 ^ w + d = 2 ^ 32 * (numW w vs / 2 ^ (32 - w)) + (2 ^ w * (numW w vs % 2 ^ (32 - w)) + d) := by
    conv => lhs; rw [← Nat.div_add_mod (numW w vs) (2 ^ (32 - w))]
    rw [e, Nat.add_mul, Nat.mul_comm (numW w vs % _), Nat.add_assoc, Nat.mul_comm (2 ^ (32 - w) * _), Nat.mul_assoc]
  rw [h3, Nat.mul_add_mod, Nat.mod_eq_of_lt (show 2 ^ w * (numW w vs % 2 ^ (32 - w)) + d < 2 ^ 32 by omega)]
/-- The byte that is told, where r bits stand behind it. -/
theorem heldW_byte (w : Nat) (vs : List Nat) (r m : Nat) (hr : r + 8 * (m + 1) = w * vs.length) (hr2 : r + 8 ≤ 32) : UInt8.ofNat (heldW w vs >>> r).toNat = byt w vs m := by
  unfold heldW byt
  rw [show w * vs.length - 8 * (m + 1) = r by omega]
  apply UInt8.toNat_inj.1
  rw [UInt8.toNat_ofNat', UInt8.toNat_ofNat', BitVec.toNat_ushiftRight, BitVec.toNat_ofNat, Nat.shiftRight_eq_div_pow]
  have e : 2 ^ 32 = 2 ^ r * 2 ^ (32 - r) := by rw [← Nat.pow_add]; congr 1; omega
  rw [e, Nat.mod_mul_right_div_self, Nat.mod_mod_of_dvd _ (Nat.pow_dvd_pow 2 (by omega))]
theorem make_capU (n : Nat) (hn : n ≤ 1000000) (W : World) :
    (Instr.makeSlice 36 (.int .i64 0) (.int .i64 ((n : Int) * 6 / 8))).run Tryd.prog W = .ok (.slice (some ⟨W.heap.size, 0, none⟩) 0 (6 * n / 8)) (W.alloc (.cells (noughts (6 * n / 8)) 5)) := by
  have := make_bytes 0 (6 * n / 8) (by omega) (by omega) W
  rwa [show ((6 * n / 8 : Nat) : Int) = (n : Int) * 6 / 8 from by omega] at this
theorem heldW_unused (w : Nat) (vs : List Nat) (n m : Nat) (hn : w * vs.length = 8 * m + n) (h8 : n < 8) (k : Nat) (hk : k = 2 ^ n - 1) : bits .and .u32 (wn (heldW w vs)) (k : Int) = ((unused w vs : Nat) : Int) := by
  have h1 : 2 ^ n ≤ 2 ^ 7 := Nat.pow_le_pow_right (by decide) (by omega)
  have h0 := Nat.two_pow_pos n
  have e : ((k : Nat) : Int) = wn (BitVec.ofNat 32 k) := by unfold wn; rw [BitVec.toNat_ofNat]; omega
  rw [e, bv_and]
  unfold wn heldW unused
  rw [hk, BitVec.toNat_and, BitVec.toNat_ofNat, BitVec.toNat_ofNat, Nat.mod_eq_of_lt (show 2 ^ n - 1 < 2 ^ 32 by omega), Nat.and_two_pow_sub_one_eq_mod, Nat.mod_mod_of_dvd _ (Nat.pow_dvd_pow 2 (by omega)), show w * vs.length % 8 = n by omega]
theorem bv_shl6 (x : BitVec 32) : wn x * (64 : Int) % (4294967296 : Int) = wn (x <<< 6) := bv_shl' x 6
theorem wn_mod32 (x : BitVec 32) : wn x % (4294967296 : Int) = wn x := by have := wn_range x; omega
theorem wn_mod8 (x : BitVec 32) : wn x % (256 : Int) = bn (UInt8.ofNat x.toNat) := by rw [← wrap_u8_wn, IntKind.wrap_u8]
theorem unS_bad (wd : Nat) (al s : List UInt8) (h : ∃ c ∈ s, Lib.indexByte al c < 0) : unS wd al s = ([], 5) := by
  unfold unS; rw [if_pos (by rw [List.any_eq_true]; obtain ⟨c, hc, hn⟩ := h; exact ⟨c, hc, by simpa using hn⟩)]
theorem unS_form (wd : Nat) (al s : List UInt8) (vs : List Nat) (hvs : vs = s.map (pos al)) (h : ∀ c ∈ s, 0 ≤ Lib.indexByte al c) (hu : unused wd vs ≠ 0) : unS wd al s = ([], 4) := by
  subst hvs
  unfold unS; rw [if_neg (by rw [List.any_eq_true]; rintro ⟨c, hc, hn⟩; have := h c hc; simp at hn; omega), if_neg hu]
theorem unS_ok (wd : Nat) (al s : List UInt8) (vs : List Nat) (hvs : vs = s.map (pos al)) (h : ∀ c ∈ s, 0 ≤ Lib.indexByte al c) (hu : unused wd vs = 0) : unS wd al s = (byts wd vs (wd * s.length / 8), 0) := by
  subst hvs
  unfold unS; rw [if_neg (by rw [List.any_eq_true]; rintro ⟨c, hc, hn⟩; have := h c hc; simp at hn; omega), if_pos hu]
attribute [local go_sem] bv_shl6 bv_or bv_shr bv_shl' wn_mod8 wn_mod32
set_option maxRecDepth 100000 in
set_option maxHeartbeats 1000000 in
theorem unspell6 (sb ab : ByteArray) (s al : List UInt8) (hs : sb.data.toList = s) (ha : ab.data.toList = al) (hal : al.length = 64) (w : World) (hl : s.length ≤ 100000) :
    Calls Tryd.prog 61 #[.string sb, .string ab] w fun e w' => ∃ v', e = .returned (.tuple #[v', .int .i64 (unS 6 al s).2]) ∧ OwnB w' w.heap.size v' (unS 6 al s).1 ∧ Below w.heap.size w w' := by
  have hsz : ab.size = 64 := by rw [← hal, ← ha]; simp
  have hsl : sb.size = s.length := by rw [← hs]; simp
  have Hb := Lib.hid (bitsOf_64 ab hsz w)
  have hmk := make_capU s.length (by omega)
  have Hs := Lib.hid hs; clear hs
  have Hal := Lib.hid hal; clear hal
  have Ha := Lib.hid ha; clear ha
  have Hsz := Lib.hid hsz; clear hsz
  obtain ⟨vs, hvs⟩ : ∃ vs, vs = s.map (pos al) := ⟨_, rfl⟩
  have Hvl : Hid (vs.length = s.length) := Lib.hid (by rw [hvs, List.length_map])
  have Hv64 : Hid (∀ d ∈ vs, d < 64) := Lib.hid (fun d hd => by
    rw [hvs, List.mem_map] at hd
    obtain ⟨c, _, rfl⟩ := hd
    have := pos_lt al c (by rw [Hal.out]; omega)
    rw [Hal.out] at this; exact this)
  have Hvs := Lib.hid hvs; clear hvs
  go_enter Tryd.func61, Tryd.ntmps61
  go_wp2_with fail
  refine Hb.out.mono ?_
  rintro e w' ⟨rfl, rfl⟩
  go_wp2_with fail
  clear hmk
  go_loopw [7, 8, 9, 10, 11, 23] (fun x cn u _ _ i wr => ∃ k m n : Nat, k ≤ s.length ∧ i = .int .i64 k ∧ (∀ c ∈ s.take k, 0 ≤ Lib.indexByte al c) ∧ n + 8 * m = 6 * k ∧ n < 8 ∧ cn = .int .i64 (n : Int) ∧ x = vw (heldW 6 (vs.take k)) ∧ OwnB wr w.heap.size u (byts 6 vs m) ∧ Below w.heap.size w wr) (fun _ _ _ _ _ i _ => s.length - (intOf i).toNat)
  case atStart => 
    refine ⟨0, 0, 0, by omega, rfl, by simp, by omega, by omega, rfl, rfl, ?_, (Below.refl _ _).alloc (Nat.le_refl _) _⟩
    rw [byts_zero]
    exact OwnB.of_heap (cur := noughts (6 * s.length / 8)) (Nat.le_refl _) (heap_alloc_new w _) (noughts_size _) (by unfold maxLen; omega) rfl (by simp) (by omega)
  case round =>
    obtain ⟨k, m, n, hk, rfl, hbad, hnm, hn, rfl, rfl, hO, hBl⟩ := hrel
    have HO := Lib.hid hO; clear hO
    have HBl := Lib.hid hBl; clear hBl
    have Hbad := Lib.hid hbad; clear hbad
    have hm : m ≤ 100000 := by omega
    have Hnm := Lib.hid hnm; clear hnm
    by_cases hlt : k < s.length
    · have hi : ∀ h, Lib.indexByte ab.data.toList (((sb[k]'h).toNat : Nat) : Int).toNat.toUInt8 = Lib.indexByte al (s.getD k 0) := fun h => by
        rw [Ha.out, ← Hs.out]
        congr 1
        have hk2 : k < sb.size := h
        simp [ByteArray.getElem_eq_getElem_data, List.getD_eq_getElem?_getD, hk2]
      have Hi := Lib.hid hi; clear hi
      have Hmem : Hid (s.getD k 0 ∈ s) := Lib.hid (by rw [List.getD_eq_getElem?_getD, List.getElem?_eq_getElem hlt]; exact List.getElem_mem hlt)
      have Htk : Hid (s.take (k + 1) = s.take k ++ [s.getD k 0]) := Lib.hid (by rw [List.take_succ_eq_append_getElem hlt, List.getD_eq_getElem?_getD, List.getElem?_eq_getElem hlt]; rfl)
      have Htv : Hid (vs.take (k + 1) = vs.take k ++ [pos al (s.getD k 0)]) := Lib.hid (by
        rw [Hvs.out, ← List.map_take, ← List.map_take, Htk.out, List.map_append]; rfl)
      have Hp64 : Hid (pos al (s.getD k 0) < 64) := Lib.hid (by have := pos_lt al (s.getD k 0) (by rw [Hal.out]; omega); rw [Hal.out] at this; exact this)
      go_wp2_with fail
      refine (Tryd.strings_IndexByte _ _ _).mono ?_
      rintro e w' ⟨rfl, hw⟩
      obtain rfl := hw.symm
      rw [Hi.out]
      clear Hi hw
      have Hpos : Hid (pos al (s.getD k 0) = (Lib.indexByte al (s.getD k 0)).toNat) := Lib.hid rfl
      obtain ⟨D, hD⟩ : ∃ D, Lib.indexByte al (s.getD k 0) = D := ⟨_, rfl⟩
      rw [hD]
      have HD := Lib.hid hD; clear hD
      by_cases hneg : D < 0
      · go_wp2_with fail
        have HR : Hid (unS 6 al s = ([], 5)) := Lib.hid (unS_bad 6 al s ⟨_, Hmem.out, by rw [HD.out]; exact hneg⟩)
        go_ret2
        exact ⟨.slice none 0 0, by rw [HR.out]; rfl, by rw [HR.out]; exact OwnB.nil _ _, HBl.out⟩
      · obtain ⟨y, rfl⟩ : ∃ y : BitVec 32, D = wn y := ⟨BitVec.ofNat 32 (pos al (s.getD k 0)), by
          have h1 := Hp64.out; have h2 := Hpos.out; rw [HD.out] at h2
          unfold wn; rw [BitVec.toNat_ofNat]; omega⟩
        have Hy : Hid (y = BitVec.ofNat 32 (pos al (s.getD k 0))) := Lib.hid (by
          apply BitVec.eq_of_toNat_eq
          have h1 := Hp64.out; have h2 := Hpos.out; rw [HD.out] at h2
          rw [BitVec.toNat_ofNat]; unfold wn at h2; omega)
        obtain ⟨hd, hd0⟩ : wn y < 64 ∧ 0 ≤ wn y := ⟨by rw [Hy.out]; unfold wn; rw [BitVec.toNat_ofNat]; have := Hp64.out; omega, by omega⟩
        have Hx : Hid (heldW 6 (vs.take k) <<< 6 ||| y = heldW 6 (vs.take (k + 1))) := Lib.hid (by rw [Hy.out, heldW_snoc 6 _ _ Hp64.out (by decide), Htv.out])
        have Hbad' : Hid (∀ c ∈ s.take (k + 1), 0 ≤ Lib.indexByte al c) := Lib.hid (fun c hc => by
          rw [Htk.out, List.mem_append, List.mem_singleton] at hc
          rcases hc with hc | rfl
          · exact Hbad.out c hc
          · rw [HD.out]; exact hd0)
        by_cases h2 : 2 ≤ n
        · obtain ⟨r, rfl⟩ : ∃ r, n = r + 2 := ⟨n - 2, by omega⟩
          have Hbyte : Hid (UInt8.ofNat ((heldW 6 (vs.take k) <<< 6 ||| y) >>> r).toNat = byt 6 vs m) := Lib.hid (by
            have e := Hnm.out
            have hl' : (vs.take (k + 1)).length = k + 1 := by rw [List.length_take, Hvl.out]; omega
            rw [Hx.out, heldW_byte 6 _ r m (by rw [hl']; omega) (by omega)]
            conv => rhs; rw [← List.take_append_drop (k + 1) vs]
            rw [byt_append 6 _ _ m (by rw [hl']; omega) (fun d hd => Hv64.out d (List.mem_of_mem_drop hd))])
          go_wp2_with (at_builtin; ((with_reducible refine wpList_app ?g1 (.tmp 46) (.tmp 51) ?g2 w.heap.size u9 (byts 6 vs m) [byt 6 vs m] ?g3 ?g4 wr.heap.size 0 1 1 ?g5 ?g6 ?g7 ?g8 ?g9 ?_); (case g1 => rfl); (case g2 => rfl); (case g3 => rfl); (case g4 => exact HO.out.below ((Below.refl _ _).alloc (Nat.le_refl _) _)); (case g5 => rfl); (case g6 => rfl); (case g7 => exact Bs.of_blk (Blk.newA _ _ _) 0 (fun j hj => by match j, hj with | 0, _ => exact congrArg (fun x : UInt8 => some (vb x)) Hbyte.out)); (case g8 => rw [byts_length]; omega); (case g9 => have := HBl.out.size; simp; omega); intro v' w1 hv hg; have Hv := Lib.hid hv; clear hv; have Hg := Lib.hid ((HBl.out.alloc (by have := HBl.out.size; omega) _).trans (OwnB.belowBase (w := wr.alloc _) (HO.out.below ((Below.refl _ _).alloc (Nat.le_refl _) _)) hg (by have := HBl.out.size; simp; omega))); clear hg))
          go_roundw
          case rel => exact ⟨k + 1, m + 1, r, by omega, by go_num, Hbad'.out, by have := Hnm.out; omega, by omega, by go_num, by rw [Hx.out], by rw [byts_succ]; exact Hv.out, Hg.out⟩
          case measure => simp [intOf]; omega
        · go_wp2_with fail
          go_roundw
          case rel => exact ⟨k + 1, m, n + 6, by omega, by go_num, Hbad'.out, by have := Hnm.out; omega, by omega, by go_num, by rw [Hx.out], HO.out, HBl.out⟩
          case measure => simp [intOf]; omega
    · obtain rfl : k = s.length := by omega
      have hvt : vs.take s.length = vs := List.take_of_length_le (by rw [Hvl.out]; exact Nat.le_refl _)
      rw [hvt]; clear hvt
      rw [List.take_length] at Hbad
      obtain h4 | h4 | h4 | h4 : n = 0 ∨ n = 2 ∨ n = 4 ∨ n = 6 := by have := Hnm.out; omega
      · subst h4
        have hcnt : (((0 : Nat) : Int)) = (0 : Int) := rfl
        rw [hcnt]; clear hcnt
        clear hn
        by_cases hu : unused 6 vs = 0
        · have hU : bits .and .u32 (wn (heldW 6 vs)) 0 = 0 := (heldW_unused 6 vs 0 m (by have := Hnm.out; have := Hvl.out; omega) (by decide) 0 rfl).trans (by rw [hu]; rfl)
          have HR : Hid (unS 6 al s = (byts 6 vs (6 * s.length / 8), 0)) := Lib.hid (unS_ok 6 al s vs Hvs.out Hbad.out hu)
          have Hm : Hid (6 * s.length / 8 = m) := Lib.hid (by have := Hnm.out; omega)
          clear hu
          go_wp2_with fail
          go_ret2
          exact ⟨u9, by rw [HR.out]; rfl, by rw [HR.out, Hm.out]; exact HO.out, HBl.out⟩
        · have hU : bits .and .u32 (wn (heldW 6 vs)) 0 = ((unused 6 vs : Nat) : Int) := heldW_unused 6 vs 0 m (by have := Hnm.out; have := Hvl.out; omega) (by decide) 0 rfl
          have HR : Hid (unS 6 al s = ([], 4)) := Lib.hid (unS_form 6 al s vs Hvs.out Hbad.out hu)
          obtain ⟨q, hq⟩ : ∃ q, unused 6 vs = q := ⟨_, rfl⟩
          rw [hq] at hU hu
          clear hq
          have hq0 : (((q : Nat) : Int) == 0) = false := beq_eq_false_iff_ne.2 (by omega)
          have hq1 : (((q : Nat) : Int) != 0) = true := by rw [bne_iff_ne]; omega
          clear hu
          go_wp2_with fail
          go_ret2
          exact ⟨.slice none 0 0, by rw [HR.out]; rfl, by rw [HR.out]; exact OwnB.nil _ _, HBl.out⟩
      · subst h4
        have hcnt : (((2 : Nat) : Int)) = (2 : Int) := rfl
        rw [hcnt]; clear hcnt
        clear hn
        by_cases hu : unused 6 vs = 0
        · have hU : bits .and .u32 (wn (heldW 6 vs)) 3 = 0 := (heldW_unused 6 vs 2 m (by have := Hnm.out; have := Hvl.out; omega) (by decide) 3 rfl).trans (by rw [hu]; rfl)
          have HR : Hid (unS 6 al s = (byts 6 vs (6 * s.length / 8), 0)) := Lib.hid (unS_ok 6 al s vs Hvs.out Hbad.out hu)
          have Hm : Hid (6 * s.length / 8 = m) := Lib.hid (by have := Hnm.out; omega)
          clear hu
          go_wp2_with fail
          go_ret2
          exact ⟨u9, by rw [HR.out]; rfl, by rw [HR.out, Hm.out]; exact HO.out, HBl.out⟩
        · have hU : bits .and .u32 (wn (heldW 6 vs)) 3 = ((unused 6 vs : Nat) : Int) := heldW_unused 6 vs 2 m (by have := Hnm.out; have := Hvl.out; omega) (by decide) 3 rfl
          have HR : Hid (unS 6 al s = ([], 4)) := Lib.hid (unS_form 6 al s vs Hvs.out Hbad.out hu)
          obtain ⟨q, hq⟩ : ∃ q, unused 6 vs = q := ⟨_, rfl⟩
          rw [hq] at hU hu
          clear hq
          have hq0 : (((q : Nat) : Int) == 0) = false := beq_eq_false_iff_ne.2 (by omega)
          have hq1 : (((q : Nat) : Int) != 0) = true := by rw [bne_iff_ne]; omega
          clear hu
          go_wp2_with fail
          go_ret2
          exact ⟨.slice none 0 0, by rw [HR.out]; rfl, by rw [HR.out]; exact OwnB.nil _ _, HBl.out⟩
      · subst h4
        have hcnt : (((4 : Nat) : Int)) = (4 : Int) := rfl
        rw [hcnt]; clear hcnt
        clear hn
        by_cases hu : unused 6 vs = 0
        · have hU : bits .and .u32 (wn (heldW 6 vs)) 15 = 0 := (heldW_unused 6 vs 4 m (by have := Hnm.out; have := Hvl.out; omega) (by decide) 15 rfl).trans (by rw [hu]; rfl)
          have HR : Hid (unS 6 al s = (byts 6 vs (6 * s.length / 8), 0)) := Lib.hid (unS_ok 6 al s vs Hvs.out Hbad.out hu)
          have Hm : Hid (6 * s.length / 8 = m) := Lib.hid (by have := Hnm.out; omega)
          clear hu
          go_wp2_with fail
          go_ret2
          exact ⟨u9, by rw [HR.out]; rfl, by rw [HR.out, Hm.out]; exact HO.out, HBl.out⟩
        · have hU : bits .and .u32 (wn (heldW 6 vs)) 15 = ((unused 6 vs : Nat) : Int) := heldW_unused 6 vs 4 m (by have := Hnm.out; have := Hvl.out; omega) (by decide) 15 rfl
          have HR : Hid (unS 6 al s = ([], 4)) := Lib.hid (unS_form 6 al s vs Hvs.out Hbad.out hu)
          obtain ⟨q, hq⟩ : ∃ q, unused 6 vs = q := ⟨_, rfl⟩
          rw [hq] at hU hu
          clear hq
          have hq0 : (((q : Nat) : Int) == 0) = false := beq_eq_false_iff_ne.2 (by omega)
          have hq1 : (((q : Nat) : Int) != 0) = true := by rw [bne_iff_ne]; omega
          clear hu
          go_wp2_with fail
          go_ret2
          exact ⟨.slice none 0 0, by rw [HR.out]; rfl, by rw [HR.out]; exact OwnB.nil _ _, HBl.out⟩
      · subst h4
        have hcnt : (((6 : Nat) : Int)) = (6 : Int) := rfl
        rw [hcnt]; clear hcnt
        clear hn
        by_cases hu : unused 6 vs = 0
        · have hU : bits .and .u32 (wn (heldW 6 vs)) 63 = 0 := (heldW_unused 6 vs 6 m (by have := Hnm.out; have := Hvl.out; omega) (by decide) 63 rfl).trans (by rw [hu]; rfl)
          have HR : Hid (unS 6 al s = (byts 6 vs (6 * s.length / 8), 0)) := Lib.hid (unS_ok 6 al s vs Hvs.out Hbad.out hu)
          have Hm : Hid (6 * s.length / 8 = m) := Lib.hid (by have := Hnm.out; omega)
          clear hu
          go_wp2_with fail
          go_ret2
          exact ⟨u9, by rw [HR.out]; rfl, by rw [HR.out, Hm.out]; exact HO.out, HBl.out⟩
        · have hU : bits .and .u32 (wn (heldW 6 vs)) 63 = ((unused 6 vs : Nat) : Int) := heldW_unused 6 vs 6 m (by have := Hnm.out; have := Hvl.out; omega) (by decide) 63 rfl
          have HR : Hid (unS 6 al s = ([], 4)) := Lib.hid (unS_form 6 al s vs Hvs.out Hbad.out hu)
          obtain ⟨q, hq⟩ : ∃ q, unused 6 vs = q := ⟨_, rfl⟩
          rw [hq] at hU hu
          clear hq
          have hq0 : (((q : Nat) : Int) == 0) = false := beq_eq_false_iff_ne.2 (by omega)
          have hq1 : (((q : Nat) : Int) != 0) = true := by rw [bne_iff_ne]; omega
          clear hu
          go_wp2_with fail
          go_ret2
          exact ⟨.slice none 0 0, by rw [HR.out]; rfl, by rw [HR.out]; exact OwnB.nil _ _, HBl.out⟩
end Go.Proofs.YtbjhaihfkncdoaaDoor
