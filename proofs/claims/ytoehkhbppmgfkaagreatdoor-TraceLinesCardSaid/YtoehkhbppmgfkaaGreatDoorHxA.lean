/- b64.Unhex and the reference's, at every text: what is decoded is encoded to the same text, and what is encoded is decoded. (The parts of Unspell, Unhex, Back, RefUnhex and Forth that hex wants.) -/
import Derived.Test.YtoehkhbppmgfkaaGreatDoorHexN
import Derived.Test.YtoehkhbppmgfkaaGreatDoorShelf3
import Derived.Test.YtoehkhbppmgfkaaGreatDoorNumW
import Derived.Test.YtoehkhbppmgfkaaGreatDoorNumB
import Derived.Test.YtoehkhbppmgfkaaGreatDoorBitsW
import Derived.Test.YtoehkhbppmgfkaaGreatDoorStepApp
import Derived.Test.YtoehkhbppmgfkaaGreatDoorStrT
import Derived.Lib.IndexLaws
import Derived.WalkSpells
import Derived.Deep.DeepCutAuto
import Derived.Deep.RegionLaw
import Derived.Deep.QuietTactic
import Derived.BigQuiet
set_option maxRecDepth 100000
namespace Go.Proofs.YtoehkhbppmgfkaaGreatDoor
open Go.RowKit
/-- A letter's place in the alphabet. -/
def pos (al : List UInt8) (c : UInt8) : Nat := (Lib.indexByte al c).toNat
/-- What is decoded, and the error. -/
def unS (wd : Nat) (al s : List UInt8) : List UInt8 × Int :=
  if s.any (fun c => decide (Lib.indexByte al c < 0)) then ([], 5)
  else if unused wd (s.map (pos al)) = 0 then (byts wd (s.map (pos al)) (wd * s.length / 8), 0) else ([], 4)
theorem pos_lt (al : List UInt8) (c : UInt8) (h : 0 < al.length) : pos al c < al.length := by
  unfold pos
  by_cases h0 : 0 ≤ Lib.indexByte al c
  · obtain ⟨o, ho⟩ := Int.eq_ofNat_of_zero_le h0
    have := (Lib.indexByte_some ho).1
    rw [ho]
    exact (List.getElem?_eq_some_iff.1 this).1
  · omega
/-- The letters so far, in a word of 32 bits. -/
def heldW (w : Nat) (vs : List Nat) : BitVec 32 := BitVec.ofNat 32 (numW w vs)
theorem heldW_snoc (w : Nat) (vs : List Nat) (d : Nat) (hd : d < 2 ^ w) (hw : w ≤ 32) : heldW w vs <<< w ||| BitVec.ofNat 32 d = heldW w (vs ++ [d]) := by
  apply BitVec.eq_of_toNat_eq
  have h32 : 2 ^ w ≤ 2 ^ 32 := Nat.pow_le_pow_right (by decide) hw
  unfold heldW
  rw [numW_snoc, BitVec.toNat_or, BitVec.toNat_shiftLeft, BitVec.toNat_ofNat, BitVec.toNat_ofNat, BitVec.toNat_ofNat, Nat.shiftLeft_eq, Nat.mod_eq_of_lt (show d < 2 ^ 32 by omega), Nat.mod_mul_mod]
  have e : 2 ^ 32 = 2 ^ w * 2 ^ (32 - w) := by rw [← Nat.pow_add]; congr 1; omega
  have e1 : numW w vs * 2 ^ w % 2 ^ 32 = 2 ^ w * (numW w vs % 2 ^ (32 - w)) := by rw [e, Nat.mul_comm, Nat.mul_mod_mul_left]
  rw [e1, ← Nat.two_pow_add_eq_or_of_lt hd]
  have h1 : numW w vs % 2 ^ (32 - w) + 1 ≤ 2 ^ (32 - w) := Nat.mod_lt _ (Nat.two_pow_pos _)
  have h2 : 2 ^ w * (numW w vs % 2 ^ (32 - w)) + 2 ^ w ≤ 2 ^ 32 := by rw [e]; exact Nat.mul_le_mul_left _ h1
  have h3 : numW w vs * 2 ^ w + d = 2 ^ 32 * (numW w vs / 2 ^ (32 - w)) + (2 ^ w * (numW w vs % 2 ^ (32 - w)) + d) := by
    conv => lhs; rw [← Nat.div_add_mod (numW w vs) (2 ^ (32 - w))]
    rw [e, Nat.add_mul, Nat.mul_comm (numW w vs % _), Nat.add_assoc, Nat.mul_comm (2 ^ (32 - w) * _), Nat.mul_assoc]
  rw [h3, Nat.mul_add_mod, Nat.mod_eq_of_lt (show 2 ^ w * (numW w vs % 2 ^ (32 - w)) + d < 2 ^ 32 by omega)]
/-- The byte that is told, where r bits stand behind it. -/
theorem heldW_byte (w : Nat) (vs : List Nat) (r m : Nat) (hr : r + 8 * (m + 1) = w * vs.length) (hr2 : r + 8 ≤ 32) : UInt8.ofNat (heldW w vs >>> r).toNat = byt w vs m := by
  unfold heldW byt
  rw [show w * vs.length - 8 * (m + 1) = r by omega]
  apply UInt8.toNat_inj.1
  rw [UInt8.toNat_ofNat', UInt8.toNat_ofNat', BitVec.toNat_ushiftRight, BitVec.toNat_ofNat, Nat.shiftRight_eq_div_pow]
  have e : 2 ^ 32 = 2 ^ r * 2 ^ (32 - r) := by rw [← Nat.pow_add]; congr 1; omega
  rw [e, Nat.mod_mul_right_div_self, Nat.mod_mod_of_dvd _ (Nat.pow_dvd_pow 2 (by omega))]
theorem make_capU (n : Nat) (hn : n ≤ 1000000) (W : World) :
    (Instr.makeSlice 49 (.int .i64 0) (.int .i64 ((n : Int) * 6 / 8))).run Tryz.prog W = .ok (.slice (some ⟨W.heap.size, 0, none⟩) 0 (6 * n / 8)) (W.alloc (.cells (noughts (6 * n / 8)) 5)) := by
  have := make_bytes 0 (6 * n / 8) (by omega) (by omega) W
  rwa [show ((6 * n / 8 : Nat) : Int) = (n : Int) * 6 / 8 from by omega] at this
theorem heldW_unused (w : Nat) (vs : List Nat) (n m : Nat) (hn : w * vs.length = 8 * m + n) (h8 : n < 8) (k : Nat) (hk : k = 2 ^ n - 1) : bits .and .u32 (wn (heldW w vs)) (k : Int) = ((unused w vs : Nat) : Int) := by
  have h1 : 2 ^ n ≤ 2 ^ 7 := Nat.pow_le_pow_right (by decide) (by omega)
  have h0 := Nat.two_pow_pos n
  have e : ((k : Nat) : Int) = wn (BitVec.ofNat 32 k) := by unfold wn; rw [BitVec.toNat_ofNat]; omega
  rw [e, bv_and]
  unfold wn heldW unused
  rw [hk, BitVec.toNat_and, BitVec.toNat_ofNat, BitVec.toNat_ofNat, Nat.mod_eq_of_lt (show 2 ^ n - 1 < 2 ^ 32 by omega), Nat.and_two_pow_sub_one_eq_mod, Nat.mod_mod_of_dvd _ (Nat.pow_dvd_pow 2 (by omega)), show w * vs.length % 8 = n by omega]
theorem bv_shl6 (x : BitVec 32) : wn x * (64 : Int) % (4294967296 : Int) = wn (x <<< 6) := bv_shl' x 6
theorem wn_mod32 (x : BitVec 32) : wn x % (4294967296 : Int) = wn x := by have := wn_range x; omega
theorem wn_mod8 (x : BitVec 32) : wn x % (256 : Int) = bn (UInt8.ofNat x.toNat) := by rw [← wrap_u8_wn, IntKind.wrap_u8]
theorem unS_bad (wd : Nat) (al s : List UInt8) (h : ∃ c ∈ s, Lib.indexByte al c < 0) : unS wd al s = ([], 5) := by
  unfold unS; rw [if_pos (by rw [List.any_eq_true]; obtain ⟨c, hc, hn⟩ := h; exact ⟨c, hc, by simpa using hn⟩)]
theorem unS_form (wd : Nat) (al s : List UInt8) (vs : List Nat) (hvs : vs = s.map (pos al)) (h : ∀ c ∈ s, 0 ≤ Lib.indexByte al c) (hu : unused wd vs ≠ 0) : unS wd al s = ([], 4) := by
  subst hvs
  unfold unS; rw [if_neg (by rw [List.any_eq_true]; rintro ⟨c, hc, hn⟩; have := h c hc; simp at hn; omega), if_neg hu]
theorem unS_ok (wd : Nat) (al s : List UInt8) (vs : List Nat) (hvs : vs = s.map (pos al)) (h : ∀ c ∈ s, 0 ≤ Lib.indexByte al c) (hu : unused wd vs = 0) : unS wd al s = (byts wd vs (wd * s.length / 8), 0) := by
  subst hvs
  unfold unS; rw [if_neg (by rw [List.any_eq_true]; rintro ⟨c, hc, hn⟩; have := h c hc; simp at hn; omega), if_pos hu]
theorem make_capU4 (n : Nat) (hn : n ≤ 1000000) (W : World) :
    (Instr.makeSlice 49 (.int .i64 0) (.int .i64 ((n : Int) * 4 / 8))).run Tryz.prog W = .ok (.slice (some ⟨W.heap.size, 0, none⟩) 0 (4 * n / 8)) (W.alloc (.cells (noughts (4 * n / 8)) 5)) := by
  have := make_bytes 0 (4 * n / 8) (by omega) (by omega) W
  rwa [show ((4 * n / 8 : Nat) : Int) = (n : Int) * 4 / 8 from by omega] at this
attribute [local go_sem] bv_shl4 bv_or bv_shr bv_shl' wn_mod8 wn_mod32
set_option maxRecDepth 100000 in
set_option maxHeartbeats 1000000 in
theorem unspell4 (sb ab : ByteArray) (s al : List UInt8) (hs : sb.data.toList = s) (ha : ab.data.toList = al) (hal : al.length = 16) (w : World) (hl : s.length ≤ 100000) :
    Calls Tryz.prog 45 #[.string sb, .string ab] w fun e w' => ∃ v', e = .returned (.tuple #[v', .int .i64 (unS 4 al s).2]) ∧ OwnB w' w.heap.size v' (unS 4 al s).1 ∧ Below w.heap.size w w' := by
  have hsz : ab.size = 16 := by rw [← hal, ← ha]; simp
  have hsl : sb.size = s.length := by rw [← hs]; simp
  have Hb := Lib.hid (bitsOf_16 ab hsz w)
  have hmk := make_capU4 s.length (by omega)
  have Hs := Lib.hid hs; clear hs
  have Hal := Lib.hid hal; clear hal
  have Ha := Lib.hid ha; clear ha
  have Hsz := Lib.hid hsz; clear hsz
  obtain ⟨vs, hvs⟩ : ∃ vs, vs = s.map (pos al) := ⟨_, rfl⟩
  have Hvl : Hid (vs.length = s.length) := Lib.hid (by rw [hvs, List.length_map])
  have Hv64 : Hid (∀ d ∈ vs, d < 16) := Lib.hid (fun d hd => by
    rw [hvs, List.mem_map] at hd
    obtain ⟨c, _, rfl⟩ := hd
    have := pos_lt al c (by rw [Hal.out]; omega)
    rw [Hal.out] at this; exact this)
  have Hvs := Lib.hid hvs; clear hvs
  go_enter Tryz.func45, Tryz.ntmps45
  go_wp2_with fail
  refine Hb.out.mono ?_
  rintro e w' ⟨rfl, rfl⟩
  go_wp2_with fail
  clear hmk
  go_loopw [7, 8, 9, 10, 11, 23] (fun x cn u _ _ i wr => ∃ k m n : Nat, k ≤ s.length ∧ i = .int .i64 k ∧ (∀ c ∈ s.take k, 0 ≤ Lib.indexByte al c) ∧ n + 8 * m = 4 * k ∧ n < 8 ∧ cn = .int .i64 (n : Int) ∧ x = vw (heldW 4 (vs.take k)) ∧ OwnB wr w.heap.size u (byts 4 vs m) ∧ Below w.heap.size w wr) (fun _ _ _ _ _ i _ => s.length - (intOf i).toNat)
  case atStart => 
    refine ⟨0, 0, 0, by omega, rfl, by simp, by omega, by omega, rfl, rfl, ?_, (Below.refl _ _).alloc (Nat.le_refl _) _⟩
    rw [byts_zero]
    exact OwnB.of_heap (cur := noughts (4 * s.length / 8)) (Nat.le_refl _) (heap_alloc_new w _) (noughts_size _) (by unfold maxLen; omega) rfl (by simp) (by omega)
  case round =>
    obtain ⟨k, m, n, hk, rfl, hbad, hnm, hn, rfl, rfl, hO, hBl⟩ := hrel
    have HO := Lib.hid hO; clear hO
    have HBl := Lib.hid hBl; clear hBl
    have Hbad := Lib.hid hbad; clear hbad
    have hm : m ≤ 100000 := by omega
    have Hnm := Lib.hid hnm; clear hnm
    by_cases hlt : k < s.length
    · have hi : ∀ h, Lib.indexByte ab.data.toList (((sb[k]'h).toNat : Nat) : Int).toNat.toUInt8 = Lib.indexByte al (s.getD k 0) := fun h => by
        rw [Ha.out, ← Hs.out]
        congr 1
        have hk2 : k < sb.size := h
        simp [ByteArray.getElem_eq_getElem_data, List.getD_eq_getElem?_getD, hk2]
      have Hi := Lib.hid hi; clear hi
      have Hmem : Hid (s.getD k 0 ∈ s) := Lib.hid (by rw [List.getD_eq_getElem?_getD, List.getElem?_eq_getElem hlt]; exact List.getElem_mem hlt)
      have Htk : Hid (s.take (k + 1) = s.take k ++ [s.getD k 0]) := Lib.hid (by rw [List.take_succ_eq_append_getElem hlt, List.getD_eq_getElem?_getD, List.getElem?_eq_getElem hlt]; rfl)
      have Htv : Hid (vs.take (k + 1) = vs.take k ++ [pos al (s.getD k 0)]) := Lib.hid (by
        rw [Hvs.out, ← List.map_take, ← List.map_take, Htk.out, List.map_append]; rfl)
      have Hp64 : Hid (pos al (s.getD k 0) < 16) := Lib.hid (by have := pos_lt al (s.getD k 0) (by rw [Hal.out]; omega); rw [Hal.out] at this; exact this)
      go_wp2_with fail
      refine (Tryz.strings_IndexByte _ _ _).mono ?_
      rintro e w' ⟨rfl, hw⟩
      obtain rfl := hw.symm
      rw [Hi.out]
      clear Hi hw
      have Hpos : Hid (pos al (s.getD k 0) = (Lib.indexByte al (s.getD k 0)).toNat) := Lib.hid rfl
      obtain ⟨D, hD⟩ : ∃ D, Lib.indexByte al (s.getD k 0) = D := ⟨_, rfl⟩
      rw [hD]
      have HD := Lib.hid hD; clear hD
      by_cases hneg : D < 0
      · go_wp2_with fail
        have HR : Hid (unS 4 al s = ([], 5)) := Lib.hid (unS_bad 4 al s ⟨_, Hmem.out, by rw [HD.out]; exact hneg⟩)
        go_ret2
        exact ⟨.slice none 0 0, by rw [HR.out]; rfl, by rw [HR.out]; exact OwnB.nil _ _, HBl.out⟩
      · obtain ⟨y, rfl⟩ : ∃ y : BitVec 32, D = wn y := ⟨BitVec.ofNat 32 (pos al (s.getD k 0)), by
          have h1 := Hp64.out; have h2 := Hpos.out; rw [HD.out] at h2
          unfold wn; rw [BitVec.toNat_ofNat]; omega⟩
        have Hy : Hid (y = BitVec.ofNat 32 (pos al (s.getD k 0))) := Lib.hid (by
          apply BitVec.eq_of_toNat_eq
          have h1 := Hp64.out; have h2 := Hpos.out; rw [HD.out] at h2
          rw [BitVec.toNat_ofNat]; unfold wn at h2; omega)
        obtain ⟨hd, hd0⟩ : wn y < 16 ∧ 0 ≤ wn y := ⟨by rw [Hy.out]; unfold wn; rw [BitVec.toNat_ofNat]; have := Hp64.out; omega, by omega⟩
        have Hx : Hid (heldW 4 (vs.take k) <<< 4 ||| y = heldW 4 (vs.take (k + 1))) := Lib.hid (by rw [Hy.out, heldW_snoc 4 _ _ Hp64.out (by decide), Htv.out])
        have Hbad' : Hid (∀ c ∈ s.take (k + 1), 0 ≤ Lib.indexByte al c) := Lib.hid (fun c hc => by
          rw [Htk.out, List.mem_append, List.mem_singleton] at hc
          rcases hc with hc | rfl
          · exact Hbad.out c hc
          · rw [HD.out]; exact hd0)
        by_cases h2 : 4 ≤ n
        · obtain ⟨r, rfl⟩ : ∃ r, n = r + 4 := ⟨n - 4, by omega⟩
          have Hbyte : Hid (UInt8.ofNat ((heldW 4 (vs.take k) <<< 4 ||| y) >>> r).toNat = byt 4 vs m) := Lib.hid (by
            have e := Hnm.out
            have hl' : (vs.take (k + 1)).length = k + 1 := by rw [List.length_take, Hvl.out]; omega
            rw [Hx.out, heldW_byte 4 _ r m (by rw [hl']; omega) (by omega)]
            conv => rhs; rw [← List.take_append_drop (k + 1) vs]
            rw [byt_append 4 _ _ m (by rw [hl']; omega) (fun d hd => Hv64.out d (List.mem_of_mem_drop hd))])
          go_wp2_with (at_builtin; ((with_reducible refine wpList_app ?g1 (.tmp 46) (.tmp 51) ?g2 w.heap.size u9 (byts 4 vs m) [byt 4 vs m] ?g3 ?g4 wr.heap.size 0 1 1 ?g5 ?g6 ?g7 ?g8 ?g9 ?_); (case g1 => rfl); (case g2 => rfl); (case g3 => rfl); (case g4 => exact HO.out.below ((Below.refl _ _).alloc (Nat.le_refl _) _)); (case g5 => rfl); (case g6 => rfl); (case g7 => exact Bs.of_blk (Blk.newA _ _ _) 0 (fun j hj => by match j, hj with | 0, _ => exact congrArg (fun x : UInt8 => some (vb x)) Hbyte.out)); (case g8 => rw [byts_length]; omega); (case g9 => have := HBl.out.size; simp; omega); intro v' w1 hv hg; have Hv := Lib.hid hv; clear hv; have Hg := Lib.hid ((HBl.out.alloc (by have := HBl.out.size; omega) _).trans (OwnB.belowBase (w := wr.alloc _) (HO.out.below ((Below.refl _ _).alloc (Nat.le_refl _) _)) hg (by have := HBl.out.size; simp; omega))); clear hg))
          go_roundw
          case rel => exact ⟨k + 1, m + 1, r, by omega, by go_num, Hbad'.out, by have := Hnm.out; omega, by omega, by go_num, by rw [Hx.out], by rw [byts_succ]; exact Hv.out, Hg.out⟩
          case measure => simp [intOf]; omega
        · go_wp2_with fail
          go_roundw
          case rel => exact ⟨k + 1, m, n + 4, by omega, by go_num, Hbad'.out, by have := Hnm.out; omega, by omega, by go_num, by rw [Hx.out], HO.out, HBl.out⟩
          case measure => simp [intOf]; omega
    · obtain rfl : k = s.length := by omega
      have hvt : vs.take s.length = vs := List.take_of_length_le (by rw [Hvl.out]; exact Nat.le_refl _)
      rw [hvt]; clear hvt
      rw [List.take_length] at Hbad
      obtain h4 | h4 : n = 0 ∨ n = 4 := by have := Hnm.out; omega
      · subst h4
        have hcnt : (((0 : Nat) : Int)) = (0 : Int) := rfl
        rw [hcnt]; clear hcnt
        clear hn
        by_cases hu : unused 4 vs = 0
        · have hU : bits .and .u32 (wn (heldW 4 vs)) 0 = 0 := (heldW_unused 4 vs 0 m (by have := Hnm.out; have := Hvl.out; omega) (by decide) 0 rfl).trans (by rw [hu]; rfl)
          have HR : Hid (unS 4 al s = (byts 4 vs (4 * s.length / 8), 0)) := Lib.hid (unS_ok 4 al s vs Hvs.out Hbad.out hu)
          have Hm : Hid (4 * s.length / 8 = m) := Lib.hid (by have := Hnm.out; omega)
          clear hu
          go_wp2_with fail
          go_ret2
          exact ⟨u9, by rw [HR.out]; rfl, by rw [HR.out, Hm.out]; exact HO.out, HBl.out⟩
        · have hU : bits .and .u32 (wn (heldW 4 vs)) 0 = ((unused 4 vs : Nat) : Int) := heldW_unused 4 vs 0 m (by have := Hnm.out; have := Hvl.out; omega) (by decide) 0 rfl
          have HR : Hid (unS 4 al s = ([], 4)) := Lib.hid (unS_form 4 al s vs Hvs.out Hbad.out hu)
          obtain ⟨q, hq⟩ : ∃ q, unused 4 vs = q := ⟨_, rfl⟩
          rw [hq] at hU hu
          clear hq
          have hq0 : (((q : Nat) : Int) == 0) = false := beq_eq_false_iff_ne.2 (by omega)
          have hq1 : (((q : Nat) : Int) != 0) = true := by rw [bne_iff_ne]; omega
          clear hu
          go_wp2_with fail
          go_ret2
          exact ⟨.slice none 0 0, by rw [HR.out]; rfl, by rw [HR.out]; exact OwnB.nil _ _, HBl.out⟩
      · subst h4
        have hcnt : (((4 : Nat) : Int)) = (4 : Int) := rfl
        rw [hcnt]; clear hcnt
        clear hn
        by_cases hu : unused 4 vs = 0
        · have hU : bits .and .u32 (wn (heldW 4 vs)) 15 = 0 := (heldW_unused 4 vs 4 m (by have := Hnm.out; have := Hvl.out; omega) (by decide) 15 rfl).trans (by rw [hu]; rfl)
          have HR : Hid (unS 4 al s = (byts 4 vs (4 * s.length / 8), 0)) := Lib.hid (unS_ok 4 al s vs Hvs.out Hbad.out hu)
          have Hm : Hid (4 * s.length / 8 = m) := Lib.hid (by have := Hnm.out; omega)
          clear hu
          go_wp2_with fail
          go_ret2
          exact ⟨u9, by rw [HR.out]; rfl, by rw [HR.out, Hm.out]; exact HO.out, HBl.out⟩
        · have hU : bits .and .u32 (wn (heldW 4 vs)) 15 = ((unused 4 vs : Nat) : Int) := heldW_unused 4 vs 4 m (by have := Hnm.out; have := Hvl.out; omega) (by decide) 15 rfl
          have HR : Hid (unS 4 al s = ([], 4)) := Lib.hid (unS_form 4 al s vs Hvs.out Hbad.out hu)
          obtain ⟨q, hq⟩ : ∃ q, unused 4 vs = q := ⟨_, rfl⟩
          rw [hq] at hU hu
          clear hq
          have hq0 : (((q : Nat) : Int) == 0) = false := beq_eq_false_iff_ne.2 (by omega)
          have hq1 : (((q : Nat) : Int) != 0) = true := by rw [bne_iff_ne]; omega
          clear hu
          go_wp2_with fail
          go_ret2
          exact ⟨.slice none 0 0, by rw [HR.out]; rfl, by rw [HR.out]; exact OwnB.nil _ _, HBl.out⟩
/-- What digits of Base16 are of, or the error. -/
def decH (s : List UInt8) : List UInt8 × Int := if s.length % 2 = 0 then unS 4 alH s else ([], 2)
set_option maxRecDepth 100000 in
set_option maxHeartbeats 400000 in
theorem unhex_any (s : List UInt8) (w : World) (hl : s.length ≤ 100000) :
    Calls Tryz.prog 25 #[str s] w fun e w' => ∃ v', e = .returned (.tuple #[v', .int .i64 (decH s).2]) ∧ OwnB w' w.heap.size v' (decH s).1 ∧ Below w.heap.size w w' := by
  by_cases h1 : s.length % 2 = 0
  · have HR : Hid (decH s = unS 4 alH s) := Lib.hid (by unfold decH; rw [if_pos h1])
    have hb : (((s.length : Int)) % 2 == 0) = true := beq_iff_eq.2 (by omega)
    have hb2 : (((s.length : Int)) % 2 != 0) = false := by rw [bne_eq_false_iff_eq]; omega
    clear h1
    go_enter Tryz.func25, Tryz.ntmps25
    go_wp2_with fail
    refine (unspell4 _ _ s alH (by simp) rfl rfl w hl).mono ?_
    rintro e w1 ⟨v, rfl, hO, hB⟩
    have HO := Lib.hid hO; clear hO
    have HB := Lib.hid hB; clear hB
    go_wp2_with fail
    go_ret2
    exact ⟨v, by rw [HR.out]; rfl, by rw [HR.out]; exact HO.out, HB.out⟩
  · have HR : Hid (decH s = ([], 2)) := Lib.hid (by unfold decH; rw [if_neg h1])
    have hb : (((s.length : Int)) % 2 == 0) = false := beq_eq_false_iff_ne.2 (by omega)
    have hb2 : (((s.length : Int)) % 2 != 0) = true := by rw [bne_iff_ne]; omega
    clear h1
    go_enter Tryz.func25, Tryz.ntmps25
    go_wp2_with fail
    go_ret2
    exact ⟨.slice none 0 0, by rw [HR.out]; rfl, by rw [HR.out]; exact OwnB.nil _ _, Below.refl _ _⟩
theorem indexByte_is (l : List UInt8) (c : UInt8) (n : Nat) (h : l[n]? = some c) (hb : ∀ k, k < n → l[k]? ≠ some c) : Lib.indexByte l c = n := by
  have h0 := Lib.indexByte_ge l c
  by_cases h1 : Lib.indexByte l c = -1
  · exact absurd h (Lib.indexByte_none h1 n)
  · obtain ⟨o, ho⟩ := Int.eq_ofNat_of_zero_le (show 0 ≤ Lib.indexByte l c by omega)
    obtain ⟨h2, h3⟩ := Lib.indexByte_some ho
    rw [ho]
    have : ¬ o < n := fun h => hb o h h2
    have : ¬ n < o := fun hh => h3 n hh h
    omega
theorem indexByte_not (l : List UInt8) (c : UInt8) (h : ∀ k, k < l.length → l[k]? ≠ some c) : Lib.indexByte l c = -1 := by
  have h0 := Lib.indexByte_ge l c
  by_cases h1 : Lib.indexByte l c = -1
  · exact h1
  · obtain ⟨o, ho⟩ := Int.eq_ofNat_of_zero_le (show 0 ≤ Lib.indexByte l c by omega)
    obtain ⟨h2, _⟩ := Lib.indexByte_some ho
    exact absurd h2 (h o (List.getElem?_eq_some_iff.1 h2).1)
theorem bn_beq (x y : UInt8) : (bn x == bn y) = (x == y) := by
  by_cases h : x = y
  · subst h; simp
  · have : bn x ≠ bn y := fun e => h (bn_inj e)
    rw [beq_eq_false_iff_ne.2 this, beq_eq_false_iff_ne.2 h]
/-- The digits of a number, put together again. -/
theorem numW_digits (w N m : Nat) (hN : N < 2 ^ (w * m)) : ∀ q, q ≤ m → numW w ((List.range q).map fun k => N / 2 ^ (w * m - w * (k + 1)) % 2 ^ w) = N / 2 ^ (w * m - w * q) := by
  intro q
  induction q with
  | zero => intro _; rw [Nat.mul_zero, Nat.sub_zero, Nat.div_eq_of_lt hN]; rfl
  | succ q ih =>
    intro hq
    rw [List.range_succ, List.map_append, List.map_singleton, numW_snoc, ih (by omega)]
    have h1 : w * (q + 1) ≤ w * m := Nat.mul_le_mul_left _ hq
    have h2 : w * (q + 1) = w * q + w := Nat.mul_succ w q
    have e : w * m - w * q = (w * m - w * (q + 1)) + w := by omega
    rw [e, Nat.pow_add, ← Nat.div_div_eq_div_mul, Nat.mul_comm]
    exact Nat.div_add_mod _ _
/-- Where the last digit ends. -/
theorem many_le (w n : Nat) (hw : 0 < w) : 8 * n ≤ w * many w n ∧ w * many w n < 8 * n + w := by
  unfold many
  have h1 := Nat.div_add_mod (8 * n + w - 1) w
  have h2 := Nat.mod_lt (8 * n + w - 1) hw
  omega
theorem dig_many (w : Nat) (hw : 0 < w) (l : List UInt8) (k : Nat) (hk : k < many w l.length) : dig w l k = numL l * 2 ^ (w * many w l.length - 8 * l.length) / 2 ^ (w * many w l.length - w * (k + 1)) % 2 ^ w := by
  obtain ⟨h1, h2⟩ := many_le w l.length hw
  generalize many w l.length = m at *
  have h3 : w * (k + 1) ≤ w * m := Nat.mul_le_mul_left _ hk
  have h4 : w * (k + 1) = w * k + w := Nat.mul_succ w k
  unfold dig
  have e1 : w = (w * m - 8 * l.length) + (w - (w * m - 8 * l.length)) := by omega
  have e2 : 8 * l.length - w * k = (w * m - w * (k + 1)) + (w - (w * m - 8 * l.length)) := by omega
  congr 1
  conv => lhs; rw [e2]
  have e3 : numL l * 2 ^ w = numL l * 2 ^ (w * m - 8 * l.length) * 2 ^ (w - (w * m - 8 * l.length)) := by rw [Nat.mul_assoc, ← Nat.pow_add, ← e1]
  rw [e3, Nat.pow_add, Nat.mul_div_mul_right _ _ (Nat.two_pow_pos _)]
theorem numW_letters (w : Nat) (hw : 0 < w) (l : List UInt8) : numW w ((List.range (many w l.length)).map (dig w l)) = numL l * 2 ^ (w * many w l.length - 8 * l.length) := by
  have hN : numL l * 2 ^ (w * many w l.length - 8 * l.length) < 2 ^ (w * many w l.length) := by
    have h1 := numL_lt l
    have h2 := many_le w l.length hw
    have e : 2 ^ (w * many w l.length) = 2 ^ (8 * l.length) * 2 ^ (w * many w l.length - 8 * l.length) := by rw [← Nat.pow_add]; congr 1; omega
    rw [e, ← p256]
    exact Nat.mul_lt_mul_of_pos_right h1 (Nat.two_pow_pos _)
  have h := numW_digits w _ (many w l.length) hN _ (Nat.le_refl _)
  rw [Nat.sub_self, Nat.pow_zero, Nat.div_one] at h
  rw [← h]
  congr 1
  apply List.map_congr_left
  intro k hk
  rw [List.mem_range] at hk
  exact dig_many w hw l k hk
/-- An alphabet in which each letter has its own place. -/
def Alph (w : Nat) (al : List UInt8) : Prop := al.length = 2 ^ w ∧ ∀ d, d < 2 ^ w → Lib.indexByte al (al.getD d 0) = d
theorem alph_H : Alph 4 alH := ⟨rfl, fun d hd => by
  have : ∀ d : Fin 16, Lib.indexByte alH (alH.getD d.val 0) = d.val := by decide +kernel
  exact this ⟨d, hd⟩⟩
theorem byts_get (w : Nat) (vs : List Nat) (m j : Nat) (h : j < (byts w vs m).length) : (byts w vs m)[j] = byt w vs j := by simp [byts]
theorem unS_letters (w : Nat) (hw : 0 < w) (hw8 : w ≤ 8) (al : List UInt8) (ha : Alph w al) (l : List UInt8) : unS w al (letters w al l) = (l, 0) := by
  have hvs : (List.range (many w l.length)).map (dig w l) = (letters w al l).map (pos al) := by
    unfold letters
    rw [List.map_map]
    apply List.map_congr_left
    intro k _
    simp only [Function.comp]
    unfold pos
    rw [ha.2 _ (dig_lt w l k)]; rfl
  obtain ⟨h1, h2⟩ := many_le w l.length hw
  have hN := numW_letters w hw l
  have hlen : ((List.range (many w l.length)).map (dig w l)).length = many w l.length := by simp
  have hu : unused w ((List.range (many w l.length)).map (dig w l)) = 0 := by
    unfold unused
    rw [hN, hlen, show w * many w l.length % 8 = w * many w l.length - 8 * l.length by omega, Nat.mul_mod_left]
  rw [unS_ok w al (letters w al l) _ hvs (fun c hc => by
    unfold letters at hc
    rw [List.mem_map] at hc
    obtain ⟨k, _, rfl⟩ := hc
    rw [ha.2 _ (dig_lt w l k)]; omega) hu, letters_length, show w * many w l.length / 8 = l.length by omega]
  congr 1
  apply List.ext_getElem
  · rw [byts_length]
  · intro j hj hj2
    rw [byts_get]
    unfold byt
    rw [hN, hlen]
    have e : w * many w l.length - 8 * (j + 1) = (w * many w l.length - 8 * l.length) + 8 * (l.length - 1 - j) := by omega
    rw [e, Nat.pow_add, Nat.mul_comm (numL l), Nat.mul_div_mul_left _ _ (Nat.two_pow_pos _), ← p256]
    apply UInt8.toNat_inj.1
    rw [UInt8.toNat_ofNat']
    have := num_byte l j hj2
    rw [List.getD_eq_getElem?_getD, List.getElem?_eq_getElem hj2] at this
    exact this
theorem dec_encH (l : List UInt8) : decH (encH l) = (l, 0) := by
  unfold decH
  rw [if_pos (by unfold encH; rw [letters_length]; unfold many; omega)]
  exact unS_letters 4 (by decide) (by decide) alH alph_H l
/-- A slice's length. -/
def lenM : Value → Nat
  | .slice _ n _ => n
  | _ => 0
theorem u8_two (x : UInt8) : bn x * 2 % 256 = bn (x * 2) := by unfold bn; rw [UInt8.toNat_mul]; simp
theorem u8_add (x y : UInt8) : (bn x + bn y) % 256 = bn (x + y) := by unfold bn; rw [UInt8.toNat_add]; simp
/-- What stands behind the first k bytes. -/
theorem slice_from (A : Option Addr) (n c k : Nat) (hk : k ≤ n) (hn : n ≤ c) : ∃ V, (∀ w, (Instr.slice 49 (.slice A n c) (some (.int .i64 (k : Int))) none none).run Tryz.prog w = .ok V w) ∧
    ∀ w B l, Sl w B (.slice A n c) l → l.length = n → Sl w B V (l.drop k) := by
  refine ⟨sliced A k n c 1, fun w => ?_, fun w B l h hl => ?_⟩
  · rw [run_slice_l w 49 A n c Tryz.underlying49 .i64 k (by omega) (by omega)]
    simp [go_sem]
  · obtain ⟨A', c', e, h0, h1, h2, h3⟩ := h
    injection e with e1 e2 e3
    subst e1; subst e3
    have e4 : (l.drop k).length = n - k := by rw [List.length_drop]; omega
    unfold sliced
    refine ⟨_, c - k, by rw [e4], ?_, by omega, by omega, fun hp => ?_⟩
    · intro hz
      by_cases hck : c = k
      · omega
      · rw [if_neg hck] at hz
        have := h0 (by simpa using hz)
        omega
    · obtain ⟨b, o, rfl, hb, hbs⟩ := h3 (by omega)
      rw [if_neg (by omega)]
      refine ⟨b, o + k, ?_, hb, hbs.drop k⟩
      simp [Addr.add_mid]
theorem char_str (s : List UInt8) (k : Nat) (h : k < (ByteArray.mk s.toArray).size) : Value.int .u8 ((((ByteArray.mk s.toArray)[k]'h).toNat : Nat) : Int) = vb (s.getD k 0) := by
  have hi : k < s.length := by simpa [ByteArray.size] using h
  simp [ByteArray.getElem_eq_getElem_data, List.getD_eq_getElem?_getD, hi, bn]
attribute [local go_sem] u8_two u8_add
/-- What the reference has of k digits. -/
def pairs (hv : List Nat) (m : Nat) : List UInt8 := (List.range m).map fun j => UInt8.ofNat (16 * hv.getD (2 * j) 0 + hv.getD (2 * j + 1) 0)
def outU (hv : List Nat) (k : Nat) : List UInt8 := pairs hv (k / 2) ++ (if k % 2 = 1 then [UInt8.ofNat (16 * hv.getD (k - 1) 0)] else [])
theorem pairs_len (hv : List Nat) (m : Nat) : (pairs hv m).length = m := by simp [pairs]
theorem outU_even (hv : List Nat) (k : Nat) (h : k % 2 = 0) : outU hv (k + 1) = outU hv k ++ [UInt8.ofNat (16 * hv.getD k 0)] := by
  unfold outU
  rw [if_pos (by omega), if_neg (by omega), List.append_nil, show (k + 1) / 2 = k / 2 by omega, show k + 1 - 1 = k by omega]
theorem outU_odd (hv : List Nat) (k : Nat) (h : k % 2 = 1) : outU hv k = pairs hv (k / 2) ++ [UInt8.ofNat (16 * hv.getD (k - 1) 0)] := by
  unfold outU; rw [if_pos h]
theorem outU_next (hv : List Nat) (k : Nat) (h : k % 2 = 1) : outU hv (k + 1) = pairs hv (k / 2) ++ [UInt8.ofNat (16 * hv.getD (k - 1) 0) + UInt8.ofNat (hv.getD k 0)] := by
  unfold outU
  rw [if_neg (by omega), List.append_nil, show (k + 1) / 2 = k / 2 + 1 by omega]
  unfold pairs
  rw [List.range_succ, List.map_append, List.map_singleton, show 2 * (k / 2) = k - 1 by omega, show k - 1 + 1 = k by omega]
  congr 2
  apply UInt8.toNat_inj.1
  rw [UInt8.toNat_add, UInt8.toNat_ofNat', UInt8.toNat_ofNat', UInt8.toNat_ofNat']
  omega
theorem outU_len (hv : List Nat) (k : Nat) : (outU hv k).length ≤ k := by
  unfold outU; rw [List.length_append, pairs_len]; split <;> simp <;> omega
theorem pairs_byts (vs : List Nat) (h : ∀ d ∈ vs, d < 16) (m : Nat) (hm : 2 * m ≤ vs.length) : pairs vs m = byts 4 vs m := by
  unfold pairs byts
  apply List.map_congr_left
  intro j hj
  rw [List.mem_range] at hj
  unfold byt
  have e : vs = vs.take (2 * j) ++ [vs.getD (2 * j) 0] ++ [vs.getD (2 * j + 1) 0] ++ vs.drop (2 * j + 2) := by
    have e1 : vs.take (2 * j + 1) = vs.take (2 * j) ++ [vs.getD (2 * j) 0] := by
      rw [List.take_succ_eq_append_getElem (by omega), List.getD_eq_getElem?_getD, List.getElem?_eq_getElem (by omega)]; rfl
    have e2 : vs.take (2 * j + 1 + 1) = vs.take (2 * j + 1) ++ [vs.getD (2 * j + 1) 0] := by
      rw [List.take_succ_eq_append_getElem (by omega), List.getD_eq_getElem?_getD, List.getElem?_eq_getElem (by omega)]; rfl
    rw [← e1, ← e2, List.take_append_drop]
  have hl : (vs.drop (2 * j + 2)).length = vs.length - (2 * j + 2) := by rw [List.length_drop]
  have h3 := numW_lt 4 (vs.drop (2 * j + 2)) (fun d hd => h d (List.mem_of_mem_drop hd))
  rw [hl] at h3
  have e4 : 4 * vs.length - 8 * (j + 1) = 4 * (vs.length - (2 * j + 2)) := by omega
  rw [e4]
  conv => rhs; rw [e]
  rw [numW_append, numW_snoc, numW_snoc, ← e, hl]
  generalize 4 * (vs.length - (2 * j + 2)) = r at *
  rw [Nat.mul_comm _ (2 ^ r), Nat.mul_add_div (Nat.two_pow_pos _), Nat.div_eq_of_lt h3, Nat.add_zero]
  apply UInt8.toNat_inj.1
  rw [UInt8.toNat_ofNat', UInt8.toNat_ofNat']
  omega
/-- What the reference has found of the digits ahead of n. -/
def Found (c : UInt8) (n : Nat) (V : Int) : Prop := ((∀ j, j < n → alH[j]? ≠ some c) ∧ V = -1) ∨ (∃ j, j < n ∧ alH[j]? = some c ∧ V = (j : Int))
theorem Found.all {c : UInt8} {V : Int} (h : Found c 16 V) : V = Lib.indexByte alH c := by
  rcases h with ⟨h, rfl⟩ | ⟨j, hj, hc, rfl⟩
  · exact (indexByte_not alH c (fun k hk => h k (by exact hk))).symm
  · have := alph_H.2 j hj
    rw [List.getD_eq_getElem?_getD, hc] at this
    exact this.symm
theorem Found.yes {c : UInt8} {n : Nat} (h : alH[n]? = some c) : Found c (n + 1) n := .inr ⟨n, by omega, h, rfl⟩
theorem Found.no {c : UInt8} {n : Nat} {V : Int} (h : Found c n V) (hn : alH[n]? ≠ some c) : Found c (n + 1) V := by
  rcases h with ⟨h, rfl⟩ | ⟨j, hj, hc, rfl⟩
  · refine .inl ⟨fun j hj => ?_, rfl⟩
    by_cases e : j < n
    · exact h j e
    · obtain rfl : j = n := by omega
      exact hn
  · exact .inr ⟨j, by omega, hc, rfl⟩
theorem OwnB.last {w : World} {base g cap n : Nat} {l : List UInt8} {x : UInt8} (h : OwnB w base (.slice (some ⟨g, 0, none⟩) n cap) (l ++ [x])) (y : UInt8) :
    OwnB (w.setCell ⟨g, l.length, none⟩ (vb y)) base (.slice (some ⟨g, 0, none⟩) n cap) (l ++ [y]) ∧ w.grownBy (w.setCell ⟨g, l.length, none⟩ (vb y)) (some g) ∧ w.cell? ⟨g, l.length, none⟩ = some (vb x) ∧ w.frozen? ⟨g, l.length, none⟩ = false := by
  unfold OwnB at h ⊢
  have hn : n = (l ++ [x]).length := by
    rcases h.2 with ⟨h', _⟩ | ⟨g', cap', cur, h', _⟩
    · simp at h'
    · injection h' with _ h2
  have h2 := hn ▸ h
  obtain ⟨s1, s2⟩ := h2.stored l.length (vb y)
  have hc := h2.cellAt l.length (by simp)
  refine ⟨?_, s2, ?_, h2.frozenAt _⟩
  · rw [hn]
    have e : ((l ++ [x]).map vb).set l.length (vb y) = (l ++ [y]).map vb := by
      rw [List.map_append, List.map_append, List.set_append_right _ _ (by simp)]; simp
    rw [e] at s1
    rw [show (l ++ [y]).length = (l ++ [x]).length by simp]
    exact s1
  · rw [hc]; simp
theorem hexdig (s : List UInt8) (n k : Nat) (h1 : n < (ByteArray.mk #[48, 49, 50, 51, 52, 53, 54, 55, 56, 57, 97, 98, 99, 100, 101, 102]).size) (h2 : k < (ByteArray.mk s.toArray).size) :
    ((((ByteArray.mk #[48, 49, 50, 51, 52, 53, 54, 55, 56, 57, 97, 98, 99, 100, 101, 102])[n]'h1).toNat : Int) == (((ByteArray.mk s.toArray)[k]'h2).toNat : Int)) = decide (alH[n]? = some (s.getD k 0)) := by
  have h16 : n < 16 := h1
  have hk : k < s.length := by simpa [ByteArray.size] using h2
  have e2 : (ByteArray.mk s.toArray)[k]'h2 = s.getD k 0 := by simp [ByteArray.getElem_eq_getElem_data, List.getD_eq_getElem?_getD, hk]
  have e1 : alH[n]? = some ((ByteArray.mk #[48, 49, 50, 51, 52, 53, 54, 55, 56, 57, 97, 98, 99, 100, 101, 102])[n]'h1) := by
    have hl : n < alH.length := h16
    rw [List.getElem?_eq_getElem hl]
    rfl
  rw [e2, e1]
  generalize (ByteArray.mk #[48, 49, 50, 51, 52, 53, 54, 55, 56, 57, 97, 98, 99, 100, 101, 102])[n]'h1 = x
  generalize s.getD k 0 = y
  by_cases h : x = y
  · subst h; simp
  · have h3 : ((x.toNat : Nat) : Int) ≠ ((y.toNat : Nat) : Int) := fun e => h (UInt8.toNat_inj.1 (by omega))
    rw [beq_eq_false_iff_ne.2 h3]
    symm
    rw [decide_eq_false_iff_not]
    intro e; injection e with e; exact h e
set_option maxRecDepth 100000 in
set_option maxHeartbeats 2000000 in
theorem refUnhex_any (s : List UInt8) (w : World) (hl : s.length ≤ 100000) :
    Calls Tryz.prog 28 #[str s] w fun e w' => ∃ v', e = .returned (.tuple #[v', .int .i64 (decH s).2]) ∧ OwnB w' w.heap.size v' (decH s).1 ∧ Below w.heap.size w w' := by
  by_cases h1 : s.length % 2 = 0
  · have HR0 : Hid (decH s = unS 4 alH s) := Lib.hid (by unfold decH; rw [if_pos h1])
    have hb : (((s.length : Int)) % 2 == 0) = true := beq_iff_eq.2 (by omega)
    have hb2 : (((s.length : Int)) % 2 != 0) = false := by rw [bne_eq_false_iff_eq]; omega
    have H1 := Lib.hid h1; clear h1
    obtain ⟨vs, hvs⟩ : ∃ vs, vs = s.map (pos alH) := ⟨_, rfl⟩
    have Hvl : Hid (vs.length = s.length) := Lib.hid (by rw [hvs, List.length_map])
    have Hv16 : Hid (∀ d ∈ vs, d < 16) := Lib.hid (fun d hd => by
      rw [hvs, List.mem_map] at hd
      obtain ⟨c, _, rfl⟩ := hd
      exact pos_lt alH c (by decide))
    have Hvs := Lib.hid hvs; clear hvs
    go_enter Tryz.func28, Tryz.ntmps28
    go_wp2_with fail
    go_loopw [4, 5, 6, 7] (fun o i _ _ wr => ∃ k : Nat, k ≤ s.length ∧ i = .int .i64 (k : Int) ∧ (∀ c ∈ s.take k, 0 ≤ Lib.indexByte alH c) ∧ OwnB wr w.heap.size o (outU vs k) ∧ Below w.heap.size w wr) (fun _ i _ _ _ => s.length - (intOf i).toNat)
    case atStart => exact ⟨0, by omega, rfl, by simp, OwnB.nil _ _, Below.refl _ _⟩
    case round =>
      obtain ⟨k, hk, rfl, hbad, hO, hBl⟩ := hrel
      have HO := Lib.hid hO; clear hO
      have HBl := Lib.hid hBl; clear hBl
      have Hbad := Lib.hid hbad; clear hbad
      by_cases hlt : k < s.length
      · obtain ⟨c, hc⟩ : ∃ c, c = s.getD k 0 := ⟨_, rfl⟩
        have Htk : Hid (s.take (k + 1) = s.take k ++ [c]) := Lib.hid (by rw [List.take_succ_eq_append_getElem hlt, hc, List.getD_eq_getElem?_getD, List.getElem?_eq_getElem hlt]; rfl)
        have Hmem : Hid (c ∈ s) := Lib.hid (by rw [hc, List.getD_eq_getElem?_getD, List.getElem?_eq_getElem hlt]; exact List.getElem_mem _)
        have Hvk : Hid (vs.getD k 0 = pos alH c) := Lib.hid (by rw [Hvs.out, hc]; simp [List.getD_eq_getElem?_getD, hlt])
        have Hc := Lib.hid hc; clear hc
        go_wp2_with fail
        obtain ⟨wo, rfl⟩ : ∃ wo : World, wo = wr := ⟨_, rfl⟩
        go_loopw [6, 7] (fun v i wi => ∃ (n : Nat) (V : Int), n ≤ 16 ∧ i = .int .i64 (n : Int) ∧ v = .int .i64 V ∧ Found c n V ∧ Below wo.heap.size wo wi) (fun _ i _ => 16 - (intOf i).toNat)
        case atStart => exact ⟨0, -1, by omega, rfl, rfl, .inl ⟨fun j hj => by omega, rfl⟩, Below.refl _ _⟩
        case round =>
          obtain ⟨n, V, hn, rfl, rfl, hF, hBi⟩ := hrel
          have HF := Lib.hid hF; clear hF
          have HBi := Lib.hid hBi; clear hBi
          by_cases h16 : n < 16
          · go_wp2_with fail
            go_quiet (fail)
            rw [hexdig, ← Hc.out]
            by_cases hx : alH[n]? = some c
            · rw [decide_eq_true hx]
              have HF2 : Hid (Found c (n + 1) n) := Lib.hid (Found.yes hx)
              clear hx
              go_wp2_with fail
              go_roundw
              case rel => exact ⟨n + 1, n, by omega, by go_num, rfl, HF2.out, below_drewN HBi.out nq⟩
              case measure => simp [intOf]; omega
            · rw [decide_eq_false hx]
              have HF2 : Hid (Found c (n + 1) V) := Lib.hid (HF.out.no hx)
              clear hx
              go_wp2_with fail
              go_roundw
              case rel => exact ⟨n + 1, V, by omega, by go_num, rfl, HF2.out, below_drewN HBi.out nq⟩
              case measure => simp [intOf]; omega
          · obtain rfl : n = 16 := by omega
            rw [show (((16 : Nat) : Int)) = (16 : Int) from rfl]
            have HV : Hid (V = Lib.indexByte alH c) := Lib.hid HF.out.all
            have HO2 := Lib.hid (HO.out.below HBi.out)
            have HB2 := Lib.hid (HBl.out.trans (HBi.out.mono HBl.out.size))
            clear HF HO HBl
            by_cases hneg : V < 0
            · have HR : Hid (unS 4 alH s = ([], 5)) := Lib.hid (unS_bad 4 alH s ⟨c, Hmem.out, by rw [← HV.out]; exact hneg⟩)
              go_wp2_with fail
              go_ret2
              exact ⟨.slice none 0 0, by rw [HR0.out, HR.out]; rfl, by rw [HR0.out, HR.out]; exact OwnB.nil _ _, HB2.out⟩
            · obtain ⟨d, rfl⟩ := Int.eq_ofNat_of_zero_le (by omega : 0 ≤ V)
              have Hd : Hid (vs.getD k 0 = d) := Lib.hid (by rw [Hvk.out]; unfold pos; rw [← HV.out]; rfl)
              have hd16 : d < 16 := by
                have := pos_lt alH c (by decide)
                rw [← Hvk.out, Hd.out] at this; exact this
              have Hbad' : Hid (∀ c ∈ s.take (k + 1), 0 ≤ Lib.indexByte alH c) := Lib.hid (fun x hx => by
                rw [Htk.out, List.mem_append, List.mem_singleton] at hx
                rcases hx with hx | rfl
                · exact Hbad.out x hx
                · rw [← HV.out]; omega)
              have hlen := outU_len vs k
              by_cases hev : k % 2 = 0
              · have hb3 : (((k : Int)) % 2 == 0) = true := beq_iff_eq.2 (by omega)
                have HN : Hid (outU vs (k + 1) = outU vs k ++ [UInt8.ofNat (16 * d)]) := Lib.hid (by rw [outU_even vs k hev, Hd.out])
                have Hv : Hid (Value.int .u8 (16 * (d : Int)) = vb (UInt8.ofNat (16 * d))) := Lib.hid (by
                  have e : bn (UInt8.ofNat (16 * d)) = 16 * (d : Int) := by unfold bn; rw [UInt8.toNat_ofNat']; omega
                  rw [vb, e])
                clear hev
                go_wp2_with (at_builtin; ((with_reducible refine wpList_app ?g1 (.tmp 34) (.tmp 38) ?g2 w.heap.size u4 (outU vs k) [UInt8.ofNat (16 * d)] ?g3 ?g4 wr.heap.size 0 1 1 ?g5 ?g6 ?g7 ?g8 ?g9 ?_); (case g1 => rfl); (case g2 => rfl); (case g3 => rfl); (case g4 => exact HO2.out.below ((Below.refl _ _).alloc (Nat.le_refl _) _)); (case g5 => rfl); (case g6 => rfl); (case g7 => exact Bs.of_blk (Blk.newA _ _ _) 0 (fun j hj => by match j, hj with | 0, _ => exact congrArg some Hv.out)); (case g8 => omega); (case g9 => have := HB2.out.size; simp; omega); intro v' w1 hv hg; have Hv1 := Lib.hid hv; clear hv; have Hg := Lib.hid ((HB2.out.alloc (by have := HB2.out.size; omega) _).trans (OwnB.belowBase (w := wr.alloc _) (HO2.out.below ((Below.refl _ _).alloc (Nat.le_refl _) _)) hg (by have := HB2.out.size; simp; omega))); clear hg))
                exact ⟨⟨k + 1, by omega, by go_num, Hbad'.out, by rw [HN.out]; exact Hv1.out, Hg.out⟩, by simp [intOf]; omega⟩
              · have hb3 : (((k : Int)) % 2 == 0) = false := beq_eq_false_iff_ne.2 (by omega)
                have hod : k % 2 = 1 := by omega
                obtain ⟨l, hl'⟩ : ∃ l, l = pairs vs (k / 2) := ⟨_, rfl⟩
                obtain ⟨x, hx⟩ : ∃ x, x = UInt8.ofNat (16 * vs.getD (k - 1) 0) := ⟨_, rfl⟩
                have HN : Hid (outU vs (k + 1) = l ++ [x + UInt8.ofNat d]) := Lib.hid (by rw [outU_next vs k hod, hl', hx, Hd.out])
                have HOl := HO2.out
                rw [outU_odd vs k hod, ← hl', ← hx] at HOl
                have hll : l.length ≤ 100000 := by rw [hl', pairs_len]; omega
                clear hl' hx hev hod hlen
                obtain ⟨g, cap, rfl, hg1, hg2, hcap1, hcap2, _, _⟩ := HOl.form (by simp)
                obtain ⟨o1, o2, o3, o4⟩ := HOl.last (x + UInt8.ofNat d)
                have O1 := Lib.hid o1; clear o1
                have O2 := Lib.hid (HOl.belowBase o2 HB2.out.size); clear o2
                have HLen : Hid ((l ++ [x]).length = l.length + 1) := Lib.hid (by simp)
                obtain ⟨m, hm⟩ : ∃ m, m = (l ++ [x]).length := ⟨_, rfl⟩
                rw [← hm] at HLen hcap1 O1 ⊢
                have hml : m ≤ 100001 := by rw [HLen.out]; omega
                have hm1 : 1 ≤ m := by rw [HLen.out]; omega
                have hmi : ((m : Int) - 1).toNat = l.length := by rw [HLen.out]; omega
                unfold maxLen at hcap2
                clear hm HOl HO2
                have HE : Hid (Value.int .u8 ((bn x + (d : Int)) % 256) = vb (x + UInt8.ofNat d)) := Lib.hid (by
                  have e : bn (x + UInt8.ofNat d) = (bn x + (d : Int)) % 256 := by unfold bn; rw [UInt8.toNat_add, UInt8.toNat_ofNat']; omega
                  rw [vb, e])
                go_wp2_with fail
                rw [HE.out]
                exact ⟨⟨k + 1, by omega, by go_num, Hbad'.out, by rw [HN.out]; exact O1.out, HB2.out.trans O2.out⟩, by simp [intOf]; omega⟩
      · obtain rfl : k = s.length := by omega
        rw [List.take_length] at Hbad
        have HE : Hid (outU vs s.length = byts 4 vs (4 * s.length / 8)) := Lib.hid (by
          have h1 := H1.out
          unfold outU
          rw [if_neg (by omega), List.append_nil, pairs_byts vs Hv16.out _ (by rw [Hvl.out]; omega)]
          congr 1
          omega)
        have HR : Hid (unS 4 alH s = (byts 4 vs (4 * s.length / 8), 0)) := Lib.hid (unS_ok 4 alH s vs Hvs.out Hbad.out (by
          have h1 := H1.out
          unfold unused
          rw [Hvl.out, show 4 * s.length % 8 = 0 by omega, Nat.pow_zero, Nat.mod_one]))
        go_wp2_with fail
        go_ret2
        exact ⟨u4, by rw [HR0.out, HR.out]; rfl, by rw [HR0.out, HR.out, ← HE.out]; exact HO.out, HBl.out⟩
  · have HR : Hid (decH s = ([], 2)) := Lib.hid (by unfold decH; rw [if_neg h1])
    have hb : (((s.length : Int)) % 2 == 0) = false := beq_eq_false_iff_ne.2 (by omega)
    have hb2 : (((s.length : Int)) % 2 != 0) = true := by rw [bne_iff_ne]; omega
    clear h1
    go_enter Tryz.func28, Tryz.ntmps28
    go_wp2_with fail
    go_ret2
    exact ⟨.slice none 0 0, by rw [HR.out]; rfl, by rw [HR.out]; exact OwnB.nil _ _, Below.refl _ _⟩
theorem num_numW (l : List UInt8) : numL l = numW 8 (l.map UInt8.toNat) := by
  unfold numL numW
  rw [List.foldl_map]
theorem num_byts (w : Nat) (vs : List Nat) (hv : ∀ d ∈ vs, d < 2 ^ w) : numL (byts w vs (w * vs.length / 8)) = numW w vs / 2 ^ (w * vs.length % 8) := by
  have hN := numW_lt w vs hv
  generalize hn : w * vs.length = t at *
  have hd := Nat.div_add_mod t 8
  have hlt : numW w vs / 2 ^ (t % 8) < 2 ^ (8 * (t / 8)) := by
    rw [Nat.div_lt_iff_lt_mul (Nat.two_pow_pos _), ← Nat.pow_add, hd]; exact hN
  have h := numW_digits 8 (numW w vs / 2 ^ (t % 8)) (t / 8) hlt _ (Nat.le_refl _)
  rw [Nat.sub_self, Nat.pow_zero, Nat.div_one] at h
  rw [num_numW, ← h]
  congr 1
  unfold byts
  rw [List.map_map]
  apply List.map_congr_left
  intro k hk
  rw [List.mem_range] at hk
  simp only [Function.comp]
  unfold byt
  rw [hn, UInt8.toNat_ofNat', Nat.div_div_eq_div_mul, ← Nat.pow_add]
  congr 3
  omega
theorem numW_digit (w : Nat) (vs : List Nat) (hv : ∀ d ∈ vs, d < 2 ^ w) (k : Nat) (hk : k < vs.length) : numW w vs / 2 ^ (w * vs.length - w * (k + 1)) % 2 ^ w = vs.getD k 0 := by
  have e : vs = vs.take k ++ [vs.getD k 0] ++ vs.drop (k + 1) := by
    have e1 : vs.take (k + 1) = vs.take k ++ [vs.getD k 0] := by
      rw [List.take_succ_eq_append_getElem hk, List.getD_eq_getElem?_getD, List.getElem?_eq_getElem hk]; rfl
    rw [← e1, List.take_append_drop]
  have hl : (vs.drop (k + 1)).length = vs.length - (k + 1) := by rw [List.length_drop]
  have h3 := numW_lt w (vs.drop (k + 1)) (fun d hd => hv d (List.mem_of_mem_drop hd))
  have hx : vs.getD k 0 < 2 ^ w := by
    rw [List.getD_eq_getElem?_getD, List.getElem?_eq_getElem hk]; exact hv _ (List.getElem_mem hk)
  rw [hl, Nat.mul_sub] at h3
  conv => lhs; lhs; lhs; rw [e]
  rw [numW_append, numW_snoc, hl, Nat.mul_sub]
  generalize w * vs.length - w * (k + 1) = r at *
  rw [Nat.mul_comm _ (2 ^ r), Nat.mul_add_div (Nat.two_pow_pos _), Nat.div_eq_of_lt h3, Nat.add_zero, Nat.mul_comm, Nat.mul_add_mod, Nat.mod_eq_of_lt hx]
theorem letters_byts (w : Nat) (hw : 0 < w) (hw8 : w ≤ 8) (al : List UInt8) (ha : al.length = 2 ^ w) (p : List UInt8) (hp : ∀ c ∈ p, 0 ≤ Lib.indexByte al c) (hu : unused w (p.map (pos al)) = 0) (hr : w * p.length % 8 < w) :
    letters w al (byts w (p.map (pos al)) (w * p.length / 8)) = p := by
  obtain ⟨vs, hvs⟩ : ∃ vs, vs = p.map (pos al) := ⟨_, rfl⟩
  have hvl : vs.length = p.length := by rw [hvs, List.length_map]
  have hv : ∀ d ∈ vs, d < 2 ^ w := fun d hd => by
    rw [hvs, List.mem_map] at hd
    obtain ⟨c, _, rfl⟩ := hd
    rw [← ha]; exact pos_lt al c (by rw [ha]; exact Nat.two_pow_pos w)
  have hnum := num_byts w vs hv
  rw [← hvs] at hu ⊢
  rw [hvl] at hnum
  unfold unused at hu
  rw [hvl] at hu
  obtain ⟨bs, hbs⟩ : ∃ bs, bs = byts w vs (w * p.length / 8) := ⟨_, rfl⟩
  have hbl : bs.length = w * p.length / 8 := by rw [hbs, byts_length]
  rw [← hbs] at hnum ⊢
  have hm : many w bs.length = p.length := by
    unfold many
    rw [hbl]
    have h1 : 8 * (w * p.length / 8) + w - 1 = w * p.length + (w - 1 - w * p.length % 8) := by omega
    rw [h1, Nat.mul_add_div hw, Nat.div_eq_of_lt (by omega), Nat.add_zero]
  apply List.ext_getElem
  · rw [letters_length, hm]
  · intro k h1 h2
    have hk : k < many w bs.length := by rw [hm]; exact h2
    have hd := dig_many w hw bs k hk
    have hback : numL bs * 2 ^ (w * p.length % 8) = numW w vs := by
      rw [hnum]
      have := Nat.div_add_mod (numW w vs) (2 ^ (w * p.length % 8))
      rw [hu, Nat.add_zero, Nat.mul_comm] at this
      exact this
    rw [hm, hbl, show w * p.length - 8 * (w * p.length / 8) = w * p.length % 8 by omega, hback, ← hvl, numW_digit w vs hv k (by rw [hvl]; exact h2)] at hd
    have e : (letters w al bs)[k] = al.getD (dig w bs k) 0 := by unfold letters; simp
    rw [e, hd, hvs]
    have e2 : (p.map (pos al)).getD k 0 = pos al p[k] := by simp [List.getD_eq_getElem?_getD, h2]
    rw [e2]
    obtain ⟨o, ho⟩ := Int.eq_ofNat_of_zero_le (hp p[k] (List.getElem_mem h2))
    have h3 := (Lib.indexByte_some ho).1
    unfold pos
    rw [ho, Int.toNat_natCast, List.getD_eq_getElem?_getD, h3]; rfl
theorem unS_back (w : Nat) (hw : 0 < w) (hw8 : w ≤ 8) (al : List UInt8) (ha : al.length = 2 ^ w) (p : List UInt8) (hr : w * p.length % 8 < w) (h : (unS w al p).2 = 0) : letters w al (unS w al p).1 = p := by
  unfold unS at h ⊢
  by_cases h1 : p.any (fun c => decide (Lib.indexByte al c < 0)) = true
  · rw [if_pos h1] at h; simp at h
  · rw [if_neg h1] at h ⊢
    by_cases h2 : unused w (p.map (pos al)) = 0
    · rw [if_pos h2]
      refine letters_byts w hw hw8 al ha p (fun c hc => ?_) h2 hr
      by_cases h0 : 0 ≤ Lib.indexByte al c
      · exact h0
      · exact absurd (by rw [List.any_eq_true]; exact ⟨c, hc, by simpa using h0⟩) h1
    · rw [if_neg h2] at h; simp at h
theorem enc_decH (s : List UInt8) (h : (decH s).2 = 0) : encH (decH s).1 = s := by
  unfold decH at h ⊢
  by_cases h4 : s.length % 2 = 0
  · rw [if_pos h4] at h ⊢
    exact unS_back 4 (by decide) (by decide) alH rfl _ (by omega) h
  · rw [if_neg h4] at h; simp at h
end Go.Proofs.YtoehkhbppmgfkaaGreatDoor
