/- sha.mix: the state behind a block. A word of 64 bits as a number; bytes as a number. Slices of bytes of the call's own, behind the words of 64 bits. Words and counts as bytes: appendWord, appendWords, appendCount. sha.padding: what follows a message of so many bytes. The reference's small functions: turn, Num. The reference's Step: the same state behind a block. -/
import Derived.Test.YtlnjpmpddomjiaaGreatDoorGmSched
import Derived.Deep.RegionHeld3
import Derived.Test.YtlnjpmpddomjiaaGreatDoorGmMgA
namespace Go.Proofs.YtlnjpmpddomjiaaGreatDoor
open Go.RowKit
attribute [local go_sem] bv_add

/-- The round constants' variable holds what the text lays. -/
def TabA (w : World) : Prop := ∀ j, j < 64 → w.cell? ⟨0, j, none⟩ = some (vw (KL.getD j 0))
theorem TabA.below {B : Nat} {w w' : World} (h : TabA w) (hb : Below B w w') (hB : 0 < B) : TabA w' := fun j hj => (hb.cell (p := ⟨_, j, none⟩) hB).trans (h j hj)
def nought8 : List Value := List.replicate 8 (.int .u32 0)
theorem info_w8 : (Tryz.prog.info? 111).map (·.size) = some 8 := by kernel_rfl
set_option maxRecDepth 100000 in
theorem index8 (r : St) (k : Nat) (hk : k < 8) (w : World) : (Instr.index 111 (.agg #[vw r.a, vw r.b, vw r.c, vw r.d, vw r.e, vw r.f, vw r.g, vw r.h]) (.int .i64 (k : Int))).run Tryz.prog w = .ok (vw (r.list.getD k 0)) w := by
  match k, hk with
  | 0, _ => rfl
  | 1, _ => rfl
  | 2, _ => rfl
  | 3, _ => rfl
  | 4, _ => rfl
  | 5, _ => rfl
  | 6, _ => rfl
  | 7, _ => rfl
/-- The state's array while the rounds' words are added: k of them. -/
def addArr (s r : St) (k : Nat) : List Value := ((s.add r).list.take k ++ s.list.drop k).map vw
theorem addArr_zero (s r : St) : addArr s r 0 = s.cells := rfl
theorem addArr_full (s r : St) : addArr s r 8 = (s.add r).cells := rfl
theorem addArr_at (s r : St) (k : Nat) (hk : k < 8) : (addArr s r k)[k]? = some (vw (s.list.getD k 0)) := by
  match k, hk with
  | 0, _ => rfl
  | 1, _ => rfl
  | 2, _ => rfl
  | 3, _ => rfl
  | 4, _ => rfl
  | 5, _ => rfl
  | 6, _ => rfl
  | 7, _ => rfl
theorem addArr_set (s r : St) (k : Nat) (hk : k < 8) : (addArr s r k).set k (vw (s.list.getD k 0 + r.list.getD k 0)) = addArr s r (k + 1) := by
  match k, hk with
  | 0, _ => rfl
  | 1, _ => rfl
  | 2, _ => rfl
  | 3, _ => rfl
  | 4, _ => rfl
  | 5, _ => rfl
  | 6, _ => rfl
  | 7, _ => rfl
theorem cells_length (s : St) : s.cells.length = 8 := rfl
theorem cells_oneCell (s : St) : s.cells.toArray.all (·.oneCell') = true := oneCell_words s.list
attribute [irreducible] addArr

/-- What holds of the world while mix runs. -/
structure MInv (w : World) (B : Nat) (cs : List Value) (L : List (BitVec 32)) (W : World) : Prop where
  b0 : Blk W w.heap.size cs
  b1 : Blk W (w.heap.size + 1) nought8
  b2 : Blk W B (L.map vw)
  bw : Below w.heap.size w W
  tab : TabA W
  lt : w.heap.size + 2 ≤ B
theorem MInv.drewN {w W : World} {B : Nat} {cs : List Value} {L : List (BitVec 32)} (h : MInv w B cs L W) (n : Nat) : MInv w B cs L (W.drewN n) := ⟨h.b0.drewN n, h.b1.drewN n, h.b2.drewN n, below_drewN h.bw n, h.tab, h.lt⟩
theorem words_at (L : List (BitVec 32)) (k : Nat) (h : k < L.length) : (L.map vw)[k]? = some (vw (L.getD k 0)) := by
  rw [List.getElem?_map, List.getElem?_eq_getElem h, List.getD_eq_getElem?_getD, List.getElem?_eq_getElem h]; rfl

set_option maxRecDepth 100000 in
set_option maxHeartbeats 1000000 in
theorem mix_any (s : St) (b o cap : Nat) (p : List UInt8) (w : World) (hT : TabA w) (hG : 0 < w.heap.size) (hp : p.length = 64) (hb : b < w.heap.size) (hbs : Bs w b o p) (hcap : 64 ≤ cap) (hcap2 : cap ≤ 9223372036854775807) :
    Calls Tryz.prog 78 #[.agg s.cells.toArray, .slice (some ⟨b, o, none⟩) 64 cap] w fun e w' => e = .returned (.agg (compress s p).cells.toArray) ∧ Below w.heap.size w w' := by
  have HT := Lib.hid hT; clear hT
  have Hbs := Lib.hid hbs; clear hbs
  have Hp := Lib.hid hp; clear hp
  obtain ⟨a, b', c, d, e, f, g, h⟩ := s
  go_enter Tryz.func78, Tryz.ntmps78
  go_wp2_with fail
  refine (schedule_any b o cap p _ Hp.out (by simp; omega) (Hbs.out.below (((Below.refl _ _).alloc (Nat.le_refl _) _).alloc (by simp) _) hb) hcap hcap2).mono ?_
  rintro e w1 ⟨rfl, hw1⟩
  have hz : w.heap.size + 2 ≤ w1.heap.size := by have := hw1.size; simp at this; omega
  have HW1 := Lib.hid hw1; clear hw1
  generalize hL : sw p 64 = L
  have HL := Lib.hid hL; clear hL
  have HS : Hid ((L.map vw).toArray.size = 64) := Lib.hid (by rw [← HL.out]; simp [sw_length])
  go_wp2_with ((with_reducible refine wpList_store_mid ?s1 139 (.tmp 5) (.tmp 20) ?s2 w1.heap.size 0 (L.map vw).toArray ?s3 ?s4 ?s5 ?s6 (oneCell_words _) ?_); (case s1 => rfl); (case s2 => rfl); (case s3 => rfl); (case s4 => rfl); (case s5 => rw [HS.out]; exact (Blk.newAt (cs := nought64) _ _ _ rfl rfl).there 0 64 (Nat.le_refl _)); (case s6 => rw [HS.out]; exact info_w64))
  simp only [Act.put]
  generalize hW : World.setCells _ _ _ _ = W
  have B0 : Blk W w.heap.size [vw a, vw b', vw c, vw d, vw e, vw f, vw g, vw h] := by
    rw [← hW]
    exact ((((Blk.newAt w _ 111 rfl rfl).alloc _).below HW1.out (by simp; omega)).alloc _).below (below_setCells (B := w1.heap.size) (Nat.le_refl _) _ (Below.refl _ _) 0) (by omega)
  have B1 : Blk W (w.heap.size + 1) nought8 := by
    rw [← hW]
    exact (((Blk.newAt (w.alloc _) _ 111 (by simp) rfl).below HW1.out (by simp)).alloc _).below (below_setCells (B := w1.heap.size) (Nat.le_refl _) _ (Below.refl _ _) 0) (by omega)
  have B2 : Blk W w1.heap.size (L.map vw) := by
    rw [← hW]
    exact (Blk.newAt (cs := nought64) _ _ _ rfl rfl).setAll (by have := HS.out; simp at this; simpa [nought64] using this)
  have BW : Below w.heap.size w W := by
    rw [← hW]
    exact below_setCells (by omega) _ ((((Below.refl _ w).alloc (Nat.le_refl _) _).alloc (by simp) _).trans (HW1.out.mono (by simp; omega)) |>.alloc (by omega) _) 0
  have hM : MInv w w1.heap.size [vw a, vw b', vw c, vw d, vw e, vw f, vw g, vw h] L W := ⟨B0, B1, B2, BW, HT.out.below BW hG, hz⟩
  clear hW HW1 B0 B1 B2 BW
  obtain ⟨W, rfl⟩ : ∃ W' : World, W' = W := ⟨_, rfl⟩
  obtain ⟨c0, c1, c2, c3, c4, c5, c6, c7⟩ : W.cell? ⟨w.heap.size, 0, none⟩ = some (vw a) ∧ W.cell? ⟨w.heap.size, 1, none⟩ = some (vw b') ∧ W.cell? ⟨w.heap.size, 2, none⟩ = some (vw c) ∧ W.cell? ⟨w.heap.size, 3, none⟩ = some (vw d) ∧ W.cell? ⟨w.heap.size, 4, none⟩ = some (vw e) ∧ W.cell? ⟨w.heap.size, 5, none⟩ = some (vw f) ∧ W.cell? ⟨w.heap.size, 6, none⟩ = some (vw g) ∧ W.cell? ⟨w.heap.size, 7, none⟩ = some (vw h) := ⟨hM.b0.at rfl, hM.b0.at rfl, hM.b0.at rfl, hM.b0.at rfl, hM.b0.at rfl, hM.b0.at rfl, hM.b0.at rfl, hM.b0.at rfl⟩
  have HM := Lib.hid hM; clear hM
  go_quiet (fail)
  go_wp2_with fail
  clear c0 c1 c2 c3 c4 c5 c6 c7
  have HM' := Lib.hid (HM.out.drewN nq); clear HM
  go_loopw [6, 7, 8, 9, 10, 11, 12, 13, 37] (fun va vb' vc vd ve vf vg vh i wr => ∃ (k : Nat) (r : St), k ≤ 64 ∧ i = .int .i64 k ∧ va = vw r.a ∧ vb' = vw r.b ∧ vc = vw r.c ∧ vd = vw r.d ∧ ve = vw r.e ∧ vf = vw r.f ∧ vg = vw r.g ∧ vh = vw r.h ∧ r = rnds L ⟨a, b', c, d, e, f, g, h⟩ k ∧ MInv w w1.heap.size [vw a, vw b', vw c, vw d, vw e, vw f, vw g, vw h] L wr) (fun _ _ _ _ _ _ _ _ i _ => 64 - (intOf i).toNat)
  case atStart => exact ⟨0, ⟨a, b', c, d, e, f, g, h⟩, by omega, rfl, rfl, rfl, rfl, rfl, rfl, rfl, rfl, rfl, (rnds_zero _ _).symm, HM'.out⟩
  case round =>
    clear HM'
    obtain ⟨k, r, hk, rfl, rfl, rfl, rfl, rfl, rfl, rfl, rfl, rfl, hr, hM⟩ := hrel
    have HR := Lib.hid hr; clear hr
    by_cases hlt : k < 64
    · obtain ⟨d0, d1, k0, k1⟩ : wr.cell? ⟨0, k, none⟩ = some (vw (KL.getD k 0)) ∧ wr.cell? ⟨w1.heap.size, k, none⟩ = some (vw (L.getD k 0)) ∧ (0 : Int) ≤ (k : Int) ∧ (k : Int) < 64 := ⟨hM.tab k hlt, hM.b2.at (words_at L k (by have := HS.out; simp at this; omega)), by omega, by omega⟩
      have HM := Lib.hid hM; clear hM
      go_wp2_with fail
      go_quiet ((first | (go_at_call 96; exact Calls.quiet_of_same ((bigSigma1_any _ _).mono fun _ _ h => ⟨h.1, h.2.symm⟩)) | (go_at_call 97; exact Calls.quiet_of_same ((choose_any _ _ _ _).mono fun _ _ h => ⟨h.1, h.2.symm⟩))))
      go_wp2_with fail
      refine (bigSigma0_any _ _).mono ?_; rintro e w' ⟨rfl, rfl⟩
      go_wp2_with fail
      refine (majority_any _ _ _ _).mono ?_; rintro e w' ⟨rfl, rfl⟩
      go_wp2_with fail
      go_roundw
      case rel =>
        exact ⟨k + 1, rnd (KL.getD k 0) (L.getD k 0) r, by omega, by go_num, rfl, rfl, rfl, rfl, rfl, rfl, rfl, rfl, by rw [HR.out, rnds_succ], HM.out.drewN nq⟩
      case measure => simp [intOf]; omega
    · obtain rfl : k = 64 := by omega
      have HM := Lib.hid hM; clear hM
      rw [show (((64 : Nat) : Int)) = (64 : Int) from rfl]
      go_wp2_with fail
      have HA : Hid (MInv w w1.heap.size (addArr ⟨a, b', c, d, e, f, g, h⟩ r 0) L wr) := by rw [addArr_zero]; exact HM
      clear HM
      go_loopw [86] (fun i wr => ∃ k : Nat, k ≤ 8 ∧ i = .int .i64 k ∧ MInv w w1.heap.size (addArr ⟨a, b', c, d, e, f, g, h⟩ r k) L wr) (fun i _ => 8 - (intOf i).toNat)
      case atStart => exact ⟨0, by omega, rfl, HA.out⟩
      case round =>
        clear HA
        obtain ⟨k, hk, rfl, hM⟩ := hrel
        by_cases hlt : k < 8
        · obtain ⟨d0, f0, k0, k1⟩ : wr.cell? ⟨w.heap.size, k, none⟩ = some (vw ((St.list ⟨a, b', c, d, e, f, g, h⟩).getD k 0)) ∧ wr.frozen? ⟨w.heap.size, k, none⟩ = false ∧ (0 : Int) ≤ (k : Int) ∧ (k : Int) < 8 := ⟨hM.b0.at (addArr_at _ r k hlt), hM.b0.free k, by omega, by omega⟩
          have HM := Lib.hid hM; clear hM
          have hx := index8 r k hlt
          go_wp2_with fail
          go_roundw
          case rel =>
            refine ⟨k + 1, by omega, by go_num, ?_, HM.out.b1.setOther (by simp) _, HM.out.b2.setOther (by have := HM.out.lt; simp; omega) _, HM.out.bw.setCell (Nat.le_refl _) _, fun j hj => ?_, HM.out.lt⟩
            · have := HM.out.b0.set k (vw ((St.list ⟨a, b', c, d, e, f, g, h⟩).getD k 0 + r.list.getD k 0))
              rw [addArr_set _ r k hlt] at this
              exact this
            · rw [World.cell?_setCell_far _ _ _ _ (by show w.heap.size ≠ 0; omega)]; exact HM.out.tab j hj
          case measure => simp [intOf]; omega
        · obtain rfl : k = 8 := by omega
          have HM := Lib.hid hM; clear hM
          rw [show (((8 : Nat) : Int)) = (8 : Int) from rfl]
          have hA8 : wr.rangeAt w.heap.size 0 (St.cells (St.add ⟨a, b', c, d, e, f, g, h⟩ r)) := by
            have := HM.out.b0.range 0 8
            rw [addArr_full] at this
            exact this
          have HA8 := Lib.hid hA8; clear hA8
          have HT8 := Lib.hid (HM.out.b1.there 0 8 (Nat.le_refl _))
          go_wp2_with (first
            | ((with_reducible refine wpList_load_mid ?g1 111 (.tmp 2) ?g2 w.heap.size 0 ?g3 (St.cells (St.add ⟨a, b', c, d, e, f, g, h⟩ r)) _ HA8.out Tryz.underlying111 ?g4 ?g5 ?_); (case g1 => rfl); (case g2 => rfl); (case g3 => rfl); (case g4 => rfl); (case g5 => exact info_w8))
            | ((with_reducible refine wpList_store_mid ?r1 111 (.tmp 4) (.tmp 97) ?r2 (w.heap.size + 1) 0 (St.cells (St.add ⟨a, b', c, d, e, f, g, h⟩ r)).toArray ?r3 ?r4 ?r5 ?r6 (cells_oneCell _) ?_); (case r1 => rfl); (case r2 => rfl); (case r3 => rfl); (case r4 => rfl); (case r5 => exact HT8.out); (case r6 => exact info_w8)))
          obtain ⟨t, ht⟩ := HM.out.b1.setAll (vs := St.cells (St.add ⟨a, b', c, d, e, f, g, h⟩ r)) rfl
          refine bodyPost_ret (v := .agg (St.cells (St.add ⟨a, b', c, d, e, f, g, h⟩ r)).toArray) ?_ rfl ?_
          · exact results_cell_row rfl _ _ (w.heap.size + 1) t _ _ _ rfl ht Tryz.underlying111 rfl info_w8
          · refine ⟨?_, below_setCells (Nat.le_succ _) _ HM.out.bw 0⟩
            rw [HR.out, ← HL.out]; unfold compress; rfl
end Go.Proofs.YtlnjpmpddomjiaaGreatDoor
namespace Go.Proofs.YtlnjpmpddomjiaaGreatDoor
open Go.RowKit
/-- A word of 64 bits as a number. -/
def un (n : Nat) : Int := ((n % 18446744073709551616 : Nat) : Int)
theorem un_mul (n m : Nat) : IntKind.u64.wrap (un n * (m : Int)) = un (n * m) := by
  unfold un; rw [IntKind.wrap_u64, ← Int.natCast_mul, show (18446744073709551616 : Int) = ((18446744073709551616 : Nat) : Int) from rfl, ← Int.natCast_emod, Nat.mod_mul_mod]
theorem un_add (n m : Nat) : IntKind.u64.wrap (un n + (m : Int)) = un (n + m) := by
  unfold un; rw [IntKind.wrap_u64, ← Int.natCast_add, show (18446744073709551616 : Int) = ((18446744073709551616 : Nat) : Int) from rfl, ← Int.natCast_emod, Nat.mod_add_mod]
theorem un_mul256 (n : Nat) : IntKind.u64.wrap (un n * (256 : Int)) = un (n * 256) := un_mul n 256
theorem un_bn (n : Nat) (b : UInt8) : IntKind.u64.wrap (un n + bn b) = un (n + b.toNat) := un_add n b.toNat
theorem bn_u64 (b : UInt8) : IntKind.u64.wrap (bn b) = bn b := by rw [IntKind.wrap_u64]; have := bn_range b; omega
theorem un_range (n : Nat) : 0 ≤ un n ∧ un n < 18446744073709551616 := by unfold un; omega
theorem un_zero : un 0 = 0 := rfl
theorem un_lt (n : Nat) (h : n < 18446744073709551616) : un n = (n : Int) := by unfold un; rw [Nat.mod_eq_of_lt h]
theorem num_nil : num [] = 0 := by unfold num; rfl
theorem num_snoc (l : List UInt8) (b : UInt8) : num (l ++ [b]) = num l * 256 + b.toNat := by unfold num; rw [List.foldl_append]; rfl
theorem num_lt (l : List UInt8) : num l < 256 ^ l.length := by
  unfold num
  have H : ∀ (l : List UInt8) (n : Nat), l.foldl (fun n b => n * 256 + b.toNat) n < (n + 1) * 256 ^ l.length := by
    intro l
    induction l with
    | nil => intro n; simp
    | cons b l ih =>
      intro n
      have h1 := ih (n * 256 + b.toNat)
      have hb := b.toNat_lt
      simp only [List.foldl_cons, List.length_cons]
      refine Nat.lt_of_lt_of_le h1 ?_
      rw [Nat.pow_succ, Nat.mul_comm (256 ^ l.length) 256, ← Nat.mul_assoc]
      exact Nat.mul_le_mul_right _ (by omega)
  simpa using H l 0
theorem take_snoc (l : List UInt8) (k : Nat) (h : k < l.length) : l.take (k + 1) = l.take k ++ [l.getD k 0] := by
  rw [List.take_succ_eq_append_getElem h, List.getD_eq_getElem?_getD, List.getElem?_eq_getElem h]; rfl
theorem word4_num (a b c d : UInt8) : word4 a b c d = BitVec.ofNat 32 (num [a, b, c, d]) := by
  have ha := a.toNat_lt
  have hb := b.toNat_lt
  have hc := c.toNat_lt
  have hd := d.toNat_lt
  apply BitVec.eq_of_toNat_eq
  have e : num [a, b, c, d] = ((a.toNat * 256 + b.toNat) * 256 + c.toNat) * 256 + d.toNat := by unfold num; simp
  have k (x : UInt8) (n : Nat) (hn : n ≤ 24) : (bw x <<< n).toNat = x.toNat <<< n := by
    have hx := x.toNat_lt
    unfold bw
    rw [BitVec.toNat_shiftLeft, BitVec.toNat_ofNat, Nat.mod_eq_of_lt (show x.toNat < 2 ^ 32 by omega), Nat.shiftLeft_eq]
    apply Nat.mod_eq_of_lt
    calc x.toNat * 2 ^ n < 2 ^ 8 * 2 ^ n := Nat.mul_lt_mul_of_pos_right (by omega) (Nat.pow_pos (by decide))
      _ ≤ 2 ^ 8 * 2 ^ 24 := Nat.mul_le_mul_left _ (Nat.pow_le_pow_right (by decide) hn)
  have kd : (bw d).toNat = d.toNat := by unfold bw; rw [BitVec.toNat_ofNat]; omega
  unfold word4
  rw [BitVec.toNat_or, BitVec.toNat_or, BitVec.toNat_or, k a 24 (by omega), k b 16 (by omega), k c 8 (by omega), kd, Nat.or_assoc, Nat.or_assoc,
    ← Nat.shiftLeft_add_eq_or_of_lt (show d.toNat < 2 ^ 8 by omega), ← Nat.shiftLeft_add_eq_or_of_lt (show c.toNat <<< 8 + d.toNat < 2 ^ 16 by rw [Nat.shiftLeft_eq]; omega),
    ← Nat.shiftLeft_add_eq_or_of_lt (show b.toNat <<< 16 + (c.toNat <<< 8 + d.toNat) < 2 ^ 24 by rw [Nat.shiftLeft_eq, Nat.shiftLeft_eq]; omega), e, BitVec.toNat_ofNat]
  simp only [Nat.shiftLeft_eq]
  omega
theorem un_word (n : Nat) : IntKind.u32.wrap (un n) = wn (BitVec.ofNat 32 n) := by
  unfold un wn; rw [IntKind.wrap_u32, BitVec.toNat_ofNat]; omega
theorem un_shr32 (n : Nat) : un n / (4294967296 : Int) = un (n % 18446744073709551616 / 4294967296) := by unfold un; omega
theorem un_mod32 (n : Nat) : un n % (4294967296 : Int) = wn (BitVec.ofNat 32 n) := by rw [← un_word, IntKind.wrap_u32]
theorem four (p : List UInt8) (k : Nat) (h : 4 * k + 4 ≤ p.length) : (p.drop (4 * k)).take 4 = [p.getD (4 * k) 0, p.getD (4 * k + 1) 0, p.getD (4 * k + 2) 0, p.getD (4 * k + 3) 0] := by
  apply List.ext_getElem?
  intro i
  rw [List.getElem?_take]
  match i with
  | 0 => simp [List.getElem?_drop, List.getD_eq_getElem?_getD, List.getElem?_eq_getElem (show 4 * k < p.length by omega)]
  | 1 => simp [List.getElem?_drop, List.getD_eq_getElem?_getD, List.getElem?_eq_getElem (show 4 * k + 1 < p.length by omega)]
  | 2 => simp [List.getElem?_drop, List.getD_eq_getElem?_getD, List.getElem?_eq_getElem (show 4 * k + 2 < p.length by omega)]
  | 3 => simp [List.getElem?_drop, List.getD_eq_getElem?_getD, List.getElem?_eq_getElem (show 4 * k + 3 < p.length by omega)]
  | i + 4 => rw [if_neg (by omega)]; simp
theorem bword_num (p : List UInt8) (k : Nat) (h : 4 * k + 4 ≤ p.length) : BitVec.ofNat 32 (num ((p.drop (4 * k)).take 4)) = bword p k := by
  rw [four p k h, ← word4_num]; rfl
end Go.Proofs.YtlnjpmpddomjiaaGreatDoor

namespace Go.Proofs.YtlnjpmpddomjiaaGreatDoor
open Go.RowKit
attribute [local go_sem] bv_shr8 bv_shr16 bv_shr24 wrap_u8_wn un_mod32

theorem appendWord_any (base : Nat) (v : Value) (l : List UInt8) (x : BitVec 32) (w : World) (hown : OwnB w base v l) (hl : l.length ≤ 1000000) (hb : base ≤ w.heap.size) :
    Calls Tryz.prog 102 #[v, vw x] w fun e w' => ∃ v', e = .returned v' ∧ OwnB w' base v' (l ++ wb x) ∧ w.grownBy w' v.ownBlock := by
  have Hown := Lib.hid hown; clear hown
  go_enter Tryz.func102, Tryz.ntmps102
  have hs : Hid (Bs (w.alloc (.cells #[vb (UInt8.ofNat (x >>> 24).toNat), vb (UInt8.ofNat (x >>> 16).toNat), vb (UInt8.ofNat (x >>> 8).toNat), vb (UInt8.ofNat x.toNat)] 5)) w.heap.size 0 (wb x)) := Lib.hid (Bs.of_blk (Blk.newA _ _ _) 0 (fun j hj => by
    match j, hj with
    | 0, _ => rfl
    | 1, _ => rfl
    | 2, _ => rfl
    | 3, _ => rfl))
  go_wp2_with ((with_reducible refine wpList_app ?g1 (.tmp 5) (.tmp 17) ?g2 base v l (wb x) ?g3 ?g4 w.heap.size 0 4 4 ?g5 ?g6 ?g7 ?g8 ?g9 ?_); (case g1 => rfl); (case g2 => rfl); (case g3 => rfl); (case g4 => exact Hown.out.below ((Below.refl _ _).alloc (Nat.le_refl _) _)); (case g5 => rfl); (case g6 => exact wb_length x); (case g7 => exact hs.out); (case g8 => omega); (case g9 => simp; omega); intro v' w1 hv hg; have Hv := Lib.hid hv; clear hv; have Hg := Lib.hid hg; clear hg)
  go_ret
  exact ⟨_, rfl, Hv.out, (World.grownBy_alloc w _ _).trans Hg.out⟩
theorem stlist_length (s : St) : s.list.length = 8 := rfl
set_option maxRecDepth 100000 in
set_option maxHeartbeats 400000 in
theorem appendWords_any (base : Nat) (v : Value) (l : List UInt8) (s : St) (w : World) (hown : OwnB w base v l) (hl : l.length ≤ 100000) (hb : base ≤ w.heap.size) :
    Calls Tryz.prog 81 #[v, .agg s.cells.toArray] w fun e w' => ∃ v', e = .returned v' ∧ OwnB w' base v' (l ++ wbs s.list) ∧ Below base w w' := by
  have Hown := Lib.hid hown; clear hown
  go_enter Tryz.func81, Tryz.ntmps81
  go_wp2
  go_loopw [0, 8] (fun u i wr => ∃ k : Nat, k ≤ 8 ∧ i = .int .i64 k ∧ OwnB wr base u (l ++ wbs (s.list.take k)) ∧ Below base w wr) (fun _ i _ => 8 - (intOf i).toNat)
  case atStart => exact ⟨0, by omega, rfl, by simpa [wbs] using Hown.out.below ((Below.refl _ _).alloc (Nat.le_refl _) _), (Below.refl _ _).alloc hb _⟩
  case round =>
    obtain ⟨k, hk, rfl, hO, hB⟩ := hrel
    have HO := Lib.hid hO; clear hO
    have HB := Lib.hid hB; clear hB
    by_cases hlt : k < 8
    · have hx := index8 s k hlt
      have hlen : (l ++ wbs (s.list.take k)).length ≤ 1000000 := by rw [List.length_append, wbs_length, List.length_take, stlist_length]; omega
      have HL := Lib.hid hlen; clear hlen
      obtain ⟨k0, k1⟩ : (0 : Int) ≤ (k : Int) ∧ (k : Int) < 8 := ⟨by omega, by omega⟩
      go_wp2_with fail
      refine (appendWord_any base _ _ (s.list.getD k 0) wr HO.out HL.out (by have := HB.out.size; omega)).mono ?_
      rintro e w1 ⟨v1, rfl, hO1, hg1⟩
      have HO1 := Lib.hid hO1; clear hO1
      have HG1 := Lib.hid hg1; clear hg1
      go_wp2_with fail
      go_roundw
      case rel =>
        refine ⟨k + 1, by omega, by go_num, ?_, HB.out.trans (HO.out.belowBase HG1.out (by have := HB.out.size; omega))⟩
        rw [wbs_take _ _ (by rw [stlist_length]; exact hlt), ← List.append_assoc]
        exact HO1.out
      case measure => simp [intOf]; omega
    · obtain rfl : k = 8 := by omega
      go_wp2
      go_ret
      exact ⟨_, rfl, HO.out, HB.out⟩
theorem appendCount_any (base : Nat) (v : Value) (l : List UInt8) (n : Nat) (w : World) (hown : OwnB w base v l) (hl : l.length ≤ 100000) (hb : base ≤ w.heap.size) :
    Calls Tryz.prog 101 #[v, .int .u64 (un n)] w fun e w' => ∃ v', e = .returned v' ∧ OwnB w' base v' (l ++ be n 8) ∧ Below base w w' := by
  have Hown := Lib.hid hown; clear hown
  have h1 := un_shr32 n
  have hlen : (l ++ wb (BitVec.ofNat 32 (n % 18446744073709551616 / 4294967296))).length ≤ 1000000 := by rw [List.length_append, wb_length]; omega
  have HL := Lib.hid hlen; clear hlen
  go_enter Tryz.func101, Tryz.ntmps101
  go_wp2_with fail
  refine (appendWord_any base _ _ _ w Hown.out (by omega) hb).mono ?_
  rintro e w1 ⟨v1, rfl, hO1, hg1⟩
  have HO1 := Lib.hid hO1; clear hO1
  have HB1 := Lib.hid (Hown.out.belowBase hg1 hb); clear hg1
  go_wp2_with fail
  refine (appendWord_any base _ _ _ w1 HO1.out HL.out (by have := HB1.out.size; omega)).mono ?_
  rintro e w2 ⟨v2, rfl, hO2, hg2⟩
  have HO2 := Lib.hid hO2; clear hO2
  have HB2 := Lib.hid (HO1.out.belowBase hg2 (by have := HB1.out.size; omega)); clear hg2
  go_wp2_with fail
  go_ret
  refine ⟨_, rfl, ?_, HB1.out.trans HB2.out⟩
  have := HO2.out
  rw [List.append_assoc, count_be] at this
  exact this
end Go.Proofs.YtlnjpmpddomjiaaGreatDoor
namespace Go.Proofs.YtlnjpmpddomjiaaGreatDoor
open Go.RowKit

theorem un_mod64 (n : Nat) : un n % (64 : Int) = ((n % 64 : Nat) : Int) := by unfold un; omega
theorem un_mul8 (n : Nat) : IntKind.u64.wrap (un n * (8 : Int)) = un (n * 8) := un_mul n 8
attribute [local go_sem] un_mod64 un_mul8
set_option maxHeartbeats 400000 in
theorem padding_lo (n : Nat) (w : World) (hr : n % 64 ≤ 55) :
    Calls Tryz.prog 80 #[.int .u64 (un n)] w fun e w' => ∃ v', e = .returned v' ∧ OwnB w' w.heap.size v' (padl n) ∧ Below w.heap.size w w' := by
  have h0 := (un_range n).1
  have hlt : n % 64 < 64 := Nat.mod_lt _ (by decide)
  have hz : (119 - n % 64) % 64 = 55 - n % 64 := by omega
  have hp : padl n = 128 :: List.replicate (55 - n % 64) 0 ++ be (n * 8) 8 := by unfold padl; rw [hz]
  obtain ⟨r, hrr⟩ : ∃ r, r = n % 64 := ⟨_, rfl⟩
  have hmod : un n % (64 : Int) = (r : Int) := by rw [hrr]; exact un_mod64 n
  rw [← hrr] at hr hp hlt
  have HP := Lib.hid hp; clear hp hz
  have hmk : ∀ W, (Instr.makeSlice 34 (.int .i64 ((64 - (r : Int)) - 8)) (.int .i64 ((64 - (r : Int))))).run Tryz.prog W = .ok (.slice (some ⟨W.heap.size, 0, none⟩) (56 - r) (64 - r)) (W.alloc (.cells (noughts (64 - r)) 5)) := fun W => by
    have := make_bytes (56 - r) (64 - r) (by omega) (by omega) W
    rwa [show ((56 - r : Nat) : Int) = (64 - (r : Int)) - 8 from by omega, show ((64 - r : Nat) : Int) = (64 - (r : Int)) from by omega] at this
  have hc : (noughts (64 - r))[0]? = some (vb 0) := noughts_at _ _ (by omega)
  clear hrr
  go_enter Tryz.func80, Tryz.ntmps80
  go_wp2_with fail
  have hO : OwnB (w.alloc (.cells ((noughts (64 - r)).setIfInBounds 0 (vb 128)) 5)) w.heap.size (.slice (some ⟨w.heap.size, 0, none⟩) (56 - r) (64 - r)) (128 :: List.replicate (55 - r) 0) :=
    OwnB.of_heap (Nat.le_refl _) (heap_alloc_new w _) (by rw [Array.size_setIfInBounds, noughts_size]) (by unfold maxLen; omega) (by rw [List.length_cons, List.length_replicate]; omega)
      (by rw [Array.toList_setIfInBounds, noughts_list, show 64 - r = (55 - r) + 8 + 1 from by omega, List.replicate_succ, List.set_cons_zero, show 56 - r = (55 - r) + 1 from by omega, List.take_succ_cons, List.take_replicate, List.map_cons, List.map_replicate, show min (55 - r) ((55 - r) + 8) = 55 - r from by omega]) (by omega)
  refine (appendCount_any w.heap.size _ _ (n * 8) _ hO (by rw [List.length_cons, List.length_replicate]; omega) (by simp)).mono ?_
  rintro e w1 ⟨v1, rfl, hO1, hB1⟩
  have HO1 := Lib.hid hO1; clear hO1
  have HB1 := Lib.hid hB1; clear hB1 hO
  go_wp2_with fail
  go_ret
  exact ⟨_, rfl, by rw [HP.out]; exact HO1.out, ((Below.refl _ _).alloc (Nat.le_refl _) _).trans HB1.out⟩
set_option maxHeartbeats 400000 in
theorem padding_hi (n : Nat) (w : World) (hr : 56 ≤ n % 64) :
    Calls Tryz.prog 80 #[.int .u64 (un n)] w fun e w' => ∃ v', e = .returned v' ∧ OwnB w' w.heap.size v' (padl n) ∧ Below w.heap.size w w' := by
  have h0 := (un_range n).1
  have hlt : n % 64 < 64 := Nat.mod_lt _ (by decide)
  have hz : (119 - n % 64) % 64 = 119 - n % 64 := by omega
  have hp : padl n = 128 :: List.replicate (119 - n % 64) 0 ++ be (n * 8) 8 := by unfold padl; rw [hz]
  obtain ⟨r, hrr⟩ : ∃ r, r = n % 64 := ⟨_, rfl⟩
  have hmod : un n % (64 : Int) = (r : Int) := by rw [hrr]; exact un_mod64 n
  rw [← hrr] at hr hp hlt
  have HP := Lib.hid hp; clear hp hz
  have hmk : ∀ W, (Instr.makeSlice 34 (.int .i64 ((64 - (r : Int) + 64) - 8)) (.int .i64 ((64 - (r : Int) + 64)))).run Tryz.prog W = .ok (.slice (some ⟨W.heap.size, 0, none⟩) (120 - r) (128 - r)) (W.alloc (.cells (noughts (128 - r)) 5)) := fun W => by
    have := make_bytes (120 - r) (128 - r) (by omega) (by omega) W
    rwa [show ((120 - r : Nat) : Int) = (64 - (r : Int) + 64) - 8 from by omega, show ((128 - r : Nat) : Int) = (64 - (r : Int) + 64) from by omega] at this
  have hc : (noughts (128 - r))[0]? = some (vb 0) := noughts_at _ _ (by omega)
  clear hrr
  go_enter Tryz.func80, Tryz.ntmps80
  go_wp2_with fail
  have hO : OwnB (w.alloc (.cells ((noughts (128 - r)).setIfInBounds 0 (vb 128)) 5)) w.heap.size (.slice (some ⟨w.heap.size, 0, none⟩) (120 - r) (128 - r)) (128 :: List.replicate (119 - r) 0) :=
    OwnB.of_heap (Nat.le_refl _) (heap_alloc_new w _) (by rw [Array.size_setIfInBounds, noughts_size]) (by unfold maxLen; omega) (by rw [List.length_cons, List.length_replicate]; omega)
      (by rw [Array.toList_setIfInBounds, noughts_list, show 128 - r = (119 - r) + 8 + 1 from by omega, List.replicate_succ, List.set_cons_zero, show 120 - r = (119 - r) + 1 from by omega, List.take_succ_cons, List.take_replicate, List.map_cons, List.map_replicate, show min (119 - r) ((119 - r) + 8) = 119 - r from by omega]) (by omega)
  refine (appendCount_any w.heap.size _ _ (n * 8) _ hO (by rw [List.length_cons, List.length_replicate]; omega) (by simp)).mono ?_
  rintro e w1 ⟨v1, rfl, hO1, hB1⟩
  have HO1 := Lib.hid hO1; clear hO1
  have HB1 := Lib.hid hB1; clear hB1 hO
  go_wp2_with fail
  go_ret
  exact ⟨_, rfl, by rw [HP.out]; exact HO1.out, ((Below.refl _ _).alloc (Nat.le_refl _) _).trans HB1.out⟩
theorem padding_any (n : Nat) (w : World) :
    Calls Tryz.prog 80 #[.int .u64 (un n)] w fun e w' => ∃ v', e = .returned v' ∧ OwnB w' w.heap.size v' (padl n) ∧ Below w.heap.size w w' := by
  by_cases h : n % 64 ≤ 55
  · exact padding_lo n w h
  · exact padding_hi n w (by omega)
end Go.Proofs.YtlnjpmpddomjiaaGreatDoor
set_option maxRecDepth 100000
namespace Go.Proofs.YtlnjpmpddomjiaaGreatDoor
open Go.RowKit
attribute [local go_sem] bv_and bv_or bv_xor bv_not bv_add
theorem turn_any (x : BitVec 32) (n : Nat) (hn : n < 32) (hn0 : 0 < n) (w : World) : Calls Tryz.prog 116 #[vw x, .int .u64 (n : Int)] w fun e w' => e = .returned (vw (x.rotateRight n)) ∧ w = w' := by
  have e2 : IntKind.u64.wrap (32 - (n : Int)) = ((32 - n : Nat) : Int) := by rw [IntKind.wrap_u64]; omega
  have h3 := bv_rotr x n hn
  go_enter Tryz.func116, Tryz.ntmps116
  go_wp2
  go_ret
  exact ⟨by show Ending.returned (.int .u32 (bits .or .u32 (wn x / 2 ^ n) (wn x * 2 ^ (32 - n) % 4294967296))) = _; rw [bv_shl', bv_shr, bv_or, h3], rfl⟩

theorem turn_int (x : BitVec 32) (n : Int) (h : 0 < n ∧ n < 32) (w : World) : Calls Tryz.prog 116 #[vw x, .int .u64 n] w fun e w' => e = .returned (vw (x.rotateRight n.toNat)) ∧ w' = w := by
  obtain ⟨m, rfl⟩ := Int.eq_ofNat_of_zero_le (show 0 ≤ n by omega)
  exact (turn_any x m (by omega) (by omega) w).mono fun _ _ h => ⟨h.1, h.2.symm⟩
attribute [local go_sem] un_mul256 un_bn bn_u64
theorem num_any (b o cap n : Nat) (l : List UInt8) (w : World) (hn : l.length = n) (hbs : Bs w b o l) (hl : n ≤ 9223372036854775807) :
    Calls Tryz.prog 77 #[.slice (some ⟨b, o, none⟩) n cap] w fun e w' => e = .returned (.int .u64 (un (num l))) ∧ w = w' := by
  subst hn
  have Hbs := Lib.hid hbs; clear hbs
  go_enter Tryz.func77, Tryz.ntmps77
  go_wp2
  go_loop [3, 8] (fun n i => ∃ k : Nat, k ≤ l.length ∧ i = .int .i64 k ∧ n = .int .u64 (un (num (l.take k)))) (fun _ i => l.length - (intOf i).toNat)
  case atStart => exact ⟨0, by omega, rfl, by rw [List.take_zero, num_nil]; rfl⟩
  case round =>
    obtain ⟨k, hk, rfl, rfl⟩ := hrel
    by_cases hlt : k < l.length
    · obtain ⟨c0, k0, k1⟩ : w.cell? ⟨b, o + k, none⟩ = some (vb l[k]) ∧ (0 : Int) ≤ (k : Int) ∧ (k : Int) < (l.length : Int) := ⟨Hbs.out k hlt, by omega, by omega⟩
      go_wp2
      go_round
      case rel => 
        refine ⟨k + 1, by omega, by go_num, ?_⟩
        rw [List.take_succ_eq_append_getElem hlt, num_snoc]
      case measure => simp [intOf]; omega
    · obtain rfl : k = l.length := by omega
      go_wp2
      go_ret
      exact ⟨rfl, rfl⟩
end Go.Proofs.YtlnjpmpddomjiaaGreatDoor
set_option maxRecDepth 100000
namespace Go.Proofs.YtlnjpmpddomjiaaGreatDoor
open Go.RowKit
attribute [local go_sem] bv_and bv_or bv_xor bv_not bv_add bv_shr3 bv_shr10 un_word bv_mod2 bv_mod3 bv_mod4 bv_mod5

def TabB (w : World) : Prop := ∀ j, j < 64 → w.cell? ⟨2, j, none⟩ = some (vw (KL.getD j 0))
theorem TabB.below {B : Nat} {w w' : World} (h : TabB w) (hb : Below B w w') (hB : 2 < B) : TabB w' := fun j hj => (hb.cell (p := ⟨_, j, none⟩) hB).trans (h j hj)
theorem info_st : (Tryz.prog.info? 112).map (·.size) = some 8 := by kernel_rfl
theorem index8s (r : St) (k : Nat) (hk : k < 8) (w : World) : (Instr.index 112 (.agg #[vw r.a, vw r.b, vw r.c, vw r.d, vw r.e, vw r.f, vw r.g, vw r.h]) (.int .i64 (k : Int))).run Tryz.prog w = .ok (vw (r.list.getD k 0)) w := by
  match k, hk with
  | 0, _ => rfl
  | 1, _ => rfl
  | 2, _ => rfl
  | 3, _ => rfl
  | 4, _ => rfl
  | 5, _ => rfl
  | 6, _ => rfl
  | 7, _ => rfl
theorem add4 (a b c d : BitVec 32) : a + b + c + d = d + c + b + a := by ac_rfl
/-- What holds of the world while the schedule is filled. -/
structure SInv (w : World) (s : St) (cs : List Value) (W : World) : Prop where
  b0 : Blk W w.heap.size s.cells
  b1 : Blk W (w.heap.size + 1) nought8
  b2 : Blk W (w.heap.size + 1 + 1) cs
  bw : Below w.heap.size w W
theorem SInv.drewN {w W : World} {s : St} {cs : List Value} (h : SInv w s cs W) (n : Nat) : SInv w s cs (W.drewN n) := ⟨h.b0.drewN n, h.b1.drewN n, h.b2.drewN n, below_drewN h.bw n⟩

/-- What holds of the world while the rounds' words are added. -/
structure AInv (w : World) (B : Nat) (cs : List Value) (r : St) (W : World) : Prop where
  b0 : Blk W w.heap.size cs
  b1 : Blk W (w.heap.size + 1) nought8
  b3 : Blk W B r.cells
  bw : Below w.heap.size w W
  lt : w.heap.size + 1 + 1 < B
theorem cells_at (r : St) (k : Nat) (hk : k < 8) : r.cells[k]? = some (vw (r.list.getD k 0)) := by
  match k, hk with
  | 0, _ => rfl
  | 1, _ => rfl
  | 2, _ => rfl
  | 3, _ => rfl
  | 4, _ => rfl
  | 5, _ => rfl
  | 6, _ => rfl
  | 7, _ => rfl
/-- What holds of the world while the rounds are gone are gone through: B is the block of the working words. -/
structure RInv (w : World) (B : Nat) (s r : St) (L : List (BitVec 32)) (W : World) : Prop where
  b0 : Blk W w.heap.size s.cells
  b1 : Blk W (w.heap.size + 1) nought8
  b2 : Blk W (w.heap.size + 1 + 1) (L.map vw)
  b3 : Blk W B r.cells
  bw : Below w.heap.size w W
  tab : TabB W
  lt : w.heap.size + 1 + 1 < B
theorem RInv.drewN {w W : World} {B : Nat} {s r : St} {L : List (BitVec 32)} (h : RInv w B s r L W) (n : Nat) : RInv w B s r L (W.drewN n) := ⟨h.b0.drewN n, h.b1.drewN n, h.b2.drewN n, h.b3.drewN n, below_drewN h.bw n, h.tab, h.lt⟩

set_option maxRecDepth 100000 in
set_option maxHeartbeats 1000000 in
theorem step_any (s : St) (b o cap : Nat) (p : List UInt8) (w : World) (hT : TabB w) (hG : 2 < w.heap.size) (hp : p.length = 64) (hb : b < w.heap.size) (hbs : Bs w b o p) (hcap : 64 ≤ cap) (hcap2 : cap ≤ 9223372036854775807) :
    Calls Tryz.prog 94 #[.agg s.cells.toArray, .slice (some ⟨b, o, none⟩) 64 cap] w fun e w' => e = .returned (.agg (compress s p).cells.toArray) ∧ Below w.heap.size w w' := by
  have HT := Lib.hid hT; clear hT
  have Hbs := Lib.hid hbs; clear hbs
  have Hp := Lib.hid hp; clear hp
  go_enter Tryz.func94, Tryz.ntmps94
  go_wp2_with fail
  go_loopw [6] (fun i wr => ∃ k : Nat, k ≤ 64 ∧ i = .int .i64 k ∧ SInv w s (swArr p k) wr) (fun i _ => 64 - (intOf i).toNat)
  case atStart =>
    exact ⟨0, by omega, rfl, ((Blk.newAt _ _ _ rfl rfl).alloc _).alloc _, (Blk.newAt _ _ _ (by simp) rfl).alloc _, Blk.newAt _ _ _ (by simp) (swArr_zero p).symm, (((Below.refl _ _).alloc (Nat.le_refl _) _).alloc (by simp) _).alloc (by simp; omega) _⟩
  case round =>
    obtain ⟨k, hk, rfl, hM⟩ := hrel
    by_cases hlt : k < 64
    · by_cases hlo : k < 16
      · obtain ⟨c0, f0, hR⟩ : wr.cell? ⟨w.heap.size + 1 + 1, k, none⟩ = some (.int .u32 0) ∧ wr.frozen? ⟨w.heap.size + 1 + 1, k, none⟩ = false ∧ Hid (Bs wr b o p) := ⟨hM.b2.at (swArr_at p k (by omega)), hM.b2.free k, Hbs.out.below hM.bw (by omega)⟩
        have HM := Lib.hid hM; clear hM
        go_wp2_with fail
        refine (num_any b (o + 4 * k) _ 4 ((p.drop (4 * k)).take 4) wr (by rw [List.length_take, List.length_drop, Hp.out]; omega) ((hR.out.drop (4 * k)).take 4) (by omega)).mono ?_
        rintro e w' ⟨rfl, rfl⟩
        go_wp2_with fail
        go_roundw
        case rel =>
          refine ⟨k + 1, by omega, by go_num, HM.out.b0.setOther (by simp; omega) _, HM.out.b1.setOther (by simp) _, ?_, HM.out.bw.setCell (by simp; omega) _⟩
          have := HM.out.b2.set k (vw (swNext p (sw p k)))
          rw [swArr_set p k (by omega), sw_next_lo p k hlo, ← bword_num p k (by rw [Hp.out]; omega)] at this
          exact this
        case measure => simp [intOf]; omega
      · obtain ⟨c1, c2, c3, c4, c0, f0⟩ : wr.cell? ⟨w.heap.size + 1 + 1, k - 16, none⟩ = some (vw ((sw p k).getD (k - 16) 0)) ∧ wr.cell? ⟨w.heap.size + 1 + 1, k - 15, none⟩ = some (vw ((sw p k).getD (k - 15) 0)) ∧ wr.cell? ⟨w.heap.size + 1 + 1, k - 7, none⟩ = some (vw ((sw p k).getD (k - 7) 0)) ∧ wr.cell? ⟨w.heap.size + 1 + 1, k - 2, none⟩ = some (vw ((sw p k).getD (k - 2) 0)) ∧ wr.cell? ⟨w.heap.size + 1 + 1, k, none⟩ = some (.int .u32 0) ∧ wr.frozen? ⟨w.heap.size + 1 + 1, k, none⟩ = false :=
          ⟨hM.b2.at (swArr_lt p k _ (by omega)), hM.b2.at (swArr_lt p k _ (by omega)), hM.b2.at (swArr_lt p k _ (by omega)), hM.b2.at (swArr_lt p k _ (by omega)), hM.b2.at (swArr_at p k (by omega)), hM.b2.free k⟩
        have HM := Lib.hid hM; clear hM
        go_wp2_with fail
        have w16 : IntKind.i64.wrap ((k : Int) - 16) = (k : Int) - 16 := IntWalk.i64_in _ (by omega)
        have l16 : (16 : Int) ≤ (k : Int) := by omega
        have g16 : (k : Int) - 16 < 64 := by omega
        have t16 : ((k : Int) - 16).toNat = k - 16 := by omega
        have w15 : IntKind.i64.wrap ((k : Int) - 15) = (k : Int) - 15 := IntWalk.i64_in _ (by omega)
        have l15 : (15 : Int) ≤ (k : Int) := by omega
        have g15 : (k : Int) - 15 < 64 := by omega
        have t15 : ((k : Int) - 15).toNat = k - 15 := by omega
        have w7 : IntKind.i64.wrap ((k : Int) - 7) = (k : Int) - 7 := IntWalk.i64_in _ (by omega)
        have l7 : (7 : Int) ≤ (k : Int) := by omega
        have g7 : (k : Int) - 7 < 64 := by omega
        have t7 : ((k : Int) - 7).toNat = k - 7 := by omega
        have w2 : IntKind.i64.wrap ((k : Int) - 2) = (k : Int) - 2 := IntWalk.i64_in _ (by omega)
        have l2 : (2 : Int) ≤ (k : Int) := by omega
        have g2 : (k : Int) - 2 < 64 := by omega
        have t2 : ((k : Int) - 2).toNat = k - 2 := by omega
        go_quiet ((go_at_call 116; exact Calls.quiet_of_same (turn_int _ _ (by omega) _)))
        obtain ⟨wq, hq, c1, c2, c3, c4, c0, f0, HM⟩ : ∃ wq : World, wr.drewN nq = wq ∧ wq.cell? ⟨w.heap.size + 1 + 1, k - 16, none⟩ = some (vw ((sw p k).getD (k - 16) 0)) ∧ wq.cell? ⟨w.heap.size + 1 + 1, k - 15, none⟩ = some (vw ((sw p k).getD (k - 15) 0)) ∧ wq.cell? ⟨w.heap.size + 1 + 1, k - 7, none⟩ = some (vw ((sw p k).getD (k - 7) 0)) ∧ wq.cell? ⟨w.heap.size + 1 + 1, k - 2, none⟩ = some (vw ((sw p k).getD (k - 2) 0)) ∧ wq.cell? ⟨w.heap.size + 1 + 1, k, none⟩ = some (.int .u32 0) ∧ wq.frozen? ⟨w.heap.size + 1 + 1, k, none⟩ = false ∧ Hid (SInv w s (swArr p k) wq) := ⟨_, rfl, c1, c2, c3, c4, c0, f0, HM.out.drewN nq⟩
        rw [hq]; clear hq
        go_wp2_with fail
        go_quiet ((go_at_call 116; exact Calls.quiet_of_same (turn_int _ _ (by omega) _)))
        obtain ⟨wp, hq, c1, c2, c3, c4, c0, f0, HM⟩ : ∃ wp : World, wq.drewN nq = wp ∧ wp.cell? ⟨w.heap.size + 1 + 1, k - 16, none⟩ = some (vw ((sw p k).getD (k - 16) 0)) ∧ wp.cell? ⟨w.heap.size + 1 + 1, k - 15, none⟩ = some (vw ((sw p k).getD (k - 15) 0)) ∧ wp.cell? ⟨w.heap.size + 1 + 1, k - 7, none⟩ = some (vw ((sw p k).getD (k - 7) 0)) ∧ wp.cell? ⟨w.heap.size + 1 + 1, k - 2, none⟩ = some (vw ((sw p k).getD (k - 2) 0)) ∧ wp.cell? ⟨w.heap.size + 1 + 1, k, none⟩ = some (.int .u32 0) ∧ wp.frozen? ⟨w.heap.size + 1 + 1, k, none⟩ = false ∧ Hid (SInv w s (swArr p k) wp) := ⟨_, rfl, c1, c2, c3, c4, c0, f0, HM.out.drewN nq⟩
        rw [hq]; clear hq
        go_wp2_with fail
        refine wp_region_still_tail 15 (by kernel_rfl) (by kernel_rfl) ?_
        simp only [List.take_succ_cons, List.take_zero, List.drop_succ_cons, List.drop_zero]
        repeat still_step
        refine wpStill_nil ?_
        clear w16 l16 g16 t16 w15 l15 g15 t15 w7 l7 g7 t7 w2 l2 g2 t2
        clear c1 c2 c3 c4
        obtain ⟨c5, f5⟩ : wp.drew.cell? ⟨w.heap.size + 1 + 1, k, none⟩ = some (.int .u32 0) ∧ wp.drew.frozen? ⟨w.heap.size + 1 + 1, k, none⟩ = false := ⟨c0, f0⟩
        go_wp2_with fail
        go_roundw
        case rel =>
          refine ⟨k + 1, by omega, by go_num, HM.out.b0.drew.setOther (by simp; omega) _, HM.out.b1.drew.setOther (by simp) _, ?_, HM.out.bw.drew.setCell (by simp; omega) _⟩
          have := HM.out.b2.drew.set k (vw (swNext p (sw p k)))
          rw [swArr_set p k (by omega), sw_next_hi p k (by omega), add4] at this
          exact this
        case measure => simp [intOf]; omega
    · obtain rfl : k = 64 := by omega
      have HM := Lib.hid hM; clear hM
      rw [show (((64 : Nat) : Int)) = (64 : Int) from rfl]
      have hA0 : wr.rangeAt w.heap.size 0 s.cells := by
        have := HM.out.b0.range 0 8
        exact this
      have HA0 := Lib.hid hA0; clear hA0
      have HT8 : Hid ((wr.alloc (.cells nought8.toArray 112)).there wr.heap.size 0 8) := Lib.hid ((Blk.newAt (cs := nought8) _ _ _ rfl rfl).there 0 8 (Nat.le_refl _))
      go_wp2_with (first
        | ((with_reducible refine wpList_load_mid ?g1 112 (.tmp 2) ?g2 w.heap.size 0 ?g3 s.cells _ HA0.out Tryz.underlying112 ?g4 ?g5 ?_); (case g1 => rfl); (case g2 => rfl); (case g3 => rfl); (case g4 => rfl); (case g5 => exact info_st))
        | ((with_reducible refine wpList_store_mid ?r1 112 (.tmp 9) (.tmp 82) ?r2 wr.heap.size 0 s.cells.toArray ?r3 ?r4 ?r5 ?r6 (cells_oneCell _) ?_); (case r1 => rfl); (case r2 => rfl); (case r3 => rfl); (case r4 => rfl); (case r5 => exact HT8.out); (case r6 => exact info_st)))
      generalize hL : sw p 64 = L
      have HL := Lib.hid hL; clear hL
      have hLl : L.length = 64 := by rw [← HL.out, sw_length]
      generalize hW : World.setCells _ _ _ _ = W
      have hR : RInv w wr.heap.size s s L W := by
        rw [← hW]
        have h2 : Blk wr (w.heap.size + 1 + 1) (L.map vw) := by have := HM.out.b2; rw [swArr_full, HL.out] at this; exact this
        have hlt2 := h2.lt
        have hb : Below wr.heap.size wr ((wr.alloc (.cells nought8.toArray 112)).setCells wr.heap.size 0 s.cells) := below_setCells (Nat.le_refl _) _ ((Below.refl _ _).alloc (Nat.le_refl _) _) 0
        have hbw := HM.out.bw.trans (hb.mono (by omega))
        exact ⟨HM.out.b0.below hb (by omega), HM.out.b1.below hb (by omega), h2.below hb hlt2, (Blk.newAt (cs := nought8) _ _ _ rfl rfl).setAll rfl, hbw, HT.out.below hbw hG, hlt2⟩
      have HLl := Lib.hid hLl; clear hLl
      clear hW HM HA0 HT8
      obtain ⟨W, rfl⟩ : ∃ W' : World, W' = W := ⟨_, rfl⟩
      obtain ⟨B, hB, HR⟩ : ∃ B' : Nat, B' = wr.heap.size ∧ Hid (RInv w B' s s L W) := ⟨_, rfl, hR⟩
      rw [← hB]
      clear hR hB
      go_loopw [10] (fun i wr => ∃ (k : Nat) (r : St), k ≤ 64 ∧ i = .int .i64 k ∧ r = rnds L s k ∧ RInv w B s r L wr) (fun i _ => 64 - (intOf i).toNat)
      case atStart => exact ⟨0, s, by omega, rfl, (rnds_zero _ _).symm, HR.out⟩
      case round =>
        clear HR
        obtain ⟨k, r, hk, rfl, hr, hM⟩ := hrel
        have HR := Lib.hid hr; clear hr
        by_cases hlt : k < 64
        · obtain ⟨c0, c1, c2, c3, c4, c5, c6, c7, d0, d1, k0, k1, HM⟩ : wr.cell? ⟨B, 0, none⟩ = some (vw r.a) ∧ wr.cell? ⟨B, 1, none⟩ = some (vw r.b) ∧ wr.cell? ⟨B, 2, none⟩ = some (vw r.c) ∧ wr.cell? ⟨B, 3, none⟩ = some (vw r.d) ∧ wr.cell? ⟨B, 4, none⟩ = some (vw r.e) ∧ wr.cell? ⟨B, 5, none⟩ = some (vw r.f) ∧ wr.cell? ⟨B, 6, none⟩ = some (vw r.g) ∧ wr.cell? ⟨B, 7, none⟩ = some (vw r.h) ∧ wr.cell? ⟨2, k, none⟩ = some (vw (KL.getD k 0)) ∧ wr.cell? ⟨w.heap.size + 1 + 1, k, none⟩ = some (vw (L.getD k 0)) ∧ (0 : Int) ≤ (k : Int) ∧ (k : Int) < 64 ∧ Hid (RInv w B s r L wr) :=
            ⟨hM.b3.at rfl, hM.b3.at rfl, hM.b3.at rfl, hM.b3.at rfl, hM.b3.at rfl, hM.b3.at rfl, hM.b3.at rfl, hM.b3.at rfl, hM.tab k hlt, hM.b2.at (words_at L k (by rw [HLl.out]; exact hlt)), by omega, by omega, hM⟩
          clear hM
          go_wp2_with fail
          go_quiet ((go_at_call 116; exact Calls.quiet_of_same (turn_int _ _ (by omega) _)))
          obtain ⟨wq, hq, c0, c1, c2, c3, c4, c5, c6, c7, d0, d1, HM⟩ : ∃ wq : World, wr.drewN nq = wq ∧ wq.cell? ⟨B, 0, none⟩ = some (vw r.a) ∧ wq.cell? ⟨B, 1, none⟩ = some (vw r.b) ∧ wq.cell? ⟨B, 2, none⟩ = some (vw r.c) ∧ wq.cell? ⟨B, 3, none⟩ = some (vw r.d) ∧ wq.cell? ⟨B, 4, none⟩ = some (vw r.e) ∧ wq.cell? ⟨B, 5, none⟩ = some (vw r.f) ∧ wq.cell? ⟨B, 6, none⟩ = some (vw r.g) ∧ wq.cell? ⟨B, 7, none⟩ = some (vw r.h) ∧ wq.cell? ⟨2, k, none⟩ = some (vw (KL.getD k 0)) ∧ wq.cell? ⟨w.heap.size + 1 + 1, k, none⟩ = some (vw (L.getD k 0)) ∧ Hid (RInv w B s r L wq) := ⟨_, rfl, c0, c1, c2, c3, c4, c5, c6, c7, d0, d1, HM.out.drewN nq⟩
          rw [hq]; clear hq
          go_wp2_with fail
          go_quiet ((go_at_call 116; exact Calls.quiet_of_same (turn_int _ _ (by omega) _)))
          obtain ⟨wp, hq, c0, c1, c2, c3, c4, c5, c6, c7, d0, d1, HM⟩ : ∃ wp : World, wq.drewN nq = wp ∧ wp.cell? ⟨B, 0, none⟩ = some (vw r.a) ∧ wp.cell? ⟨B, 1, none⟩ = some (vw r.b) ∧ wp.cell? ⟨B, 2, none⟩ = some (vw r.c) ∧ wp.cell? ⟨B, 3, none⟩ = some (vw r.d) ∧ wp.cell? ⟨B, 4, none⟩ = some (vw r.e) ∧ wp.cell? ⟨B, 5, none⟩ = some (vw r.f) ∧ wp.cell? ⟨B, 6, none⟩ = some (vw r.g) ∧ wp.cell? ⟨B, 7, none⟩ = some (vw r.h) ∧ wp.cell? ⟨2, k, none⟩ = some (vw (KL.getD k 0)) ∧ wp.cell? ⟨w.heap.size + 1 + 1, k, none⟩ = some (vw (L.getD k 0)) ∧ Hid (RInv w B s r L wp) := ⟨_, rfl, c0, c1, c2, c3, c4, c5, c6, c7, d0, d1, HM.out.drewN nq⟩
          rw [hq]; clear hq
          have HT9 := Lib.hid (HM.out.b3.there 0 8 (Nat.le_refl _))
          go_wp2_with ((with_reducible refine wpList_store_mid ?v1 112 (.tmp 9) (.tmp 164) ?v2 B 0 (rnd (KL.getD k 0) (L.getD k 0) r).cells.toArray ?v3 ?v4 ?v5 ?v6 (cells_oneCell _) ?_); (case v1 => rfl); (case v2 => rfl); (case v3 => rfl); (case v4 => rfl); (case v5 => exact HT9.out); (case v6 => exact info_st); simp only [Act.put])
          go_roundw
          case rel =>
            have hB := HM.out.lt
            have hb : Below B wp (wp.setCells B 0 (rnd (KL.getD k 0) (L.getD k 0) r).cells) := below_setCells (Nat.le_refl _) _ (Below.refl _ _) 0
            exact ⟨k + 1, rnd (KL.getD k 0) (L.getD k 0) r, by omega, by go_num, by rw [HR.out, rnds_succ], HM.out.b0.below hb (by omega), HM.out.b1.below hb (by omega), HM.out.b2.below hb (by omega), HM.out.b3.setAll rfl, HM.out.bw.trans (hb.mono (by omega)), HM.out.tab.below hb (by omega), HM.out.lt⟩
          case measure => simp [intOf]; omega
        · obtain rfl : k = 64 := by omega
          have HM := Lib.hid hM; clear hM
          rw [show (((64 : Nat) : Int)) = (64 : Int) from rfl]
          go_wp2_with fail
          have HA : Hid (AInv w B (addArr s r 0) r wr) := by rw [addArr_zero]; exact ⟨HM.out.b0, HM.out.b1, HM.out.b3, HM.out.bw, HM.out.lt⟩
          clear HM
          go_loopw [165] (fun i wr => ∃ k : Nat, k ≤ 8 ∧ i = .int .i64 k ∧ AInv w B (addArr s r k) r wr) (fun i _ => 8 - (intOf i).toNat)
          case atStart => exact ⟨0, by omega, rfl, HA.out⟩
          case round =>
            clear HA
            obtain ⟨k, hk, rfl, hM⟩ := hrel
            by_cases hlt : k < 8
            · obtain ⟨d0, f0, d1, k0, k1⟩ : wr.cell? ⟨w.heap.size, k, none⟩ = some (vw (s.list.getD k 0)) ∧ wr.frozen? ⟨w.heap.size, k, none⟩ = false ∧ wr.cell? ⟨B, k, none⟩ = some (vw (r.list.getD k 0)) ∧ (0 : Int) ≤ (k : Int) ∧ (k : Int) < 8 := ⟨hM.b0.at (addArr_at _ r k hlt), hM.b0.free k, hM.b3.at (cells_at r k hlt), by omega, by omega⟩
              have HM := Lib.hid hM; clear hM
              go_wp2_with fail
              refine wp_region_still_tail 8 (by kernel_rfl) (by kernel_rfl) ?_
              simp only [List.take_succ_cons, List.take_zero, List.drop_succ_cons, List.drop_zero]
              repeat still_step
              refine wpStill_nil ?_
              obtain ⟨d5, f5⟩ : wr.drew.cell? ⟨w.heap.size, k, none⟩ = some (vw (s.list.getD k 0)) ∧ wr.drew.frozen? ⟨w.heap.size, k, none⟩ = false := ⟨d0, f0⟩
              go_wp2_with fail
              go_roundw
              case rel =>
                have hB := HM.out.lt
                refine ⟨k + 1, by omega, by go_num, ?_, HM.out.b1.drew.setOther (by simp) _, HM.out.b3.drew.setOther (by simp; omega) _, HM.out.bw.drew.setCell (Nat.le_refl _) _, hB⟩
                have := HM.out.b0.drew.set k (vw (s.list.getD k 0 + r.list.getD k 0))
                rw [addArr_set _ r k hlt] at this
                exact this
              case measure => simp [intOf]; omega
            · obtain rfl : k = 8 := by omega
              have HM := Lib.hid hM; clear hM
              rw [show (((8 : Nat) : Int)) = (8 : Int) from rfl]
              have hA8 : wr.rangeAt w.heap.size 0 (s.add r).cells := by
                have := HM.out.b0.range 0 8
                rw [addArr_full] at this
                exact this
              have HA8 := Lib.hid hA8; clear hA8
              have HT8 := Lib.hid (HM.out.b1.there 0 8 (Nat.le_refl _))
              go_wp2_with (first
                | ((with_reducible refine wpList_load_mid ?a1 112 (.tmp 2) ?a2 w.heap.size 0 ?a3 (s.add r).cells _ HA8.out Tryz.underlying112 ?a4 ?a5 ?_); (case a1 => rfl); (case a2 => rfl); (case a3 => rfl); (case a4 => rfl); (case a5 => exact info_st))
                | ((with_reducible refine wpList_store_mid ?b1 112 (.tmp 4) (.tmp 177) ?b2 (w.heap.size + 1) 0 (s.add r).cells.toArray ?b3 ?b4 ?b5 ?b6 (cells_oneCell _) ?_); (case b1 => rfl); (case b2 => rfl); (case b3 => rfl); (case b4 => rfl); (case b5 => exact HT8.out); (case b6 => exact info_st)))
              obtain ⟨t, ht⟩ := HM.out.b1.setAll (vs := (s.add r).cells) rfl
              refine bodyPost_ret (v := .agg (s.add r).cells.toArray) ?_ rfl ?_
              · exact results_cell_row rfl _ _ (w.heap.size + 1) t _ _ _ rfl ht Tryz.underlying112 rfl info_st
              · refine ⟨?_, below_setCells (Nat.le_succ _) _ HM.out.bw 0⟩
                rw [HR.out, ← HL.out]; unfold compress; rfl
end Go.Proofs.YtlnjpmpddomjiaaGreatDoor
