/- sha.mix: the state behind a block. -/
import Derived.Test.YteadncmhcbdicaaDoorSched
import Derived.Deep.RegionHeld3
namespace Go.Proofs.YteadncmhcbdicaaDoor
open Go.RowKit
attribute [local go_sem] bv_add

/-- The round constants' variable holds what the text lays. -/
def TabA (w : World) : Prop := ∀ j, j < 64 → w.cell? ⟨0, j, none⟩ = some (vw (KL.getD j 0))
theorem TabA.below {B : Nat} {w w' : World} (h : TabA w) (hb : Below B w w') (hB : 0 < B) : TabA w' := fun j hj => (hb.cell (p := ⟨_, j, none⟩) hB).trans (h j hj)
def nought8 : List Value := List.replicate 8 (.int .u32 0)
theorem info_w8 : (Tryd.prog.info? 57).map (·.size) = some 8 := by kernel_rfl
set_option maxRecDepth 100000 in
theorem index8 (r : St) (k : Nat) (hk : k < 8) (w : World) : (Instr.index 57 (.agg #[vw r.a, vw r.b, vw r.c, vw r.d, vw r.e, vw r.f, vw r.g, vw r.h]) (.int .i64 (k : Int))).run Tryd.prog w = .ok (vw (r.list.getD k 0)) w := by
  match k, hk with
  | 0, _ => rfl
  | 1, _ => rfl
  | 2, _ => rfl
  | 3, _ => rfl
  | 4, _ => rfl
  | 5, _ => rfl
  | 6, _ => rfl
  | 7, _ => rfl
/-- The state's array while the rounds' words are added: k of them. -/
def addArr (s r : St) (k : Nat) : List Value := ((s.add r).list.take k ++ s.list.drop k).map vw
theorem addArr_zero (s r : St) : addArr s r 0 = s.cells := rfl
theorem addArr_full (s r : St) : addArr s r 8 = (s.add r).cells := rfl
theorem addArr_at (s r : St) (k : Nat) (hk : k < 8) : (addArr s r k)[k]? = some (vw (s.list.getD k 0)) := by
  match k, hk with
  | 0, _ => rfl
  | 1, _ => rfl
  | 2, _ => rfl
  | 3, _ => rfl
  | 4, _ => rfl
  | 5, _ => rfl
  | 6, _ => rfl
  | 7, _ => rfl
theorem addArr_set (s r : St) (k : Nat) (hk : k < 8) : (addArr s r k).set k (vw (s.list.getD k 0 + r.list.getD k 0)) = addArr s r (k + 1) := by
  match k, hk with
  | 0, _ => rfl
  | 1, _ => rfl
  | 2, _ => rfl
  | 3, _ => rfl
  | 4, _ => rfl
  | 5, _ => rfl
  | 6, _ => rfl
  | 7, _ => rfl
theorem cells_length (s : St) : s.cells.length = 8 := rfl
theorem cells_oneCell (s : St) : s.cells.toArray.all (·.oneCell') = true := oneCell_words s.list
attribute [irreducible] addArr

/-- What holds of the world while mix runs. -/
structure MInv (w : World) (B : Nat) (cs : List Value) (L : List (BitVec 32)) (W : World) : Prop where
  b0 : Blk W w.heap.size cs
  b1 : Blk W (w.heap.size + 1) nought8
  b2 : Blk W B (L.map vw)
  bw : Below w.heap.size w W
  tab : TabA W
  lt : w.heap.size + 2 ≤ B
theorem MInv.drewN {w W : World} {B : Nat} {cs : List Value} {L : List (BitVec 32)} (h : MInv w B cs L W) (n : Nat) : MInv w B cs L (W.drewN n) := ⟨h.b0.drewN n, h.b1.drewN n, h.b2.drewN n, below_drewN h.bw n, h.tab, h.lt⟩
theorem words_at (L : List (BitVec 32)) (k : Nat) (h : k < L.length) : (L.map vw)[k]? = some (vw (L.getD k 0)) := by
  rw [List.getElem?_map, List.getElem?_eq_getElem h, List.getD_eq_getElem?_getD, List.getElem?_eq_getElem h]; rfl

set_option maxRecDepth 100000 in
set_option maxHeartbeats 1000000 in
theorem mix_any (s : St) (b o cap : Nat) (p : List UInt8) (w : World) (hT : TabA w) (hG : 0 < w.heap.size) (hp : p.length = 64) (hb : b < w.heap.size) (hbs : Bs w b o p) (hcap : 64 ≤ cap) (hcap2 : cap ≤ 9223372036854775807) :
    Calls Tryd.prog 34 #[.agg s.cells.toArray, .slice (some ⟨b, o, none⟩) 64 cap] w fun e w' => e = .returned (.agg (compress s p).cells.toArray) ∧ Below w.heap.size w w' := by
  have HT := Lib.hid hT; clear hT
  have Hbs := Lib.hid hbs; clear hbs
  have Hp := Lib.hid hp; clear hp
  obtain ⟨a, b', c, d, e, f, g, h⟩ := s
  go_enter Tryd.func34, Tryd.ntmps34
  go_wp2_with fail
  refine (schedule_any b o cap p _ Hp.out (by simp; omega) (Hbs.out.below (((Below.refl _ _).alloc (Nat.le_refl _) _).alloc (by simp) _) hb) hcap hcap2).mono ?_
  rintro e w1 ⟨rfl, hw1⟩
  have hz : w.heap.size + 2 ≤ w1.heap.size := by have := hw1.size; simp at this; omega
  have HW1 := Lib.hid hw1; clear hw1
  generalize hL : sw p 64 = L
  have HL := Lib.hid hL; clear hL
  have HS : Hid ((L.map vw).toArray.size = 64) := Lib.hid (by rw [← HL.out]; simp [sw_length])
  go_wp2_with ((with_reducible refine wpList_store_mid ?s1 85 (.tmp 5) (.tmp 20) ?s2 w1.heap.size 0 (L.map vw).toArray ?s3 ?s4 ?s5 ?s6 (oneCell_words _) ?_); (case s1 => rfl); (case s2 => rfl); (case s3 => rfl); (case s4 => rfl); (case s5 => rw [HS.out]; exact (Blk.newAt (cs := nought64) _ _ _ rfl rfl).there 0 64 (Nat.le_refl _)); (case s6 => rw [HS.out]; exact info_w64))
  simp only [Act.put]
  generalize hW : World.setCells _ _ _ _ = W
  have B0 : Blk W w.heap.size [vw a, vw b', vw c, vw d, vw e, vw f, vw g, vw h] := by
    rw [← hW]
    exact ((((Blk.newAt w _ 57 rfl rfl).alloc _).below HW1.out (by simp; omega)).alloc _).below (below_setCells (B := w1.heap.size) (Nat.le_refl _) _ (Below.refl _ _) 0) (by omega)
  have B1 : Blk W (w.heap.size + 1) nought8 := by
    rw [← hW]
    exact (((Blk.newAt (w.alloc _) _ 57 (by simp) rfl).below HW1.out (by simp)).alloc _).below (below_setCells (B := w1.heap.size) (Nat.le_refl _) _ (Below.refl _ _) 0) (by omega)
  have B2 : Blk W w1.heap.size (L.map vw) := by
    rw [← hW]
    exact (Blk.newAt (cs := nought64) _ _ _ rfl rfl).setAll (by have := HS.out; simp at this; simpa [nought64] using this)
  have BW : Below w.heap.size w W := by
    rw [← hW]
    exact below_setCells (by omega) _ ((((Below.refl _ w).alloc (Nat.le_refl _) _).alloc (by simp) _).trans (HW1.out.mono (by simp; omega)) |>.alloc (by omega) _) 0
  have hM : MInv w w1.heap.size [vw a, vw b', vw c, vw d, vw e, vw f, vw g, vw h] L W := ⟨B0, B1, B2, BW, HT.out.below BW hG, hz⟩
  clear hW HW1 B0 B1 B2 BW
  obtain ⟨W, rfl⟩ : ∃ W' : World, W' = W := ⟨_, rfl⟩
  obtain ⟨c0, c1, c2, c3, c4, c5, c6, c7⟩ : W.cell? ⟨w.heap.size, 0, none⟩ = some (vw a) ∧ W.cell? ⟨w.heap.size, 1, none⟩ = some (vw b') ∧ W.cell? ⟨w.heap.size, 2, none⟩ = some (vw c) ∧ W.cell? ⟨w.heap.size, 3, none⟩ = some (vw d) ∧ W.cell? ⟨w.heap.size, 4, none⟩ = some (vw e) ∧ W.cell? ⟨w.heap.size, 5, none⟩ = some (vw f) ∧ W.cell? ⟨w.heap.size, 6, none⟩ = some (vw g) ∧ W.cell? ⟨w.heap.size, 7, none⟩ = some (vw h) := ⟨hM.b0.at rfl, hM.b0.at rfl, hM.b0.at rfl, hM.b0.at rfl, hM.b0.at rfl, hM.b0.at rfl, hM.b0.at rfl, hM.b0.at rfl⟩
  have HM := Lib.hid hM; clear hM
  go_quiet (fail)
  go_wp2_with fail
  clear c0 c1 c2 c3 c4 c5 c6 c7
  have HM' := Lib.hid (HM.out.drewN nq); clear HM
  go_loopw [6, 7, 8, 9, 10, 11, 12, 13, 37] (fun va vb' vc vd ve vf vg vh i wr => ∃ (k : Nat) (r : St), k ≤ 64 ∧ i = .int .i64 k ∧ va = vw r.a ∧ vb' = vw r.b ∧ vc = vw r.c ∧ vd = vw r.d ∧ ve = vw r.e ∧ vf = vw r.f ∧ vg = vw r.g ∧ vh = vw r.h ∧ r = rnds L ⟨a, b', c, d, e, f, g, h⟩ k ∧ MInv w w1.heap.size [vw a, vw b', vw c, vw d, vw e, vw f, vw g, vw h] L wr) (fun _ _ _ _ _ _ _ _ i _ => 64 - (intOf i).toNat)
  case atStart => exact ⟨0, ⟨a, b', c, d, e, f, g, h⟩, by omega, rfl, rfl, rfl, rfl, rfl, rfl, rfl, rfl, rfl, (rnds_zero _ _).symm, HM'.out⟩
  case round =>
    clear HM'
    obtain ⟨k, r, hk, rfl, rfl, rfl, rfl, rfl, rfl, rfl, rfl, rfl, hr, hM⟩ := hrel
    have HR := Lib.hid hr; clear hr
    by_cases hlt : k < 64
    · obtain ⟨d0, d1, k0, k1⟩ : wr.cell? ⟨0, k, none⟩ = some (vw (KL.getD k 0)) ∧ wr.cell? ⟨w1.heap.size, k, none⟩ = some (vw (L.getD k 0)) ∧ (0 : Int) ≤ (k : Int) ∧ (k : Int) < 64 := ⟨hM.tab k hlt, hM.b2.at (words_at L k (by have := HS.out; simp at this; omega)), by omega, by omega⟩
      have HM := Lib.hid hM; clear hM
      go_wp2_with fail
      go_quiet ((first | (go_at_call 44; exact Calls.quiet_of_same ((bigSigma1_any _ _).mono fun _ _ h => ⟨h.1, h.2.symm⟩)) | (go_at_call 45; exact Calls.quiet_of_same ((choose_any _ _ _ _).mono fun _ _ h => ⟨h.1, h.2.symm⟩))))
      go_wp2_with fail
      refine (bigSigma0_any _ _).mono ?_; rintro e w' ⟨rfl, rfl⟩
      go_wp2_with fail
      refine (majority_any _ _ _ _).mono ?_; rintro e w' ⟨rfl, rfl⟩
      go_wp2_with fail
      go_roundw
      case rel =>
        exact ⟨k + 1, rnd (KL.getD k 0) (L.getD k 0) r, by omega, by go_num, rfl, rfl, rfl, rfl, rfl, rfl, rfl, rfl, by rw [HR.out, rnds_succ], HM.out.drewN nq⟩
      case measure => simp [intOf]; omega
    · obtain rfl : k = 64 := by omega
      have HM := Lib.hid hM; clear hM
      rw [show (((64 : Nat) : Int)) = (64 : Int) from rfl]
      go_wp2_with fail
      have HA : Hid (MInv w w1.heap.size (addArr ⟨a, b', c, d, e, f, g, h⟩ r 0) L wr) := by rw [addArr_zero]; exact HM
      clear HM
      go_loopw [86] (fun i wr => ∃ k : Nat, k ≤ 8 ∧ i = .int .i64 k ∧ MInv w w1.heap.size (addArr ⟨a, b', c, d, e, f, g, h⟩ r k) L wr) (fun i _ => 8 - (intOf i).toNat)
      case atStart => exact ⟨0, by omega, rfl, HA.out⟩
      case round =>
        clear HA
        obtain ⟨k, hk, rfl, hM⟩ := hrel
        by_cases hlt : k < 8
        · obtain ⟨d0, f0, k0, k1⟩ : wr.cell? ⟨w.heap.size, k, none⟩ = some (vw ((St.list ⟨a, b', c, d, e, f, g, h⟩).getD k 0)) ∧ wr.frozen? ⟨w.heap.size, k, none⟩ = false ∧ (0 : Int) ≤ (k : Int) ∧ (k : Int) < 8 := ⟨hM.b0.at (addArr_at _ r k hlt), hM.b0.free k, by omega, by omega⟩
          have HM := Lib.hid hM; clear hM
          have hx := index8 r k hlt
          go_wp2_with fail
          go_roundw
          case rel =>
            refine ⟨k + 1, by omega, by go_num, ?_, HM.out.b1.setOther (by simp) _, HM.out.b2.setOther (by have := HM.out.lt; simp; omega) _, HM.out.bw.setCell (Nat.le_refl _) _, fun j hj => ?_, HM.out.lt⟩
            · have := HM.out.b0.set k (vw ((St.list ⟨a, b', c, d, e, f, g, h⟩).getD k 0 + r.list.getD k 0))
              rw [addArr_set _ r k hlt] at this
              exact this
            · rw [World.cell?_setCell_far _ _ _ _ (by show w.heap.size ≠ 0; omega)]; exact HM.out.tab j hj
          case measure => simp [intOf]; omega
        · obtain rfl : k = 8 := by omega
          have HM := Lib.hid hM; clear hM
          rw [show (((8 : Nat) : Int)) = (8 : Int) from rfl]
          have hA8 : wr.rangeAt w.heap.size 0 (St.cells (St.add ⟨a, b', c, d, e, f, g, h⟩ r)) := by
            have := HM.out.b0.range 0 8
            rw [addArr_full] at this
            exact this
          have HA8 := Lib.hid hA8; clear hA8
          have HT8 := Lib.hid (HM.out.b1.there 0 8 (Nat.le_refl _))
          go_wp2_with (first
            | ((with_reducible refine wpList_load_mid ?g1 57 (.tmp 2) ?g2 w.heap.size 0 ?g3 (St.cells (St.add ⟨a, b', c, d, e, f, g, h⟩ r)) _ HA8.out Tryd.underlying57 ?g4 ?g5 ?_); (case g1 => rfl); (case g2 => rfl); (case g3 => rfl); (case g4 => rfl); (case g5 => exact info_w8))
            | ((with_reducible refine wpList_store_mid ?r1 57 (.tmp 4) (.tmp 97) ?r2 (w.heap.size + 1) 0 (St.cells (St.add ⟨a, b', c, d, e, f, g, h⟩ r)).toArray ?r3 ?r4 ?r5 ?r6 (cells_oneCell _) ?_); (case r1 => rfl); (case r2 => rfl); (case r3 => rfl); (case r4 => rfl); (case r5 => exact HT8.out); (case r6 => exact info_w8)))
          obtain ⟨t, ht⟩ := HM.out.b1.setAll (vs := St.cells (St.add ⟨a, b', c, d, e, f, g, h⟩ r)) rfl
          refine bodyPost_ret (v := .agg (St.cells (St.add ⟨a, b', c, d, e, f, g, h⟩ r)).toArray) ?_ rfl ?_
          · exact results_cell_row rfl _ _ (w.heap.size + 1) t _ _ _ rfl ht Tryd.underlying57 rfl info_w8
          · refine ⟨?_, below_setCells (Nat.le_succ _) _ HM.out.bw 0⟩
            rw [HR.out, ← HL.out]; unfold compress; rfl
end Go.Proofs.YteadncmhcbdicaaDoor
