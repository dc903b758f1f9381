/- The reference's Step: the same state behind a block. -/
import Derived.Test.YtjaclccjccjljaaDoorRefA
namespace Go.Proofs.YtjaclccjccjljaaDoor
open Go.RowKit
attribute [local go_sem] bv_and bv_or bv_xor bv_not bv_add bv_shr3 bv_shr10 un_word bv_mod2 bv_mod3 bv_mod4 bv_mod5

def TabB (w : World) : Prop := ∀ j, j < 64 → w.cell? ⟨1, j, none⟩ = some (vw (KL.getD j 0))
theorem TabB.below {B : Nat} {w w' : World} (h : TabB w) (hb : Below B w w') (hB : 1 < B) : TabB w' := fun j hj => (hb.cell (p := ⟨_, j, none⟩) hB).trans (h j hj)
theorem info_st : (Tryd.prog.info? 62).map (·.size) = some 8 := by kernel_rfl
theorem index8s (r : St) (k : Nat) (hk : k < 8) (w : World) : (Instr.index 62 (.agg #[vw r.a, vw r.b, vw r.c, vw r.d, vw r.e, vw r.f, vw r.g, vw r.h]) (.int .i64 (k : Int))).run Tryd.prog w = .ok (vw (r.list.getD k 0)) w := by
  match k, hk with
  | 0, _ => rfl
  | 1, _ => rfl
  | 2, _ => rfl
  | 3, _ => rfl
  | 4, _ => rfl
  | 5, _ => rfl
  | 6, _ => rfl
  | 7, _ => rfl
theorem add4 (a b c d : BitVec 32) : a + b + c + d = d + c + b + a := by ac_rfl
/-- What holds of the world while the schedule is filled. -/
structure SInv (w : World) (s : St) (cs : List Value) (W : World) : Prop where
  b0 : Blk W w.heap.size s.cells
  b1 : Blk W (w.heap.size + 1) nought8
  b2 : Blk W (w.heap.size + 1 + 1) cs
  bw : Below w.heap.size w W
theorem SInv.drewN {w W : World} {s : St} {cs : List Value} (h : SInv w s cs W) (n : Nat) : SInv w s cs (W.drewN n) := ⟨h.b0.drewN n, h.b1.drewN n, h.b2.drewN n, below_drewN h.bw n⟩

/-- What holds of the world while the rounds' words are added. -/
structure AInv (w : World) (B : Nat) (cs : List Value) (r : St) (W : World) : Prop where
  b0 : Blk W w.heap.size cs
  b1 : Blk W (w.heap.size + 1) nought8
  b3 : Blk W B r.cells
  bw : Below w.heap.size w W
  lt : w.heap.size + 1 + 1 < B
theorem cells_at (r : St) (k : Nat) (hk : k < 8) : r.cells[k]? = some (vw (r.list.getD k 0)) := by
  match k, hk with
  | 0, _ => rfl
  | 1, _ => rfl
  | 2, _ => rfl
  | 3, _ => rfl
  | 4, _ => rfl
  | 5, _ => rfl
  | 6, _ => rfl
  | 7, _ => rfl
/-- What holds of the world while the rounds are gone are gone through: B is the block of the working words. -/
structure RInv (w : World) (B : Nat) (s r : St) (L : List (BitVec 32)) (W : World) : Prop where
  b0 : Blk W w.heap.size s.cells
  b1 : Blk W (w.heap.size + 1) nought8
  b2 : Blk W (w.heap.size + 1 + 1) (L.map vw)
  b3 : Blk W B r.cells
  bw : Below w.heap.size w W
  tab : TabB W
  lt : w.heap.size + 1 + 1 < B
theorem RInv.drewN {w W : World} {B : Nat} {s r : St} {L : List (BitVec 32)} (h : RInv w B s r L W) (n : Nat) : RInv w B s r L (W.drewN n) := ⟨h.b0.drewN n, h.b1.drewN n, h.b2.drewN n, h.b3.drewN n, below_drewN h.bw n, h.tab, h.lt⟩

set_option maxRecDepth 100000 in
set_option maxHeartbeats 1000000 in
theorem step_any (s : St) (b o cap : Nat) (p : List UInt8) (w : World) (hT : TabB w) (hG : 1 < w.heap.size) (hp : p.length = 64) (hb : b < w.heap.size) (hbs : Bs w b o p) (hcap : 64 ≤ cap) (hcap2 : cap ≤ 9223372036854775807) :
    Calls Tryd.prog 52 #[.agg s.cells.toArray, .slice (some ⟨b, o, none⟩) 64 cap] w fun e w' => e = .returned (.agg (compress s p).cells.toArray) ∧ Below w.heap.size w w' := by
  have HT := Lib.hid hT; clear hT
  have Hbs := Lib.hid hbs; clear hbs
  have Hp := Lib.hid hp; clear hp
  go_enter Tryd.func52, Tryd.ntmps52
  go_wp2_with fail
  go_loopw [6] (fun i wr => ∃ k : Nat, k ≤ 64 ∧ i = .int .i64 k ∧ SInv w s (swArr p k) wr) (fun i _ => 64 - (intOf i).toNat)
  case atStart =>
    exact ⟨0, by omega, rfl, ((Blk.newAt _ _ _ rfl rfl).alloc _).alloc _, (Blk.newAt _ _ _ (by simp) rfl).alloc _, Blk.newAt _ _ _ (by simp) (swArr_zero p).symm, (((Below.refl _ _).alloc (Nat.le_refl _) _).alloc (by simp) _).alloc (by simp; omega) _⟩
  case round =>
    obtain ⟨k, hk, rfl, hM⟩ := hrel
    by_cases hlt : k < 64
    · by_cases hlo : k < 16
      · obtain ⟨c0, f0, hR⟩ : wr.cell? ⟨w.heap.size + 1 + 1, k, none⟩ = some (.int .u32 0) ∧ wr.frozen? ⟨w.heap.size + 1 + 1, k, none⟩ = false ∧ Hid (Bs wr b o p) := ⟨hM.b2.at (swArr_at p k (by omega)), hM.b2.free k, Hbs.out.below hM.bw (by omega)⟩
        have HM := Lib.hid hM; clear hM
        go_wp2_with fail
        refine (num_any b (o + 4 * k) _ 4 ((p.drop (4 * k)).take 4) wr (by rw [List.length_take, List.length_drop, Hp.out]; omega) ((hR.out.drop (4 * k)).take 4) (by omega)).mono ?_
        rintro e w' ⟨rfl, rfl⟩
        go_wp2_with fail
        go_roundw
        case rel =>
          refine ⟨k + 1, by omega, by go_num, HM.out.b0.setOther (by simp; omega) _, HM.out.b1.setOther (by simp) _, ?_, HM.out.bw.setCell (by simp; omega) _⟩
          have := HM.out.b2.set k (vw (swNext p (sw p k)))
          rw [swArr_set p k (by omega), sw_next_lo p k hlo, ← bword_num p k (by rw [Hp.out]; omega)] at this
          exact this
        case measure => simp [intOf]; omega
      · obtain ⟨c1, c2, c3, c4, c0, f0⟩ : wr.cell? ⟨w.heap.size + 1 + 1, k - 16, none⟩ = some (vw ((sw p k).getD (k - 16) 0)) ∧ wr.cell? ⟨w.heap.size + 1 + 1, k - 15, none⟩ = some (vw ((sw p k).getD (k - 15) 0)) ∧ wr.cell? ⟨w.heap.size + 1 + 1, k - 7, none⟩ = some (vw ((sw p k).getD (k - 7) 0)) ∧ wr.cell? ⟨w.heap.size + 1 + 1, k - 2, none⟩ = some (vw ((sw p k).getD (k - 2) 0)) ∧ wr.cell? ⟨w.heap.size + 1 + 1, k, none⟩ = some (.int .u32 0) ∧ wr.frozen? ⟨w.heap.size + 1 + 1, k, none⟩ = false :=
          ⟨hM.b2.at (swArr_lt p k _ (by omega)), hM.b2.at (swArr_lt p k _ (by omega)), hM.b2.at (swArr_lt p k _ (by omega)), hM.b2.at (swArr_lt p k _ (by omega)), hM.b2.at (swArr_at p k (by omega)), hM.b2.free k⟩
        have HM := Lib.hid hM; clear hM
        go_wp2_with fail
        have w16 : IntKind.i64.wrap ((k : Int) - 16) = (k : Int) - 16 := IntWalk.i64_in _ (by omega)
        have l16 : (16 : Int) ≤ (k : Int) := by omega
        have g16 : (k : Int) - 16 < 64 := by omega
        have t16 : ((k : Int) - 16).toNat = k - 16 := by omega
        have w15 : IntKind.i64.wrap ((k : Int) - 15) = (k : Int) - 15 := IntWalk.i64_in _ (by omega)
        have l15 : (15 : Int) ≤ (k : Int) := by omega
        have g15 : (k : Int) - 15 < 64 := by omega
        have t15 : ((k : Int) - 15).toNat = k - 15 := by omega
        have w7 : IntKind.i64.wrap ((k : Int) - 7) = (k : Int) - 7 := IntWalk.i64_in _ (by omega)
        have l7 : (7 : Int) ≤ (k : Int) := by omega
        have g7 : (k : Int) - 7 < 64 := by omega
        have t7 : ((k : Int) - 7).toNat = k - 7 := by omega
        have w2 : IntKind.i64.wrap ((k : Int) - 2) = (k : Int) - 2 := IntWalk.i64_in _ (by omega)
        have l2 : (2 : Int) ≤ (k : Int) := by omega
        have g2 : (k : Int) - 2 < 64 := by omega
        have t2 : ((k : Int) - 2).toNat = k - 2 := by omega
        go_quiet ((go_at_call 62; exact Calls.quiet_of_same (turn_int _ _ (by omega) _)))
        obtain ⟨wq, hq, c1, c2, c3, c4, c0, f0, HM⟩ : ∃ wq : World, wr.drewN nq = wq ∧ wq.cell? ⟨w.heap.size + 1 + 1, k - 16, none⟩ = some (vw ((sw p k).getD (k - 16) 0)) ∧ wq.cell? ⟨w.heap.size + 1 + 1, k - 15, none⟩ = some (vw ((sw p k).getD (k - 15) 0)) ∧ wq.cell? ⟨w.heap.size + 1 + 1, k - 7, none⟩ = some (vw ((sw p k).getD (k - 7) 0)) ∧ wq.cell? ⟨w.heap.size + 1 + 1, k - 2, none⟩ = some (vw ((sw p k).getD (k - 2) 0)) ∧ wq.cell? ⟨w.heap.size + 1 + 1, k, none⟩ = some (.int .u32 0) ∧ wq.frozen? ⟨w.heap.size + 1 + 1, k, none⟩ = false ∧ Hid (SInv w s (swArr p k) wq) := ⟨_, rfl, c1, c2, c3, c4, c0, f0, HM.out.drewN nq⟩
        rw [hq]; clear hq
        go_wp2_with fail
        go_quiet ((go_at_call 62; exact Calls.quiet_of_same (turn_int _ _ (by omega) _)))
        obtain ⟨wp, hq, c1, c2, c3, c4, c0, f0, HM⟩ : ∃ wp : World, wq.drewN nq = wp ∧ wp.cell? ⟨w.heap.size + 1 + 1, k - 16, none⟩ = some (vw ((sw p k).getD (k - 16) 0)) ∧ wp.cell? ⟨w.heap.size + 1 + 1, k - 15, none⟩ = some (vw ((sw p k).getD (k - 15) 0)) ∧ wp.cell? ⟨w.heap.size + 1 + 1, k - 7, none⟩ = some (vw ((sw p k).getD (k - 7) 0)) ∧ wp.cell? ⟨w.heap.size + 1 + 1, k - 2, none⟩ = some (vw ((sw p k).getD (k - 2) 0)) ∧ wp.cell? ⟨w.heap.size + 1 + 1, k, none⟩ = some (.int .u32 0) ∧ wp.frozen? ⟨w.heap.size + 1 + 1, k, none⟩ = false ∧ Hid (SInv w s (swArr p k) wp) := ⟨_, rfl, c1, c2, c3, c4, c0, f0, HM.out.drewN nq⟩
        rw [hq]; clear hq
        go_wp2_with fail
        refine wp_region_still_tail 15 (by kernel_rfl) (by kernel_rfl) ?_
        simp only [List.take_succ_cons, List.take_zero, List.drop_succ_cons, List.drop_zero]
        repeat still_step
        refine wpStill_nil ?_
        clear w16 l16 g16 t16 w15 l15 g15 t15 w7 l7 g7 t7 w2 l2 g2 t2
        clear c1 c2 c3 c4
        obtain ⟨c5, f5⟩ : wp.drew.cell? ⟨w.heap.size + 1 + 1, k, none⟩ = some (.int .u32 0) ∧ wp.drew.frozen? ⟨w.heap.size + 1 + 1, k, none⟩ = false := ⟨c0, f0⟩
        go_wp2_with fail
        go_roundw
        case rel =>
          refine ⟨k + 1, by omega, by go_num, HM.out.b0.drew.setOther (by simp; omega) _, HM.out.b1.drew.setOther (by simp) _, ?_, HM.out.bw.drew.setCell (by simp; omega) _⟩
          have := HM.out.b2.drew.set k (vw (swNext p (sw p k)))
          rw [swArr_set p k (by omega), sw_next_hi p k (by omega), add4] at this
          exact this
        case measure => simp [intOf]; omega
    · obtain rfl : k = 64 := by omega
      have HM := Lib.hid hM; clear hM
      rw [show (((64 : Nat) : Int)) = (64 : Int) from rfl]
      have hA0 : wr.rangeAt w.heap.size 0 s.cells := by
        have := HM.out.b0.range 0 8
        exact this
      have HA0 := Lib.hid hA0; clear hA0
      have HT8 : Hid ((wr.alloc (.cells nought8.toArray 62)).there wr.heap.size 0 8) := Lib.hid ((Blk.newAt (cs := nought8) _ _ _ rfl rfl).there 0 8 (Nat.le_refl _))
      go_wp2_with (first
        | ((with_reducible refine wpList_load_mid ?g1 62 (.tmp 2) ?g2 w.heap.size 0 ?g3 s.cells _ HA0.out Tryd.underlying62 ?g4 ?g5 ?_); (case g1 => rfl); (case g2 => rfl); (case g3 => rfl); (case g4 => rfl); (case g5 => exact info_st))
        | ((with_reducible refine wpList_store_mid ?r1 62 (.tmp 9) (.tmp 82) ?r2 wr.heap.size 0 s.cells.toArray ?r3 ?r4 ?r5 ?r6 (cells_oneCell _) ?_); (case r1 => rfl); (case r2 => rfl); (case r3 => rfl); (case r4 => rfl); (case r5 => exact HT8.out); (case r6 => exact info_st)))
      generalize hL : sw p 64 = L
      have HL := Lib.hid hL; clear hL
      have hLl : L.length = 64 := by rw [← HL.out, sw_length]
      generalize hW : World.setCells _ _ _ _ = W
      have hR : RInv w wr.heap.size s s L W := by
        rw [← hW]
        have h2 : Blk wr (w.heap.size + 1 + 1) (L.map vw) := by have := HM.out.b2; rw [swArr_full, HL.out] at this; exact this
        have hlt2 := h2.lt
        have hb : Below wr.heap.size wr ((wr.alloc (.cells nought8.toArray 62)).setCells wr.heap.size 0 s.cells) := below_setCells (Nat.le_refl _) _ ((Below.refl _ _).alloc (Nat.le_refl _) _) 0
        have hbw := HM.out.bw.trans (hb.mono (by omega))
        exact ⟨HM.out.b0.below hb (by omega), HM.out.b1.below hb (by omega), h2.below hb hlt2, (Blk.newAt (cs := nought8) _ _ _ rfl rfl).setAll rfl, hbw, HT.out.below hbw hG, hlt2⟩
      have HLl := Lib.hid hLl; clear hLl
      clear hW HM HA0 HT8
      obtain ⟨W, rfl⟩ : ∃ W' : World, W' = W := ⟨_, rfl⟩
      obtain ⟨B, hB, HR⟩ : ∃ B' : Nat, B' = wr.heap.size ∧ Hid (RInv w B' s s L W) := ⟨_, rfl, hR⟩
      rw [← hB]
      clear hR hB
      go_loopw [10] (fun i wr => ∃ (k : Nat) (r : St), k ≤ 64 ∧ i = .int .i64 k ∧ r = rnds L s k ∧ RInv w B s r L wr) (fun i _ => 64 - (intOf i).toNat)
      case atStart => exact ⟨0, s, by omega, rfl, (rnds_zero _ _).symm, HR.out⟩
      case round =>
        clear HR
        obtain ⟨k, r, hk, rfl, hr, hM⟩ := hrel
        have HR := Lib.hid hr; clear hr
        by_cases hlt : k < 64
        · obtain ⟨c0, c1, c2, c3, c4, c5, c6, c7, d0, d1, k0, k1, HM⟩ : wr.cell? ⟨B, 0, none⟩ = some (vw r.a) ∧ wr.cell? ⟨B, 1, none⟩ = some (vw r.b) ∧ wr.cell? ⟨B, 2, none⟩ = some (vw r.c) ∧ wr.cell? ⟨B, 3, none⟩ = some (vw r.d) ∧ wr.cell? ⟨B, 4, none⟩ = some (vw r.e) ∧ wr.cell? ⟨B, 5, none⟩ = some (vw r.f) ∧ wr.cell? ⟨B, 6, none⟩ = some (vw r.g) ∧ wr.cell? ⟨B, 7, none⟩ = some (vw r.h) ∧ wr.cell? ⟨1, k, none⟩ = some (vw (KL.getD k 0)) ∧ wr.cell? ⟨w.heap.size + 1 + 1, k, none⟩ = some (vw (L.getD k 0)) ∧ (0 : Int) ≤ (k : Int) ∧ (k : Int) < 64 ∧ Hid (RInv w B s r L wr) :=
            ⟨hM.b3.at rfl, hM.b3.at rfl, hM.b3.at rfl, hM.b3.at rfl, hM.b3.at rfl, hM.b3.at rfl, hM.b3.at rfl, hM.b3.at rfl, hM.tab k hlt, hM.b2.at (words_at L k (by rw [HLl.out]; exact hlt)), by omega, by omega, hM⟩
          clear hM
          go_wp2_with fail
          go_quiet ((go_at_call 62; exact Calls.quiet_of_same (turn_int _ _ (by omega) _)))
          obtain ⟨wq, hq, c0, c1, c2, c3, c4, c5, c6, c7, d0, d1, HM⟩ : ∃ wq : World, wr.drewN nq = wq ∧ wq.cell? ⟨B, 0, none⟩ = some (vw r.a) ∧ wq.cell? ⟨B, 1, none⟩ = some (vw r.b) ∧ wq.cell? ⟨B, 2, none⟩ = some (vw r.c) ∧ wq.cell? ⟨B, 3, none⟩ = some (vw r.d) ∧ wq.cell? ⟨B, 4, none⟩ = some (vw r.e) ∧ wq.cell? ⟨B, 5, none⟩ = some (vw r.f) ∧ wq.cell? ⟨B, 6, none⟩ = some (vw r.g) ∧ wq.cell? ⟨B, 7, none⟩ = some (vw r.h) ∧ wq.cell? ⟨1, k, none⟩ = some (vw (KL.getD k 0)) ∧ wq.cell? ⟨w.heap.size + 1 + 1, k, none⟩ = some (vw (L.getD k 0)) ∧ Hid (RInv w B s r L wq) := ⟨_, rfl, c0, c1, c2, c3, c4, c5, c6, c7, d0, d1, HM.out.drewN nq⟩
          rw [hq]; clear hq
          go_wp2_with fail
          go_quiet ((go_at_call 62; exact Calls.quiet_of_same (turn_int _ _ (by omega) _)))
          obtain ⟨wp, hq, c0, c1, c2, c3, c4, c5, c6, c7, d0, d1, HM⟩ : ∃ wp : World, wq.drewN nq = wp ∧ wp.cell? ⟨B, 0, none⟩ = some (vw r.a) ∧ wp.cell? ⟨B, 1, none⟩ = some (vw r.b) ∧ wp.cell? ⟨B, 2, none⟩ = some (vw r.c) ∧ wp.cell? ⟨B, 3, none⟩ = some (vw r.d) ∧ wp.cell? ⟨B, 4, none⟩ = some (vw r.e) ∧ wp.cell? ⟨B, 5, none⟩ = some (vw r.f) ∧ wp.cell? ⟨B, 6, none⟩ = some (vw r.g) ∧ wp.cell? ⟨B, 7, none⟩ = some (vw r.h) ∧ wp.cell? ⟨1, k, none⟩ = some (vw (KL.getD k 0)) ∧ wp.cell? ⟨w.heap.size + 1 + 1, k, none⟩ = some (vw (L.getD k 0)) ∧ Hid (RInv w B s r L wp) := ⟨_, rfl, c0, c1, c2, c3, c4, c5, c6, c7, d0, d1, HM.out.drewN nq⟩
          rw [hq]; clear hq
          have HT9 := Lib.hid (HM.out.b3.there 0 8 (Nat.le_refl _))
          go_wp2_with ((with_reducible refine wpList_store_mid ?v1 62 (.tmp 9) (.tmp 164) ?v2 B 0 (rnd (KL.getD k 0) (L.getD k 0) r).cells.toArray ?v3 ?v4 ?v5 ?v6 (cells_oneCell _) ?_); (case v1 => rfl); (case v2 => rfl); (case v3 => rfl); (case v4 => rfl); (case v5 => exact HT9.out); (case v6 => exact info_st); simp only [Act.put])
          go_roundw
          case rel =>
            have hB := HM.out.lt
            have hb : Below B wp (wp.setCells B 0 (rnd (KL.getD k 0) (L.getD k 0) r).cells) := below_setCells (Nat.le_refl _) _ (Below.refl _ _) 0
            exact ⟨k + 1, rnd (KL.getD k 0) (L.getD k 0) r, by omega, by go_num, by rw [HR.out, rnds_succ], HM.out.b0.below hb (by omega), HM.out.b1.below hb (by omega), HM.out.b2.below hb (by omega), HM.out.b3.setAll rfl, HM.out.bw.trans (hb.mono (by omega)), HM.out.tab.below hb (by omega), HM.out.lt⟩
          case measure => simp [intOf]; omega
        · obtain rfl : k = 64 := by omega
          have HM := Lib.hid hM; clear hM
          rw [show (((64 : Nat) : Int)) = (64 : Int) from rfl]
          go_wp2_with fail
          have HA : Hid (AInv w B (addArr s r 0) r wr) := by rw [addArr_zero]; exact ⟨HM.out.b0, HM.out.b1, HM.out.b3, HM.out.bw, HM.out.lt⟩
          clear HM
          go_loopw [165] (fun i wr => ∃ k : Nat, k ≤ 8 ∧ i = .int .i64 k ∧ AInv w B (addArr s r k) r wr) (fun i _ => 8 - (intOf i).toNat)
          case atStart => exact ⟨0, by omega, rfl, HA.out⟩
          case round =>
            clear HA
            obtain ⟨k, hk, rfl, hM⟩ := hrel
            by_cases hlt : k < 8
            · obtain ⟨d0, f0, d1, k0, k1⟩ : wr.cell? ⟨w.heap.size, k, none⟩ = some (vw (s.list.getD k 0)) ∧ wr.frozen? ⟨w.heap.size, k, none⟩ = false ∧ wr.cell? ⟨B, k, none⟩ = some (vw (r.list.getD k 0)) ∧ (0 : Int) ≤ (k : Int) ∧ (k : Int) < 8 := ⟨hM.b0.at (addArr_at _ r k hlt), hM.b0.free k, hM.b3.at (cells_at r k hlt), by omega, by omega⟩
              have HM := Lib.hid hM; clear hM
              go_wp2_with fail
              refine wp_region_still_tail 8 (by kernel_rfl) (by kernel_rfl) ?_
              simp only [List.take_succ_cons, List.take_zero, List.drop_succ_cons, List.drop_zero]
              repeat still_step
              refine wpStill_nil ?_
              obtain ⟨d5, f5⟩ : wr.drew.cell? ⟨w.heap.size, k, none⟩ = some (vw (s.list.getD k 0)) ∧ wr.drew.frozen? ⟨w.heap.size, k, none⟩ = false := ⟨d0, f0⟩
              go_wp2_with fail
              go_roundw
              case rel =>
                have hB := HM.out.lt
                refine ⟨k + 1, by omega, by go_num, ?_, HM.out.b1.drew.setOther (by simp) _, HM.out.b3.drew.setOther (by simp; omega) _, HM.out.bw.drew.setCell (Nat.le_refl _) _, hB⟩
                have := HM.out.b0.drew.set k (vw (s.list.getD k 0 + r.list.getD k 0))
                rw [addArr_set _ r k hlt] at this
                exact this
              case measure => simp [intOf]; omega
            · obtain rfl : k = 8 := by omega
              have HM := Lib.hid hM; clear hM
              rw [show (((8 : Nat) : Int)) = (8 : Int) from rfl]
              have hA8 : wr.rangeAt w.heap.size 0 (s.add r).cells := by
                have := HM.out.b0.range 0 8
                rw [addArr_full] at this
                exact this
              have HA8 := Lib.hid hA8; clear hA8
              have HT8 := Lib.hid (HM.out.b1.there 0 8 (Nat.le_refl _))
              go_wp2_with (first
                | ((with_reducible refine wpList_load_mid ?a1 62 (.tmp 2) ?a2 w.heap.size 0 ?a3 (s.add r).cells _ HA8.out Tryd.underlying62 ?a4 ?a5 ?_); (case a1 => rfl); (case a2 => rfl); (case a3 => rfl); (case a4 => rfl); (case a5 => exact info_st))
                | ((with_reducible refine wpList_store_mid ?b1 62 (.tmp 4) (.tmp 177) ?b2 (w.heap.size + 1) 0 (s.add r).cells.toArray ?b3 ?b4 ?b5 ?b6 (cells_oneCell _) ?_); (case b1 => rfl); (case b2 => rfl); (case b3 => rfl); (case b4 => rfl); (case b5 => exact HT8.out); (case b6 => exact info_st)))
              obtain ⟨t, ht⟩ := HM.out.b1.setAll (vs := (s.add r).cells) rfl
              refine bodyPost_ret (v := .agg (s.add r).cells.toArray) ?_ rfl ?_
              · exact results_cell_row rfl _ _ (w.heap.size + 1) t _ _ _ rfl ht Tryd.underlying62 rfl info_st
              · refine ⟨?_, below_setCells (Nat.le_succ _) _ HM.out.bw 0⟩
                rw [HR.out, ← HL.out]; unfold compress; rfl
end Go.Proofs.YtjaclccjccjljaaDoor
