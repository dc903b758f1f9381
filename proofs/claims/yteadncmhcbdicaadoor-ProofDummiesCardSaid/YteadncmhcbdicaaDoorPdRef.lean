/- One byte of a row of the call's own. The reference's small functions: turn, Num. The reference's Step: the same state behind a block. The reference's Bytes: a number's bytes, the highest first. The reference's Tail. The reference's First, Out. The reference's Go, and its Sum. The reference's Sum. -/
import Derived.Test.YteadncmhcbdicaaDoorCutE
import Derived.Test.YteadncmhcbdicaaDoorNumU
import Derived.Test.YteadncmhcbdicaaDoorShaO
import Derived.Test.YteadncmhcbdicaaDoorReg
import Derived.Test.YteadncmhcbdicaaDoorShaM
namespace Go.Proofs.YteadncmhcbdicaaDoor
open Go.RowKit
theorem OwnB.setAt {w : World} {base g cap n : Nat} {l : List UInt8} (h : OwnB w base (.slice (some ⟨g, 0, none⟩) n cap) l) (k : Nat) (y : UInt8) :
    OwnB (w.setCell ⟨g, k, none⟩ (vb y)) base (.slice (some ⟨g, 0, none⟩) n cap) (l.set k y) := by
  unfold OwnB at h ⊢
  have hn : n = l.length := by
    rcases h.2 with ⟨h', _⟩ | ⟨g', cap', cur, h', _⟩
    · simp at h'
    · injection h' with _ h2
  have h2 := hn ▸ h
  have s1 := (h2.stored k (vb y)).1
  rw [hn, List.length_set, List.map_set]
  exact s1
theorem OwnB.getAt {w : World} {base g cap n : Nat} {l : List UInt8} (h : OwnB w base (.slice (some ⟨g, 0, none⟩) n cap) l) (k : Nat) (x : UInt8) (hx : l[k]? = some x) : w.cell? ⟨g, k, none⟩ = some (vb x) ∧ w.frozen? ⟨g, k, none⟩ = false := by
  rcases h.parts with ⟨h', _⟩ | ⟨g', cap', h', _, _, _, _, hb, hf⟩
  · simp at h'
  · injection h' with h1 _ _
    injection h1 with h1
    injection h1 with h1 _ _
    subst h1
    obtain ⟨hk, rfl⟩ := List.getElem?_eq_some_iff.1 hx
    have := hb k hk
    rw [Nat.zero_add] at this
    exact ⟨this, hf k⟩
end Go.Proofs.YteadncmhcbdicaaDoor
set_option maxRecDepth 100000
namespace Go.Proofs.YteadncmhcbdicaaDoor
open Go.RowKit
attribute [local go_sem] bv_and bv_or bv_xor bv_not bv_add
theorem turn_any (x : BitVec 32) (n : Nat) (hn : n < 32) (hn0 : 0 < n) (w : World) : Calls Tryd.prog 52 #[vw x, .int .u64 (n : Int)] w fun e w' => e = .returned (vw (x.rotateRight n)) ∧ w = w' := by
  have e2 : IntKind.u64.wrap (32 - (n : Int)) = ((32 - n : Nat) : Int) := by rw [IntKind.wrap_u64]; omega
  have h3 := bv_rotr x n hn
  go_enter Tryd.func52, Tryd.ntmps52
  go_wp2
  go_ret
  exact ⟨by show Ending.returned (.int .u32 (bits .or .u32 (wn x / 2 ^ n) (wn x * 2 ^ (32 - n) % 4294967296))) = _; rw [bv_shl', bv_shr, bv_or, h3], rfl⟩

theorem turn_int (x : BitVec 32) (n : Int) (h : 0 < n ∧ n < 32) (w : World) : Calls Tryd.prog 52 #[vw x, .int .u64 n] w fun e w' => e = .returned (vw (x.rotateRight n.toNat)) ∧ w' = w := by
  obtain ⟨m, rfl⟩ := Int.eq_ofNat_of_zero_le (show 0 ≤ n by omega)
  exact (turn_any x m (by omega) (by omega) w).mono fun _ _ h => ⟨h.1, h.2.symm⟩
attribute [local go_sem] un_mul256 un_bn bn_u64
theorem num_any (b o cap n : Nat) (l : List UInt8) (w : World) (hn : l.length = n) (hbs : Bs w b o l) (hl : n ≤ 9223372036854775807) :
    Calls Tryd.prog 51 #[.slice (some ⟨b, o, none⟩) n cap] w fun e w' => e = .returned (.int .u64 (un (num l))) ∧ w = w' := by
  subst hn
  have Hbs := Lib.hid hbs; clear hbs
  go_enter Tryd.func51, Tryd.ntmps51
  go_wp2
  go_loop [3, 8] (fun n i => ∃ k : Nat, k ≤ l.length ∧ i = .int .i64 k ∧ n = .int .u64 (un (num (l.take k)))) (fun _ i => l.length - (intOf i).toNat)
  case atStart => exact ⟨0, by omega, rfl, by rw [List.take_zero, num_nil]; rfl⟩
  case round =>
    obtain ⟨k, hk, rfl, rfl⟩ := hrel
    by_cases hlt : k < l.length
    · obtain ⟨c0, k0, k1⟩ : w.cell? ⟨b, o + k, none⟩ = some (vb l[k]) ∧ (0 : Int) ≤ (k : Int) ∧ (k : Int) < (l.length : Int) := ⟨Hbs.out k hlt, by omega, by omega⟩
      go_wp2
      go_round
      case rel => 
        refine ⟨k + 1, by omega, by go_num, ?_⟩
        rw [List.take_succ_eq_append_getElem hlt, num_snoc]
      case measure => simp [intOf]; omega
    · obtain rfl : k = l.length := by omega
      go_wp2
      go_ret
      exact ⟨rfl, rfl⟩
end Go.Proofs.YteadncmhcbdicaaDoor
set_option maxRecDepth 100000
namespace Go.Proofs.YteadncmhcbdicaaDoor
open Go.RowKit
attribute [local go_sem] bv_and bv_or bv_xor bv_not bv_add bv_shr3 bv_shr10 un_word bv_mod2 bv_mod3 bv_mod4 bv_mod5

def TabB (w : World) : Prop := ∀ j, j < 64 → w.cell? ⟨1, j, none⟩ = some (vw (KL.getD j 0))
theorem TabB.below {B : Nat} {w w' : World} (h : TabB w) (hb : Below B w w') (hB : 1 < B) : TabB w' := fun j hj => (hb.cell (p := ⟨_, j, none⟩) hB).trans (h j hj)
theorem info_st : (Tryd.prog.info? 58).map (·.size) = some 8 := by kernel_rfl
theorem index8s (r : St) (k : Nat) (hk : k < 8) (w : World) : (Instr.index 58 (.agg #[vw r.a, vw r.b, vw r.c, vw r.d, vw r.e, vw r.f, vw r.g, vw r.h]) (.int .i64 (k : Int))).run Tryd.prog w = .ok (vw (r.list.getD k 0)) w := by
  match k, hk with
  | 0, _ => rfl
  | 1, _ => rfl
  | 2, _ => rfl
  | 3, _ => rfl
  | 4, _ => rfl
  | 5, _ => rfl
  | 6, _ => rfl
  | 7, _ => rfl
theorem add4 (a b c d : BitVec 32) : a + b + c + d = d + c + b + a := by ac_rfl
/-- What holds of the world while the schedule is filled. -/
structure SInv (w : World) (s : St) (cs : List Value) (W : World) : Prop where
  b0 : Blk W w.heap.size s.cells
  b1 : Blk W (w.heap.size + 1) nought8
  b2 : Blk W (w.heap.size + 1 + 1) cs
  bw : Below w.heap.size w W
theorem SInv.drewN {w W : World} {s : St} {cs : List Value} (h : SInv w s cs W) (n : Nat) : SInv w s cs (W.drewN n) := ⟨h.b0.drewN n, h.b1.drewN n, h.b2.drewN n, below_drewN h.bw n⟩

/-- What holds of the world while the rounds' words are added. -/
structure AInv (w : World) (B : Nat) (cs : List Value) (r : St) (W : World) : Prop where
  b0 : Blk W w.heap.size cs
  b1 : Blk W (w.heap.size + 1) nought8
  b3 : Blk W B r.cells
  bw : Below w.heap.size w W
  lt : w.heap.size + 1 + 1 < B
theorem cells_at (r : St) (k : Nat) (hk : k < 8) : r.cells[k]? = some (vw (r.list.getD k 0)) := by
  match k, hk with
  | 0, _ => rfl
  | 1, _ => rfl
  | 2, _ => rfl
  | 3, _ => rfl
  | 4, _ => rfl
  | 5, _ => rfl
  | 6, _ => rfl
  | 7, _ => rfl
/-- What holds of the world while the rounds are gone are gone through: B is the block of the working words. -/
structure RInv (w : World) (B : Nat) (s r : St) (L : List (BitVec 32)) (W : World) : Prop where
  b0 : Blk W w.heap.size s.cells
  b1 : Blk W (w.heap.size + 1) nought8
  b2 : Blk W (w.heap.size + 1 + 1) (L.map vw)
  b3 : Blk W B r.cells
  bw : Below w.heap.size w W
  tab : TabB W
  lt : w.heap.size + 1 + 1 < B
theorem RInv.drewN {w W : World} {B : Nat} {s r : St} {L : List (BitVec 32)} (h : RInv w B s r L W) (n : Nat) : RInv w B s r L (W.drewN n) := ⟨h.b0.drewN n, h.b1.drewN n, h.b2.drewN n, h.b3.drewN n, below_drewN h.bw n, h.tab, h.lt⟩

set_option maxRecDepth 100000 in
set_option maxHeartbeats 1000000 in
theorem step_any (s : St) (b o cap : Nat) (p : List UInt8) (w : World) (hT : TabB w) (hG : 1 < w.heap.size) (hp : p.length = 64) (hb : b < w.heap.size) (hbs : Bs w b o p) (hcap : 64 ≤ cap) (hcap2 : cap ≤ 9223372036854775807) :
    Calls Tryd.prog 38 #[.agg s.cells.toArray, .slice (some ⟨b, o, none⟩) 64 cap] w fun e w' => e = .returned (.agg (compress s p).cells.toArray) ∧ Below w.heap.size w w' := by
  have HT := Lib.hid hT; clear hT
  have Hbs := Lib.hid hbs; clear hbs
  have Hp := Lib.hid hp; clear hp
  go_enter Tryd.func38, Tryd.ntmps38
  go_wp2_with fail
  go_loopw [6] (fun i wr => ∃ k : Nat, k ≤ 64 ∧ i = .int .i64 k ∧ SInv w s (swArr p k) wr) (fun i _ => 64 - (intOf i).toNat)
  case atStart =>
    exact ⟨0, by omega, rfl, ((Blk.newAt _ _ _ rfl rfl).alloc _).alloc _, (Blk.newAt _ _ _ (by simp) rfl).alloc _, Blk.newAt _ _ _ (by simp) (swArr_zero p).symm, (((Below.refl _ _).alloc (Nat.le_refl _) _).alloc (by simp) _).alloc (by simp; omega) _⟩
  case round =>
    obtain ⟨k, hk, rfl, hM⟩ := hrel
    by_cases hlt : k < 64
    · by_cases hlo : k < 16
      · obtain ⟨c0, f0, hR⟩ : wr.cell? ⟨w.heap.size + 1 + 1, k, none⟩ = some (.int .u32 0) ∧ wr.frozen? ⟨w.heap.size + 1 + 1, k, none⟩ = false ∧ Hid (Bs wr b o p) := ⟨hM.b2.at (swArr_at p k (by omega)), hM.b2.free k, Hbs.out.below hM.bw (by omega)⟩
        have HM := Lib.hid hM; clear hM
        go_wp2_with fail
        refine (num_any b (o + 4 * k) _ 4 ((p.drop (4 * k)).take 4) wr (by rw [List.length_take, List.length_drop, Hp.out]; omega) ((hR.out.drop (4 * k)).take 4) (by omega)).mono ?_
        rintro e w' ⟨rfl, rfl⟩
        go_wp2_with fail
        go_roundw
        case rel =>
          refine ⟨k + 1, by omega, by go_num, HM.out.b0.setOther (by simp; omega) _, HM.out.b1.setOther (by simp) _, ?_, HM.out.bw.setCell (by simp; omega) _⟩
          have := HM.out.b2.set k (vw (swNext p (sw p k)))
          rw [swArr_set p k (by omega), sw_next_lo p k hlo, ← bword_num p k (by rw [Hp.out]; omega)] at this
          exact this
        case measure => simp [intOf]; omega
      · obtain ⟨c1, c2, c3, c4, c0, f0⟩ : wr.cell? ⟨w.heap.size + 1 + 1, k - 16, none⟩ = some (vw ((sw p k).getD (k - 16) 0)) ∧ wr.cell? ⟨w.heap.size + 1 + 1, k - 15, none⟩ = some (vw ((sw p k).getD (k - 15) 0)) ∧ wr.cell? ⟨w.heap.size + 1 + 1, k - 7, none⟩ = some (vw ((sw p k).getD (k - 7) 0)) ∧ wr.cell? ⟨w.heap.size + 1 + 1, k - 2, none⟩ = some (vw ((sw p k).getD (k - 2) 0)) ∧ wr.cell? ⟨w.heap.size + 1 + 1, k, none⟩ = some (.int .u32 0) ∧ wr.frozen? ⟨w.heap.size + 1 + 1, k, none⟩ = false :=
          ⟨hM.b2.at (swArr_lt p k _ (by omega)), hM.b2.at (swArr_lt p k _ (by omega)), hM.b2.at (swArr_lt p k _ (by omega)), hM.b2.at (swArr_lt p k _ (by omega)), hM.b2.at (swArr_at p k (by omega)), hM.b2.free k⟩
        have HM := Lib.hid hM; clear hM
        go_wp2_with fail
        have w16 : IntKind.i64.wrap ((k : Int) - 16) = (k : Int) - 16 := IntWalk.i64_in _ (by omega)
        have l16 : (16 : Int) ≤ (k : Int) := by omega
        have g16 : (k : Int) - 16 < 64 := by omega
        have t16 : ((k : Int) - 16).toNat = k - 16 := by omega
        have w15 : IntKind.i64.wrap ((k : Int) - 15) = (k : Int) - 15 := IntWalk.i64_in _ (by omega)
        have l15 : (15 : Int) ≤ (k : Int) := by omega
        have g15 : (k : Int) - 15 < 64 := by omega
        have t15 : ((k : Int) - 15).toNat = k - 15 := by omega
        have w7 : IntKind.i64.wrap ((k : Int) - 7) = (k : Int) - 7 := IntWalk.i64_in _ (by omega)
        have l7 : (7 : Int) ≤ (k : Int) := by omega
        have g7 : (k : Int) - 7 < 64 := by omega
        have t7 : ((k : Int) - 7).toNat = k - 7 := by omega
        have w2 : IntKind.i64.wrap ((k : Int) - 2) = (k : Int) - 2 := IntWalk.i64_in _ (by omega)
        have l2 : (2 : Int) ≤ (k : Int) := by omega
        have g2 : (k : Int) - 2 < 64 := by omega
        have t2 : ((k : Int) - 2).toNat = k - 2 := by omega
        go_quiet ((go_at_call 52; exact Calls.quiet_of_same (turn_int _ _ (by omega) _)))
        obtain ⟨wq, hq, c1, c2, c3, c4, c0, f0, HM⟩ : ∃ wq : World, wr.drewN nq = wq ∧ wq.cell? ⟨w.heap.size + 1 + 1, k - 16, none⟩ = some (vw ((sw p k).getD (k - 16) 0)) ∧ wq.cell? ⟨w.heap.size + 1 + 1, k - 15, none⟩ = some (vw ((sw p k).getD (k - 15) 0)) ∧ wq.cell? ⟨w.heap.size + 1 + 1, k - 7, none⟩ = some (vw ((sw p k).getD (k - 7) 0)) ∧ wq.cell? ⟨w.heap.size + 1 + 1, k - 2, none⟩ = some (vw ((sw p k).getD (k - 2) 0)) ∧ wq.cell? ⟨w.heap.size + 1 + 1, k, none⟩ = some (.int .u32 0) ∧ wq.frozen? ⟨w.heap.size + 1 + 1, k, none⟩ = false ∧ Hid (SInv w s (swArr p k) wq) := ⟨_, rfl, c1, c2, c3, c4, c0, f0, HM.out.drewN nq⟩
        rw [hq]; clear hq
        go_wp2_with fail
        go_quiet ((go_at_call 52; exact Calls.quiet_of_same (turn_int _ _ (by omega) _)))
        obtain ⟨wp, hq, c1, c2, c3, c4, c0, f0, HM⟩ : ∃ wp : World, wq.drewN nq = wp ∧ wp.cell? ⟨w.heap.size + 1 + 1, k - 16, none⟩ = some (vw ((sw p k).getD (k - 16) 0)) ∧ wp.cell? ⟨w.heap.size + 1 + 1, k - 15, none⟩ = some (vw ((sw p k).getD (k - 15) 0)) ∧ wp.cell? ⟨w.heap.size + 1 + 1, k - 7, none⟩ = some (vw ((sw p k).getD (k - 7) 0)) ∧ wp.cell? ⟨w.heap.size + 1 + 1, k - 2, none⟩ = some (vw ((sw p k).getD (k - 2) 0)) ∧ wp.cell? ⟨w.heap.size + 1 + 1, k, none⟩ = some (.int .u32 0) ∧ wp.frozen? ⟨w.heap.size + 1 + 1, k, none⟩ = false ∧ Hid (SInv w s (swArr p k) wp) := ⟨_, rfl, c1, c2, c3, c4, c0, f0, HM.out.drewN nq⟩
        rw [hq]; clear hq
        go_wp2_with fail
        refine wp_region_still_tail 15 (by kernel_rfl) (by kernel_rfl) ?_
        simp only [List.take_succ_cons, List.take_zero, List.drop_succ_cons, List.drop_zero]
        repeat still_step
        refine wpStill_nil ?_
        clear w16 l16 g16 t16 w15 l15 g15 t15 w7 l7 g7 t7 w2 l2 g2 t2
        clear c1 c2 c3 c4
        obtain ⟨c5, f5⟩ : wp.drew.cell? ⟨w.heap.size + 1 + 1, k, none⟩ = some (.int .u32 0) ∧ wp.drew.frozen? ⟨w.heap.size + 1 + 1, k, none⟩ = false := ⟨c0, f0⟩
        go_wp2_with fail
        go_roundw
        case rel =>
          refine ⟨k + 1, by omega, by go_num, HM.out.b0.drew.setOther (by simp; omega) _, HM.out.b1.drew.setOther (by simp) _, ?_, HM.out.bw.drew.setCell (by simp; omega) _⟩
          have := HM.out.b2.drew.set k (vw (swNext p (sw p k)))
          rw [swArr_set p k (by omega), sw_next_hi p k (by omega), add4] at this
          exact this
        case measure => simp [intOf]; omega
    · obtain rfl : k = 64 := by omega
      have HM := Lib.hid hM; clear hM
      rw [show (((64 : Nat) : Int)) = (64 : Int) from rfl]
      have hA0 : wr.rangeAt w.heap.size 0 s.cells := by
        have := HM.out.b0.range 0 8
        exact this
      have HA0 := Lib.hid hA0; clear hA0
      have HT8 : Hid ((wr.alloc (.cells nought8.toArray 58)).there wr.heap.size 0 8) := Lib.hid ((Blk.newAt (cs := nought8) _ _ _ rfl rfl).there 0 8 (Nat.le_refl _))
      go_wp2_with (first
        | ((with_reducible refine wpList_load_mid ?g1 58 (.tmp 2) ?g2 w.heap.size 0 ?g3 s.cells _ HA0.out Tryd.underlying58 ?g4 ?g5 ?_); (case g1 => rfl); (case g2 => rfl); (case g3 => rfl); (case g4 => rfl); (case g5 => exact info_st))
        | ((with_reducible refine wpList_store_mid ?r1 58 (.tmp 9) (.tmp 82) ?r2 wr.heap.size 0 s.cells.toArray ?r3 ?r4 ?r5 ?r6 (cells_oneCell _) ?_); (case r1 => rfl); (case r2 => rfl); (case r3 => rfl); (case r4 => rfl); (case r5 => exact HT8.out); (case r6 => exact info_st)))
      generalize hL : sw p 64 = L
      have HL := Lib.hid hL; clear hL
      have hLl : L.length = 64 := by rw [← HL.out, sw_length]
      generalize hW : World.setCells _ _ _ _ = W
      have hR : RInv w wr.heap.size s s L W := by
        rw [← hW]
        have h2 : Blk wr (w.heap.size + 1 + 1) (L.map vw) := by have := HM.out.b2; rw [swArr_full, HL.out] at this; exact this
        have hlt2 := h2.lt
        have hb : Below wr.heap.size wr ((wr.alloc (.cells nought8.toArray 58)).setCells wr.heap.size 0 s.cells) := below_setCells (Nat.le_refl _) _ ((Below.refl _ _).alloc (Nat.le_refl _) _) 0
        have hbw := HM.out.bw.trans (hb.mono (by omega))
        exact ⟨HM.out.b0.below hb (by omega), HM.out.b1.below hb (by omega), h2.below hb hlt2, (Blk.newAt (cs := nought8) _ _ _ rfl rfl).setAll rfl, hbw, HT.out.below hbw hG, hlt2⟩
      have HLl := Lib.hid hLl; clear hLl
      clear hW HM HA0 HT8
      obtain ⟨W, rfl⟩ : ∃ W' : World, W' = W := ⟨_, rfl⟩
      obtain ⟨B, hB, HR⟩ : ∃ B' : Nat, B' = wr.heap.size ∧ Hid (RInv w B' s s L W) := ⟨_, rfl, hR⟩
      rw [← hB]
      clear hR hB
      go_loopw [10] (fun i wr => ∃ (k : Nat) (r : St), k ≤ 64 ∧ i = .int .i64 k ∧ r = rnds L s k ∧ RInv w B s r L wr) (fun i _ => 64 - (intOf i).toNat)
      case atStart => exact ⟨0, s, by omega, rfl, (rnds_zero _ _).symm, HR.out⟩
      case round =>
        clear HR
        obtain ⟨k, r, hk, rfl, hr, hM⟩ := hrel
        have HR := Lib.hid hr; clear hr
        by_cases hlt : k < 64
        · obtain ⟨c0, c1, c2, c3, c4, c5, c6, c7, d0, d1, k0, k1, HM⟩ : wr.cell? ⟨B, 0, none⟩ = some (vw r.a) ∧ wr.cell? ⟨B, 1, none⟩ = some (vw r.b) ∧ wr.cell? ⟨B, 2, none⟩ = some (vw r.c) ∧ wr.cell? ⟨B, 3, none⟩ = some (vw r.d) ∧ wr.cell? ⟨B, 4, none⟩ = some (vw r.e) ∧ wr.cell? ⟨B, 5, none⟩ = some (vw r.f) ∧ wr.cell? ⟨B, 6, none⟩ = some (vw r.g) ∧ wr.cell? ⟨B, 7, none⟩ = some (vw r.h) ∧ wr.cell? ⟨1, k, none⟩ = some (vw (KL.getD k 0)) ∧ wr.cell? ⟨w.heap.size + 1 + 1, k, none⟩ = some (vw (L.getD k 0)) ∧ (0 : Int) ≤ (k : Int) ∧ (k : Int) < 64 ∧ Hid (RInv w B s r L wr) :=
            ⟨hM.b3.at rfl, hM.b3.at rfl, hM.b3.at rfl, hM.b3.at rfl, hM.b3.at rfl, hM.b3.at rfl, hM.b3.at rfl, hM.b3.at rfl, hM.tab k hlt, hM.b2.at (words_at L k (by rw [HLl.out]; exact hlt)), by omega, by omega, hM⟩
          clear hM
          go_wp2_with fail
          go_quiet ((go_at_call 52; exact Calls.quiet_of_same (turn_int _ _ (by omega) _)))
          obtain ⟨wq, hq, c0, c1, c2, c3, c4, c5, c6, c7, d0, d1, HM⟩ : ∃ wq : World, wr.drewN nq = wq ∧ wq.cell? ⟨B, 0, none⟩ = some (vw r.a) ∧ wq.cell? ⟨B, 1, none⟩ = some (vw r.b) ∧ wq.cell? ⟨B, 2, none⟩ = some (vw r.c) ∧ wq.cell? ⟨B, 3, none⟩ = some (vw r.d) ∧ wq.cell? ⟨B, 4, none⟩ = some (vw r.e) ∧ wq.cell? ⟨B, 5, none⟩ = some (vw r.f) ∧ wq.cell? ⟨B, 6, none⟩ = some (vw r.g) ∧ wq.cell? ⟨B, 7, none⟩ = some (vw r.h) ∧ wq.cell? ⟨1, k, none⟩ = some (vw (KL.getD k 0)) ∧ wq.cell? ⟨w.heap.size + 1 + 1, k, none⟩ = some (vw (L.getD k 0)) ∧ Hid (RInv w B s r L wq) := ⟨_, rfl, c0, c1, c2, c3, c4, c5, c6, c7, d0, d1, HM.out.drewN nq⟩
          rw [hq]; clear hq
          go_wp2_with fail
          go_quiet ((go_at_call 52; exact Calls.quiet_of_same (turn_int _ _ (by omega) _)))
          obtain ⟨wp, hq, c0, c1, c2, c3, c4, c5, c6, c7, d0, d1, HM⟩ : ∃ wp : World, wq.drewN nq = wp ∧ wp.cell? ⟨B, 0, none⟩ = some (vw r.a) ∧ wp.cell? ⟨B, 1, none⟩ = some (vw r.b) ∧ wp.cell? ⟨B, 2, none⟩ = some (vw r.c) ∧ wp.cell? ⟨B, 3, none⟩ = some (vw r.d) ∧ wp.cell? ⟨B, 4, none⟩ = some (vw r.e) ∧ wp.cell? ⟨B, 5, none⟩ = some (vw r.f) ∧ wp.cell? ⟨B, 6, none⟩ = some (vw r.g) ∧ wp.cell? ⟨B, 7, none⟩ = some (vw r.h) ∧ wp.cell? ⟨1, k, none⟩ = some (vw (KL.getD k 0)) ∧ wp.cell? ⟨w.heap.size + 1 + 1, k, none⟩ = some (vw (L.getD k 0)) ∧ Hid (RInv w B s r L wp) := ⟨_, rfl, c0, c1, c2, c3, c4, c5, c6, c7, d0, d1, HM.out.drewN nq⟩
          rw [hq]; clear hq
          have HT9 := Lib.hid (HM.out.b3.there 0 8 (Nat.le_refl _))
          go_wp2_with ((with_reducible refine wpList_store_mid ?v1 58 (.tmp 9) (.tmp 164) ?v2 B 0 (rnd (KL.getD k 0) (L.getD k 0) r).cells.toArray ?v3 ?v4 ?v5 ?v6 (cells_oneCell _) ?_); (case v1 => rfl); (case v2 => rfl); (case v3 => rfl); (case v4 => rfl); (case v5 => exact HT9.out); (case v6 => exact info_st); simp only [Act.put])
          go_roundw
          case rel =>
            have hB := HM.out.lt
            have hb : Below B wp (wp.setCells B 0 (rnd (KL.getD k 0) (L.getD k 0) r).cells) := below_setCells (Nat.le_refl _) _ (Below.refl _ _) 0
            exact ⟨k + 1, rnd (KL.getD k 0) (L.getD k 0) r, by omega, by go_num, by rw [HR.out, rnds_succ], HM.out.b0.below hb (by omega), HM.out.b1.below hb (by omega), HM.out.b2.below hb (by omega), HM.out.b3.setAll rfl, HM.out.bw.trans (hb.mono (by omega)), HM.out.tab.below hb (by omega), HM.out.lt⟩
          case measure => simp [intOf]; omega
        · obtain rfl : k = 64 := by omega
          have HM := Lib.hid hM; clear hM
          rw [show (((64 : Nat) : Int)) = (64 : Int) from rfl]
          go_wp2_with fail
          have HA : Hid (AInv w B (addArr s r 0) r wr) := by rw [addArr_zero]; exact ⟨HM.out.b0, HM.out.b1, HM.out.b3, HM.out.bw, HM.out.lt⟩
          clear HM
          go_loopw [165] (fun i wr => ∃ k : Nat, k ≤ 8 ∧ i = .int .i64 k ∧ AInv w B (addArr s r k) r wr) (fun i _ => 8 - (intOf i).toNat)
          case atStart => exact ⟨0, by omega, rfl, HA.out⟩
          case round =>
            clear HA
            obtain ⟨k, hk, rfl, hM⟩ := hrel
            by_cases hlt : k < 8
            · obtain ⟨d0, f0, d1, k0, k1⟩ : wr.cell? ⟨w.heap.size, k, none⟩ = some (vw (s.list.getD k 0)) ∧ wr.frozen? ⟨w.heap.size, k, none⟩ = false ∧ wr.cell? ⟨B, k, none⟩ = some (vw (r.list.getD k 0)) ∧ (0 : Int) ≤ (k : Int) ∧ (k : Int) < 8 := ⟨hM.b0.at (addArr_at _ r k hlt), hM.b0.free k, hM.b3.at (cells_at r k hlt), by omega, by omega⟩
              have HM := Lib.hid hM; clear hM
              go_wp2_with fail
              refine wp_region_still_tail 8 (by kernel_rfl) (by kernel_rfl) ?_
              simp only [List.take_succ_cons, List.take_zero, List.drop_succ_cons, List.drop_zero]
              repeat still_step
              refine wpStill_nil ?_
              obtain ⟨d5, f5⟩ : wr.drew.cell? ⟨w.heap.size, k, none⟩ = some (vw (s.list.getD k 0)) ∧ wr.drew.frozen? ⟨w.heap.size, k, none⟩ = false := ⟨d0, f0⟩
              go_wp2_with fail
              go_roundw
              case rel =>
                have hB := HM.out.lt
                refine ⟨k + 1, by omega, by go_num, ?_, HM.out.b1.drew.setOther (by simp) _, HM.out.b3.drew.setOther (by simp; omega) _, HM.out.bw.drew.setCell (Nat.le_refl _) _, hB⟩
                have := HM.out.b0.drew.set k (vw (s.list.getD k 0 + r.list.getD k 0))
                rw [addArr_set _ r k hlt] at this
                exact this
              case measure => simp [intOf]; omega
            · obtain rfl : k = 8 := by omega
              have HM := Lib.hid hM; clear hM
              rw [show (((8 : Nat) : Int)) = (8 : Int) from rfl]
              have hA8 : wr.rangeAt w.heap.size 0 (s.add r).cells := by
                have := HM.out.b0.range 0 8
                rw [addArr_full] at this
                exact this
              have HA8 := Lib.hid hA8; clear hA8
              have HT8 := Lib.hid (HM.out.b1.there 0 8 (Nat.le_refl _))
              go_wp2_with (first
                | ((with_reducible refine wpList_load_mid ?a1 58 (.tmp 2) ?a2 w.heap.size 0 ?a3 (s.add r).cells _ HA8.out Tryd.underlying58 ?a4 ?a5 ?_); (case a1 => rfl); (case a2 => rfl); (case a3 => rfl); (case a4 => rfl); (case a5 => exact info_st))
                | ((with_reducible refine wpList_store_mid ?b1 58 (.tmp 4) (.tmp 177) ?b2 (w.heap.size + 1) 0 (s.add r).cells.toArray ?b3 ?b4 ?b5 ?b6 (cells_oneCell _) ?_); (case b1 => rfl); (case b2 => rfl); (case b3 => rfl); (case b4 => rfl); (case b5 => exact HT8.out); (case b6 => exact info_st)))
              obtain ⟨t, ht⟩ := HM.out.b1.setAll (vs := (s.add r).cells) rfl
              refine bodyPost_ret (v := .agg (s.add r).cells.toArray) ?_ rfl ?_
              · exact results_cell_row rfl _ _ (w.heap.size + 1) t _ _ _ rfl ht Tryd.underlying58 rfl info_st
              · refine ⟨?_, below_setCells (Nat.le_succ _) _ HM.out.bw 0⟩
                rw [HR.out, ← HL.out]; unfold compress; rfl
end Go.Proofs.YteadncmhcbdicaaDoor
namespace Go.Proofs.YteadncmhcbdicaaDoor
open Go.RowKit
/-- What stands in the row when j bytes are written from behind. -/
def bfill (N k j : Nat) : List UInt8 := List.replicate (k - j) 0 ++ be N j
theorem bfill_len (N k j : Nat) (h : j ≤ k) : (bfill N k j).length = k := by unfold bfill; rw [List.length_append, List.length_replicate, be_length]; omega
theorem bfill_full (N k : Nat) : bfill N k k = be N k := by unfold bfill; simp
theorem bfill_set (N k j i : Nat) (h : i + j + 1 = k) : (bfill N k j).set i (UInt8.ofNat (N / 256 ^ j)) = bfill N k (j + 1) := by
  unfold bfill
  have e : be N (j + 1) = UInt8.ofNat (N / 256 ^ j) :: be N j := by rw [Nat.add_comm j 1, be_add]; rfl
  rw [e, show k - j = i + 1 by omega, show k - (j + 1) = i by omega, List.replicate_succ', List.append_assoc, List.set_append_right _ _ (by simp), List.length_replicate, Nat.sub_self]
  rfl
theorem byte_of (X : Nat) : (X : Int) % 256 = bn (UInt8.ofNat X) := by unfold bn; rw [UInt8.toNat_ofNat']; omega
attribute [irreducible] bfill
set_option maxRecDepth 100000 in
set_option maxHeartbeats 1000000 in
theorem refBytes_any (N k : Nat) (w : World) (hN : N < 18446744073709551616) (hk : k ≤ 1000) :
    Calls Tryd.prog 39 #[.int .u64 (N : Int), .int .i64 (k : Int)] w fun e w' => ∃ v', e = .returned v' ∧ OwnB w' w.heap.size v' (be N k) ∧ Below w.heap.size w w' := by
  have hmk := make_bytes k k (Nat.le_refl _) (by omega) w
  have hO : OwnB (w.alloc (.cells (noughts k) 5)) w.heap.size (.slice (some ⟨w.heap.size, 0, none⟩) k k) (bfill N k 0) :=
    OwnB.of_heap (Nat.le_refl _) (heap_alloc_new w _) (noughts_size _) (by unfold maxLen; omega) (bfill_len _ _ _ (by omega)) (by rw [noughts_list, List.take_of_length_le (by simp)]; unfold bfill; simp [be]) (Nat.le_refl _)
  have HO := Lib.hid hO; clear hO
  go_enter Tryd.func39, Tryd.ntmps39
  go_wp2_with fail
  clear hmk
  go_loopw [0, 6] (fun x i wr => ∃ j : Nat, j ≤ k ∧ i = .int .i64 ((k : Int) - 1 - (j : Int)) ∧ x = .int .u64 ((N / 256 ^ j : Nat) : Int) ∧ OwnB wr w.heap.size (.slice (some ⟨w.heap.size, 0, none⟩) k k) (bfill N k j) ∧ Below w.heap.size w wr) (fun _ i _ => (intOf i + 1).toNat)
  case atStart => exact ⟨0, by omega, by simp, by simp, HO.out, (Below.refl _ _).alloc (Nat.le_refl _) _⟩
  case round =>
    obtain ⟨j, hj, rfl, rfl, hO2, hB⟩ := hrel
    have HO2 := Lib.hid hO2
    have HB := Lib.hid hB; clear hB
    obtain ⟨X, hX⟩ : ∃ X, X = N / 256 ^ j := ⟨_, rfl⟩
    have hXN : X ≤ N := by rw [hX]; exact Nat.div_le_self _ _
    have hX2 : X / 256 = N / 256 ^ (j + 1) := by rw [hX, Nat.div_div_eq_div_mul, Nat.pow_succ]
    rw [← hX]
    have HX2 := Lib.hid hX2; clear hX2
    by_cases hlt : j < k
    · obtain ⟨i, hi⟩ : ∃ i, i + j + 1 = k := ⟨k - 1 - j, by omega⟩
      have he : (k : Int) - 1 - (j : Int) = (i : Int) := by omega
      have hset := bfill_set N k j i hi
      rw [← hX] at hset
      have HS := Lib.hid hset; clear hset
      obtain ⟨x0, hx0⟩ : ∃ x0, (bfill N k j)[i]? = some x0 := ⟨_, List.getElem?_eq_getElem (by rw [bfill_len _ _ _ hj]; omega)⟩
      obtain ⟨hc, hf⟩ := hO2.getAt i x0 hx0
      have hbx := byte_of X
      have HX := Lib.hid hX; clear hX hx0 hO2
      rw [he]
      have HE := Lib.hid he; clear he
      have hik : (i : Int) < (k : Int) := by omega
      go_wp2_with fail
      exact ⟨⟨j + 1, by omega, by congr 1; omega, by rw [← HX2.out]; congr 1, by rw [← HS.out]; exact HO2.out.setAt i (UInt8.ofNat X), HB.out.setCell (Nat.le_refl _) _⟩, by simp [intOf]⟩
    · obtain rfl : j = k := by omega
      rw [bfill_full] at HO2
      clear hO2
      have he : (j : Int) - 1 - (j : Int) = -1 := by omega
      rw [he]
      go_wp2_with fail
      go_ret
      exact ⟨_, rfl, HO2.out, HB.out⟩
end Go.Proofs.YteadncmhcbdicaaDoor
set_option maxRecDepth 100000
namespace Go.Proofs.YteadncmhcbdicaaDoor
open Go.RowKit
set_option maxRecDepth 100000 in
set_option maxHeartbeats 1000000 in
theorem refTail_any (n : Nat) (w : World) : Calls Tryd.prog 29 #[.int .u64 (un n)] w fun e w' => ∃ v', e = .returned v' ∧ OwnB w' w.heap.size v' (padl n) ∧ Below w.heap.size w w' := by
  have h0 := (un_range n).1
  obtain ⟨r, hrr⟩ : ∃ r, r = n % 64 := ⟨_, rfl⟩
  have hr : r < 64 := by omega
  have hmod : un n % (64 : Int) = (r : Int) := by rw [hrr]; unfold un; omega
  have HP : Hid (padl n = 128 :: List.replicate ((119 - r) % 64) 0 ++ be (n * 8) 8) := Lib.hid (by rw [hrr]; unfold padl; rfl)
  obtain ⟨M, hM⟩ : ∃ M, M = n * 8 % 18446744073709551616 := ⟨_, rfl⟩
  have hm8 : IntKind.u64.wrap (un n * 8) = (M : Int) := by rw [hM]; exact un_mul n 8
  have HMB : Hid (be M 8 = be (n * 8) 8) := Lib.hid (by rw [hM]; exact be_mod (n * 8) 8)
  have hMl : M < 18446744073709551616 := by rw [hM]; exact Nat.mod_lt _ (by decide)
  clear hM
  obtain ⟨z, hz⟩ : ∃ z, z = (119 - r) % 64 := ⟨_, rfl⟩
  have hzr : z < 64 ∧ (r + 1 + z) % 64 = 56 := by omega
  have hzj : ∀ j, j < z → (r + 1 + j) % 64 ≠ 56 := by omega
  rw [← hz] at HP
  have HM := Lib.hid hm8; clear hm8
  have HZJ := Lib.hid hzj; clear hzj hrr hz
  go_enter Tryd.func29, Tryd.ntmps29
  go_wp2_with fail
  try rw [hmod]
  clear hmod
  go_loopw [3, 4] (fun u k wr => ∃ j : Nat, j ≤ z ∧ k = .int .u64 ((r : Int) + 1 + (j : Int)) ∧ OwnB wr w.heap.size u (128 :: List.replicate j 0) ∧ Below w.heap.size w wr) (fun _ k _ => 200 - (intOf k).toNat)
  case atStart =>
    refine ⟨0, by omega, by simp, ?_, (Below.refl _ _).alloc (Nat.le_refl _) _⟩
    exact OwnB.of_heap (cur := #[vb 128]) (n := 1) (Nat.le_refl _) (heap_alloc_new w _) rfl (by unfold maxLen; omega) rfl rfl (by omega)
  case round =>
    obtain ⟨j, hj, rfl, hO, hB⟩ := hrel
    have HO := Lib.hid hO; clear hO
    have HB := Lib.hid hB; clear hB
    by_cases hlt : j < z
    · have hne := HZJ.out j hlt
      have hne' : (((r : Int) + 1 + (j : Int)) % 64 == 56) = false := by
        rw [beq_eq_false_iff_ne]; omega
      have hne2 : (((r : Int) + 1 + (j : Int)) % 64 != 56) = true := by rw [bne, hne']; rfl
      have HN : Hid ((128 :: List.replicate j 0 ++ [0] : List UInt8) = 128 :: List.replicate (j + 1) 0) := Lib.hid (by rw [List.replicate_succ']; rfl)
      clear hne
      go_wp2_with (at_builtin; ((with_reducible refine wpList_app ?g1 (.tmp 14) (.tmp 15) ?g2 w.heap.size u3 (128 :: List.replicate j 0) [0] ?g3 ?g4 wr.heap.size 0 1 1 ?g5 ?g6 ?g7 ?g8 ?g9 ?_); (case g1 => rfl); (case g2 => rfl); (case g3 => rfl); (case g4 => exact HO.out.below ((Below.refl _ _).alloc (Nat.le_refl _) _)); (case g5 => rfl); (case g6 => rfl); (case g7 => exact Bs.of_blk (Blk.newA _ _ _) 0 (fun j hj => by match j, hj with | 0, _ => rfl)); (case g8 => simp; omega); (case g9 => have := HB.out.size; simp; omega); intro v' w1 hv hg; have Hv := Lib.hid hv; clear hv; have Hg := Lib.hid (OwnB.belowBase (w := wr.alloc _) (HO.out.below ((Below.refl wr.heap.size wr).alloc (Nat.le_refl _) _)) hg (by have := HB.out.size; simp; omega)); clear hg))
      go_roundw
      case rel => exact ⟨j + 1, by omega, by go_num, by rw [← HN.out]; exact Hv.out, (HB.out.alloc HB.out.size _).trans Hg.out⟩
      case measure => simp [intOf]; omega
    · obtain rfl : j = z := by omega
      have he : (((r : Int) + 1 + (j : Int)) % 64 == 56) = true := by rw [beq_iff_eq]; omega
      have he2 : (((r : Int) + 1 + (j : Int)) % 64 != 56) = false := by rw [bne, he]; rfl
      have hm8 := HM.out
      go_wp2_with fail
      refine (refBytes_any M 8 wr hMl (by omega)).mono ?_
      rintro e w1 ⟨v1, rfl, hO1, hB1⟩
      rw [HMB.out] at hO1
      have HO1 := Lib.hid hO1.sl; clear hO1
      have HOu := Lib.hid (HO.out.below hB1)
      have HB1 := Lib.hid (HB.out.trans (hB1.mono HB.out.size)); clear hB1 hm8
      go_wp2_with (at_builtin; ((with_reducible refine wpList_app_sl ?f1 (.tmp 17) (.tmp 20) ?f2 w.heap.size u3 (128 :: List.replicate j 0) (be (n * 8) 8) ?f3 ?f4 w1.heap.size v1 ?f5 ?f6 ?f7 ?f8 ?_); (case f1 => rfl); (case f2 => rfl); (case f3 => rfl); (case f4 => exact HOu.out); (case f5 => rfl); (case f6 => exact HO1.out); (case f7 => rw [be_length]; simp; omega); (case f8 => exact HB1.out.size); intro v' w2 hv hg; have Hv := Lib.hid hv; clear hv; have Hg := Lib.hid (HOu.out.belowBase hg HB1.out.size); clear hg))
      go_ret
      exact ⟨_, rfl, by rw [HP.out]; exact Hv.out, HB1.out.trans Hg.out⟩
end Go.Proofs.YteadncmhcbdicaaDoor
set_option maxRecDepth 100000
namespace Go.Proofs.YteadncmhcbdicaaDoor
open Go.RowKit
theorem zero_st (W : World) : (zeroValue 58).run Tryd.prog W = .ok (.agg #[.int .u32 0, .int .u32 0, .int .u32 0, .int .u32 0, .int .u32 0, .int .u32 0, .int .u32 0, .int .u32 0]) W := by kernel_rfl
set_option maxRecDepth 100000 in
set_option maxHeartbeats 1000000 in
theorem refFirst_any (w : World) : Calls Tryd.prog 28 #[] w fun e w' => e = .returned (.agg St.first.cells.toArray) ∧ Below w.heap.size w w' := by
  have hz := zero_st
  go_enter Tryd.func28, Tryd.ntmps28
  go_wp2_with fail
  exact bodyPost_ret (v := .agg #[.int .u32 1779033703, .int .u32 3144134277, .int .u32 1013904242, .int .u32 2773480762, .int .u32 1359893119, .int .u32 2600822924, .int .u32 528734635, .int .u32 1541459225]) (by simp [results, Tryd.results28, go_sem]) rfl ⟨rfl, (Below.refl _ _).alloc (Nat.le_refl _) _⟩
set_option maxRecDepth 100000 in
set_option maxHeartbeats 1000000 in
theorem refOut_any (s : St) (w : World) : Calls Tryd.prog 30 #[.agg s.cells.toArray] w fun e w' => ∃ v', e = .returned v' ∧ OwnB w' w.heap.size v' (wbs s.list) ∧ Below w.heap.size w w' := by
  go_enter Tryd.func30, Tryd.ntmps30
  go_wp2_with fail
  go_loopw [3, 7] (fun u i wr => ∃ k : Nat, k ≤ 8 ∧ i = .int .i64 k ∧ OwnB wr w.heap.size u (wbs (s.list.take k)) ∧ Below w.heap.size w wr) (fun _ i _ => 8 - (intOf i).toNat)
  case atStart => exact ⟨0, by omega, rfl, by simpa [wbs] using OwnB.nil _ _, (Below.refl _ _).alloc (Nat.le_refl _) _⟩
  case round =>
    obtain ⟨k, hk, rfl, hO, hB⟩ := hrel
    have HO := Lib.hid hO; clear hO
    have HB := Lib.hid hB; clear hB
    by_cases hlt : k < 8
    · have hx := index8s s k hlt
      obtain ⟨x, hxx⟩ : ∃ x, x = s.list.getD k 0 := ⟨_, rfl⟩
      rw [← hxx] at hx
      have HN : Hid (wbs (s.list.take (k + 1)) = wbs (s.list.take k) ++ wb x) := Lib.hid (by rw [wbs_take _ _ (show k < s.list.length from hlt), hxx])
      have hwr := wn_range x
      have hlen : (wbs (s.list.take k)).length ≤ 1000 := by rw [wbs_length, List.length_take]; omega
      clear hxx
      go_wp2_with fail
      refine (refBytes_any x.toNat 4 wr (by have := x.isLt; omega) (by omega)).mono ?_
      rintro e w1 ⟨v1, rfl, hO1, hB1⟩
      rw [← wb_be] at hO1
      have HO1 := Lib.hid hO1.sl; clear hO1
      have HOu := Lib.hid (HO.out.below hB1)
      have HB1 := Lib.hid (HB.out.trans (hB1.mono HB.out.size)); clear hB1
      go_wp2_with (at_builtin; ((with_reducible refine wpList_app_sl ?f1 (.tmp 10) (.tmp 13) ?f2 w.heap.size u3 (wbs (s.list.take k)) (wb x) ?f3 ?f4 w1.heap.size v1 ?f5 ?f6 ?f7 ?f8 ?_); (case f1 => rfl); (case f2 => rfl); (case f3 => rfl); (case f4 => exact HOu.out); (case f5 => rfl); (case f6 => exact HO1.out); (case f7 => rw [wb_length]; omega); (case f8 => exact HB1.out.size); intro v' w2 hv hg; have Hv := Lib.hid hv; clear hv; have Hg := Lib.hid (HOu.out.belowBase hg HB1.out.size); clear hg))
      go_roundw
      case rel => exact ⟨k + 1, by omega, by go_num, by rw [HN.out]; exact Hv.out, HB1.out.trans Hg.out⟩
      case measure => simp [intOf]; omega
    · obtain rfl : k = 8 := by omega
      go_wp2_with fail
      go_ret
      exact ⟨_, rfl, HO.out, HB.out⟩
end Go.Proofs.YteadncmhcbdicaaDoor
set_option maxRecDepth 100000
namespace Go.Proofs.YteadncmhcbdicaaDoor
open Go.RowKit
theorem run_from (pb po plen pcap k : Nat) (K : Int) (hK : K = (k : Int)) (hk : k ≤ plen) : ∃ o', (∀ (W : World), (Instr.sliceAt 26 (.slice (some ⟨pb, po, none⟩) plen pcap) (some (.int .i64 K)) none none).run Tryd.prog W = .ok (.slice (some ⟨pb, o', none⟩) (plen - k) (pcap - k)) W) ∧ (k < pcap → o' = po + k) := by
  subst hK
  have h1 : (k : Int) ≤ (plen : Int) := by omega
  by_cases h : pcap = k
  · exact ⟨po, fun W => by simp [go_sem, h1, h], fun h' => by omega⟩
  · exact ⟨po + k, fun W => by simp [go_sem, h1, h], fun _ => rfl⟩
theorem wpOp_loadMidD {P : Program} {ops : Array Oper} {Q : Exit → Act → World → Prop} {K : Act → World → Prop} {a : Act} {w : World} {i : Nat} {op : Oper} (dt : Tmp) (hi : ops[i]? = some op) (hdt : op.dst = some dt) (hw : Region.wanted op (yielded ops a.tmps) = true) (ty : TypeId) (x : Operand) (ho : op.op = .load ty x)
    (b o : Nat) (hx : a.eval x = .pointer (some ⟨b, o, none⟩)) (cs : List Value) (d : TypeDesc) (hc : w.rangeAt b o cs)
    (hu : P.underlying ty = some d) (hd : d.isRow = true) (hinf : (P.info? ty).map (·.size) = some cs.length) (h : K (a.put (some dt) (.agg cs.toArray)) w) : wpOp P ops Q i K a w :=
  wpOp_of_wp hi hw (wp_load_mid ty x ho b o hx cs d hc hu hd hinf (by rw [hdt]; exact h))
theorem Blk.st8 {W : World} {b : Nat} {s : St} (h : Blk W b s.cells) :
    W.cell? ⟨b, 0, none⟩ = some (vw s.a) ∧ W.cell? ⟨b, 1, none⟩ = some (vw s.b) ∧ W.cell? ⟨b, 2, none⟩ = some (vw s.c) ∧ W.cell? ⟨b, 3, none⟩ = some (vw s.d) ∧ W.cell? ⟨b, 4, none⟩ = some (vw s.e) ∧ W.cell? ⟨b, 5, none⟩ = some (vw s.f) ∧ W.cell? ⟨b, 6, none⟩ = some (vw s.g) ∧ W.cell? ⟨b, 7, none⟩ = some (vw s.h) :=
  ⟨h.at rfl, h.at rfl, h.at rfl, h.at rfl, h.at rfl, h.at rfl, h.at rfl, h.at rfl⟩
theorem Blk.st_range {W : World} {b : Nat} {s : St} (h : Blk W b s.cells) : W.rangeAt b 0 s.cells := h.range 0 8
structure GoIn (w : World) (B : Nat) (s : St) (l : List UInt8) (wr : World) (u : Value) (j : Nat) : Prop where
  le : 64 * j ≤ l.length
  sl : Sl wr w.heap.size u (l.drop (64 * j))
  box : Blk wr B (runN s l j).cells
  below : Below w.heap.size w wr
  lt : B < wr.heap.size
set_option maxRecDepth 100000 in
set_option maxHeartbeats 1000000 in
theorem refGo_any (s : St) (v : Value) (l : List UInt8) (w : World) (hT : TabB w) (hG : 1 < w.heap.size) (hs : Sl w w.heap.size v l) (hl : l.length ≤ 1000000) :
    Calls Tryd.prog 27 #[.agg s.cells.toArray, v] w fun e w' => ∃ v', e = .returned (.tuple #[.agg (stOf s l).cells.toArray, v']) ∧ Sl w' w.heap.size v' (restOf l) ∧ Below w.heap.size w w' := by
  have hz := zero_st
  have HT := Lib.hid hT; clear hT
  have HS := Lib.hid hs; clear hs
  go_enter Tryd.func27, Tryd.ntmps27
  go_wp2_with fail
  clear hz
  have hb1 : Below w.heap.size w ((w.alloc (.cells s.cells.toArray 58)).alloc (.cells #[.int .u32 0, .int .u32 0, .int .u32 0, .int .u32 0, .int .u32 0, .int .u32 0, .int .u32 0, .int .u32 0] 58)) := ((Below.refl _ _).alloc (Nat.le_refl _) _).alloc (by simp) _
  go_loopw [1] (fun u wr => ∃ j : Nat, GoIn w w.heap.size s l wr u j ∧ Blk wr (w.heap.size + 1) [.int .u32 0, .int .u32 0, .int .u32 0, .int .u32 0, .int .u32 0, .int .u32 0, .int .u32 0, .int .u32 0]) (fun u _ => match u with | .slice _ n _ => n | _ => 0)
  case atStart =>
    refine ⟨0, ⟨by omega, by simpa using HS.out.below hb1 (Nat.le_refl _), ?_, hb1, by simp; omega⟩, ?_⟩
    · rw [runN_zero]; exact (Blk.newAt w s.cells.toArray _ rfl rfl).alloc _
    · exact Blk.newAt _ _ _ (by simp) rfl
  case round =>
    obtain ⟨j, hI, hb2⟩ := hrel
    have HI := Lib.hid hI
    have HB2 := Lib.hid hb2; clear hb2
    obtain ⟨q, hq⟩ : ∃ q, q = l.drop (64 * j) := ⟨_, rfl⟩
    have hql : q.length = l.length - 64 * j := by rw [hq, List.length_drop]
    have hsq := hI.sl
    rw [← hq] at hsq
    obtain ⟨A, c, rfl, k0, k1, k2, k3⟩ := hsq
    have HK0 := Lib.hid k0; clear k0
    obtain ⟨S', hS'⟩ : ∃ S', S' = runN s l j := ⟨_, rfl⟩
    clear hI
    by_cases hlt : 64 ≤ q.length
    · obtain ⟨b, o, rfl, hb, hbs⟩ := k3 (by omega)
      obtain ⟨o2, hrun, ho2⟩ := run_from b o q.length c 64 64 rfl hlt
      have HBS := Lib.hid hbs; clear hbs k3
      have HO2 := Lib.hid ho2; clear ho2
      have HQ := Lib.hid hq; clear hq
      have HS' := Lib.hid hS'; clear hS'
      have HQL := Lib.hid hql; clear hql
      have hge : (64 : Int) ≤ (q.length : Int) := by omega
      have hge2 : (64 : Int) ≤ (c : Int) := by omega
      obtain ⟨q8, hq8⟩ : ∃ q8, q8 = q.take 64 := ⟨_, rfl⟩
      obtain ⟨S2, hS2⟩ : ∃ S2, S2 = compress S' q8 := ⟨_, rfl⟩
      have hst : Hid (Calls Tryd.prog 38 #[.agg S'.cells.toArray, .slice (some ⟨b, o, none⟩) 64 c] wr.drew fun e w' => e = .returned (.agg S2.cells.toArray) ∧ Below wr.heap.size wr w') := Lib.hid (by
        rw [hS2]
        exact (step_any S' b o c q8 wr.drew (HT.out.below HI.out.below.drew hG) (by have := HI.out.below.size; show _ < wr.heap.size; omega) (by rw [hq8, List.length_take]; omega) (by have := HI.out.below.size; show _ < wr.heap.size; omega) (by rw [hq8]; exact HBS.out.take _) (by omega) k2).mono fun e w' ⟨he, hb⟩ => ⟨he, ((Below.refl wr.heap.size wr).drew).trans hb⟩)
      have HS2 : Hid (S2 = runN s l (j + 1)) := Lib.hid (by rw [hS2, hq8, HS'.out, HQ.out, runN_succ])
      clear hS2 hq8
      have hbox : Blk wr w.heap.size S'.cells := by rw [HS'.out]; exact HI.out.box
      have HBX := Lib.hid hbox; clear hbox
      go_wp2_with fail
      refine wp_region_noPanic ?_
      refine wp_region_held (S := fun _ => True) (by kernel_rfl) ?_
      change wpAnyH _ _ _ _ _ _ _ _ wr.drew
      refine takeH 1 10 (Value.slice (some ⟨b, o, none⟩) q.length c) rfl rfl (by kernel_rfl) (by kernel_rfl) (by kernel_rfl) (fun _ _ _ h => h) rfl (fun w' hS => by go_simp) trivial ?_
      go_frame
      refine takeH 2 11 (Value.slice (some ⟨b, o, none⟩) 64 c) rfl rfl (by kernel_rfl) (by kernel_rfl) (by kernel_rfl) (fun _ _ _ h => h) rfl (fun w' hS => by go_simp) trivial ?_
      go_frame
      refine takeH 4 13 (Value.slice (some ⟨b, o, none⟩) q.length c) rfl rfl (by kernel_rfl) (by kernel_rfl) (by kernel_rfl) (fun _ _ _ h => h) rfl (fun w' hS => by go_simp) trivial ?_
      go_frame
      refine takeH 5 14 (Value.slice (some ⟨b, o2, none⟩) (q.length - 64) (c - 64)) rfl rfl (by kernel_rfl) (by kernel_rfl) (by kernel_rfl) (fun _ _ _ h => h) rfl (fun w' hS => by go_simp) trivial ?_
      go_frame
      refine wpAnyH_all (rs := [0]) (by kernel_rfl) (by simp) ?_
      simp only [List.mem_singleton, forall_eq]
      refine wpOp_loadMidD 9 rfl rfl rfl 58 (.tmp 2) rfl w.heap.size 0 rfl S'.cells _ HBX.out.st_range Tryd.underlying58 rfl info_st ⟨trivial, ?_⟩
      go_frame
      refine wpAnyH_all (rs := [3]) (by kernel_rfl) (by simp) ?_
      simp only [List.mem_singleton, forall_eq]
      refine wpOp_callD 12 rfl rfl rfl 38 #[.agg S'.cells.toArray, .slice (some ⟨b, o, none⟩) 64 c] (by go_simp) ?_
      refine hst.out.mono ?_
      rintro e w2 ⟨rfl, hB2⟩
      refine ⟨_, rfl, trivial, ?_⟩
      go_frame
      refine wpAnyH_all (rs := [6]) (by kernel_rfl) (by simp) ?_
      simp only [List.mem_singleton, forall_eq]
      have hx2 := HBX.out.below hB2 HI.out.lt
      refine wpOp_storeN rfl rfl rfl 58 (.tmp 2) (.tmp 12) rfl w.heap.size 0 S2.cells.toArray rfl rfl (hx2.there 0 8 (Nat.le_refl _)) info_st (cells_oneCell _) ⟨trivial, ?_⟩
      refine takeH 7 1 (Value.slice (some ⟨b, o2, none⟩) (q.length - 64) (c - 64)) rfl rfl (by kernel_rfl) (by kernel_rfl) (by kernel_rfl) (fun _ _ _ h => h) rfl (fun w' hS => by go_simp) trivial ?_
      go_frame
      refine wpAnyH_done (by kernel_rfl) ?_ _
      refine NoPanic.normal ?_
      have hx3 := hx2.setAll (vs := S2.cells) rfl
      have hB3 : Below w.heap.size w (w2.setCells w.heap.size 0 S2.cells) := below_setCells (Nat.le_refl _) _ (HI.out.below.trans (hB2.mono HI.out.below.size)) 0
      have hB23 : wr.grownBy (w2.setCells w.heap.size 0 S2.cells) (some w.heap.size) := (grown_of_below hB2 _).trans (grown_setCells _ _ _ _)
      have hI2 : GoIn w w.heap.size s l (w2.setCells w.heap.size 0 S2.cells) (.slice (some ⟨b, o2, none⟩) (q.length - 64) (c - 64)) (j + 1) := by
        have hl2 : (l.drop (64 * (j + 1))).length = q.length - 64 := by rw [List.length_drop, HQL.out]; omega
        refine ⟨by have := HQL.out; omega, ⟨_, c - 64, by rw [hl2], (fun h => by cases h), by omega, by omega, fun hp => ⟨b, o2, rfl, hb, ?_⟩⟩, ?_, hB3, Nat.lt_of_lt_of_le HI.out.lt hB23.size⟩
        · rw [HO2.out (by omega), show 64 * (j + 1) = 64 * j + 64 by omega, ← List.drop_drop, ← HQ.out]
          exact (HBS.out.grown hB23 (by simp; omega)).drop 64
        · rw [← HS2.out]; exact hx3
      have HI2 := Lib.hid hI2
      have HB22 : Hid (Blk (w2.setCells w.heap.size 0 S2.cells) (w.heap.size + 1) [.int .u32 0, .int .u32 0, .int .u32 0, .int .u32 0, .int .u32 0, .int .u32 0, .int .u32 0, .int .u32 0]) := Lib.hid (HB2.out.grown hB23 (by simp))
      clear hI2 hB23 hB3 hx3 hx2 hB2
      generalize World.setCells _ _ _ _ = w3 at HI2 HB22 ⊢
      go_wp2_with fail
      go_roundw
      case rel => exact ⟨j + 1, HI2.out, HB22.out⟩
      case measure => show q.length - 64 < q.length; omega
    · have hlt' : (q.length : Int) < 64 := by omega
      have hj : j = l.length / 64 := by have := HI.out.le; omega
      have HST : Hid (S' = stOf s l) := Lib.hid (by rw [hS', hj]; rfl)
      have HRS : Hid (q = restOf l) := Lib.hid (by rw [hq, hj]; rfl)
      have HK3 := Lib.hid k3; clear k3
      have hbox : Blk wr w.heap.size S'.cells := by rw [hS']; exact HI.out.box
      have HBX := Lib.hid hbox; clear hbox hS' hq hql
      go_wp2_with (first
        | ((with_reducible refine wpList_load_mid ?a1 58 (.tmp 2) ?a2 w.heap.size 0 ?a3 S'.cells _ HBX.out.st_range Tryd.underlying58 ?a4 ?a5 ?_); (case a1 => rfl); (case a2 => rfl); (case a3 => rfl); (case a4 => rfl); (case a5 => exact info_st))
        | ((with_reducible refine wpList_store_mid ?b1 58 (.tmp 4) (.tmp 15) ?b2 (w.heap.size + 1) 0 S'.cells.toArray ?b3 ?b4 ?b5 ?b6 (cells_oneCell _) ?_); (case b1 => rfl); (case b2 => rfl); (case b3 => rfl); (case b4 => rfl); (case b5 => exact HB2.out.there 0 8 (Nat.le_refl _)); (case b6 => exact info_st)))
      have hx3 := HB2.out.setAll (vs := S'.cells) rfl
      have hB3 := below_setCells (Nat.le_succ w.heap.size) S'.cells HI.out.below 0
      have hg3 := grown_setCells (w.heap.size + 1) S'.cells wr 0
      have hS3 : Sl (wr.setCells (w.heap.size + 1) 0 S'.cells) w.heap.size (.slice A q.length c) q := by
        exact ⟨_, _, rfl, HK0.out, k1, k2, fun hp => by obtain ⟨b, o, h1, h2, h3⟩ := HK3.out hp; exact ⟨b, o, h1, h2, h3.grown hg3 (by simp; omega)⟩⟩
      generalize World.setCells _ _ _ _ = w3 at hx3 hB3 hS3 ⊢
      obtain ⟨c0, c1, c2, c3, c4, c5, c6, c7⟩ := hx3.st8
      refine bodyPost_ret (v := .tuple #[.agg #[vw S'.a, vw S'.b, vw S'.c, vw S'.d, vw S'.e, vw S'.f, vw S'.g, vw S'.h], .slice A q.length c]) (by simp [results, Tryd.results27, go_sem, c0, c1, c2, c3, c4, c5, c6, c7]) rfl ⟨.slice A q.length c, ?_, ?_, hB3⟩
      · rw [← HST.out]
      · rw [← HRS.out]; exact hS3
end Go.Proofs.YteadncmhcbdicaaDoor
set_option maxRecDepth 100000
namespace Go.Proofs.YteadncmhcbdicaaDoor
open Go.RowKit
set_option maxRecDepth 100000 in
set_option maxHeartbeats 1000000 in
theorem refSum_any (B : Nat) (v : Value) (m : List UInt8) (w : World) (hT : TabB w) (hG : 1 < w.heap.size) (hs : Sl w B v m) (hB : B ≤ w.heap.size) (hl : m.length ≤ 100000) :
    Calls Tryd.prog 18 #[v] w fun e w' => ∃ v', e = .returned v' ∧ OwnB w' w.heap.size v' (sumL m) ∧ Below w.heap.size w w' := by
  have hz := zero_st
  have HT := Lib.hid hT; clear hT
  have HS := Lib.hid hs
  obtain ⟨A, c, rfl, _, k1, k2, _⟩ := hs
  have hun : un m.length = (m.length : Int) := un_lt _ (by omega)
  have htail : ∀ W, Hid (Calls Tryd.prog 29 #[.int .u64 (m.length : Int)] W fun e w' => ∃ v', e = .returned v' ∧ OwnB w' W.heap.size v' (padl m.length) ∧ Below W.heap.size W w') := fun W => Lib.hid (by have := refTail_any m.length W; rwa [hun] at this)
  obtain ⟨S', hS'⟩ : ∃ S', S' = stOf St.first (m ++ padl m.length) := ⟨_, rfl⟩
  have hSum : Hid (sumL m = wbs S'.list) := Lib.hid (by rw [hS']; unfold sumL; rfl)
  have hpl : (padl m.length).length ≤ 100 := by rw [padl_length]; omega
  have HS' := Lib.hid hS'
  clear hun hS'
  go_enter Tryd.func18, Tryd.ntmps18
  go_wp2_with fail
  refine (refFirst_any w).mono ?_
  rintro e w1 ⟨rfl, hB1⟩
  have HB1 := Lib.hid hB1
  have hz1 : w.heap.size ≤ w1.heap.size := hB1.size
  clear hB1
  go_wp2_with (at_builtin; ((with_reducible refine wpList_app_sl ?g1 (.tmp 7) (.tmp 8) ?g2 w.heap.size (.slice (some ⟨w1.heap.size, 0, none⟩) 0 0) [] m ?g3 ?g4 B (.slice A m.length c) ?g5 ?g6 ?g7 ?g8 ?_); (case g1 => rfl); (case g2 => rfl); (case g3 => rfl); (case g4 => exact (OwnB.empty w1).lower hz1); (case g5 => rfl); (case g6 => exact (HS.out.below HB1.out hB).below ((Below.refl _ _).alloc (Nat.le_refl _) _) (by omega)); (case g7 => simp; omega); (case g8 => simp; omega); intro v2 w2 hv hg; have Hg := Lib.hid ((HB1.out.alloc hz1 _).trans (((OwnB.empty w1).lower hz1).belowBase hg (by simp; omega))); clear hg; rw [List.nil_append] at hv; have Hv := Lib.hid hv; clear hv))
  refine (htail w2).out.mono ?_
  rintro e w3 ⟨v3, rfl, hO3, hB3⟩
  have HO3 := Lib.hid hO3.sl; clear hO3
  have Hv3 := Lib.hid (Hv.out.below hB3)
  have HB3 := Lib.hid (Hg.out.trans (hB3.mono Hg.out.size)); clear hB3
  go_wp2_with (at_builtin; ((with_reducible refine wpList_app_sl ?f1 (.tmp 9) (.tmp 13) ?f2 w.heap.size v2 m (padl m.length) ?f3 ?f4 w3.heap.size v3 ?f5 ?f6 ?f7 ?f8 ?_); (case f1 => rfl); (case f2 => rfl); (case f3 => rfl); (case f4 => exact Hv3.out); (case f5 => rfl); (case f6 => exact HO3.out); (case f7 => omega); (case f8 => exact HB3.out.size); intro v4 w4 hv hg; have Hg4 := Lib.hid (HB3.out.trans (Hv3.out.belowBase hg HB3.out.size)); clear hg; have Hv4 := Lib.hid hv.sl; clear hv))
  have hz4 := Hg4.out.size
  refine (refGo_any St.first v4 (m ++ padl m.length) w4 (HT.out.below Hg4.out hG) (by show _ < w4.heap.size; omega) Hv4.out (by rw [List.length_append]; omega)).mono ?_
  rintro e w5 ⟨v5, rfl, hS5, hB5⟩
  rw [← HS'.out]
  have HB5 := Lib.hid (Hg4.out.trans (hB5.mono hz4)); clear hB5 hS5
  clear hz4
  go_wp2_with fail
  refine (refOut_any S' _).mono ?_
  rintro e w6 ⟨v6, rfl, hO6, hB6⟩
  have HO6 := Lib.hid (hO6.lower (base' := w.heap.size) (by have := HB5.out.size; simp; omega)); clear hO6
  have HB6 := Lib.hid ((HB5.out.alloc HB5.out.size _).trans (hB6.mono (by have := HB5.out.size; simp; omega))); clear hB6
  go_wp2_with fail
  go_ret
  exact ⟨_, rfl, by rw [hSum.out]; exact HO6.out, HB6.out⟩
end Go.Proofs.YteadncmhcbdicaaDoor
