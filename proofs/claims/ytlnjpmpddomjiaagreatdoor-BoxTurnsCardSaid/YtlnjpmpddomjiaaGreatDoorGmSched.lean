/- sha.schedule: the words of a block. -/
import Derived.Test.YtlnjpmpddomjiaaGreatDoorGmSmall
import Derived.Test.YtlnjpmpddomjiaaGreatDoorGmMgA
import Derived.Lib.Hide
import Derived.StillTailTactics
import Derived.IntWalk
namespace Go.Proofs.YtlnjpmpddomjiaaGreatDoor
open Go.RowKit
attribute [local go_sem] bv_add

def nought64 : List Value := List.replicate 64 (.int .u32 0)
theorem info_w64 : (Tryz.prog.info? 139).map (·.size) = some 64 := by kernel_rfl
theorem oneCell_words (l : List (BitVec 32)) : (l.map vw).toArray.all (·.oneCell') = true := all_oneCell_toArray (by
  intro v hv; rw [List.mem_map] at hv; obtain ⟨x, _, rfl⟩ := hv; rfl)
set_option maxRecDepth 100000 in
set_option maxHeartbeats 1000000 in
theorem schedule_any (b o cap : Nat) (p : List UInt8) (w : World) (hp : p.length = 64) (hb : b < w.heap.size) (hbs : Bs w b o p) (hcap : 64 ≤ cap) (hcap2 : cap ≤ 9223372036854775807) :
    Calls Tryz.prog 95 #[.slice (some ⟨b, o, none⟩) 64 cap] w fun e w' => e = .returned (.agg ((sw p 64).map vw).toArray) ∧ Below w.heap.size w w' := by
  have Hbs := Lib.hid hbs; clear hbs
  have Hp := Lib.hid hp; clear hp
  go_enter Tryz.func95, Tryz.ntmps95
  go_wp2_with fail
  go_loopw [6] (fun i wr => ∃ k : Nat, k ≤ 16 ∧ i = .int .i64 k ∧ Blk wr (w.heap.size + 1) (swArr p k) ∧ Blk wr w.heap.size nought64 ∧ Below w.heap.size w wr) (fun i _ => 16 - (intOf i).toNat)
  case atStart =>
    exact ⟨0, by omega, rfl, Blk.newAt _ _ _ (by simp) (swArr_zero p).symm, (Blk.newAt _ _ _ rfl rfl).alloc _, ((Below.refl _ _).alloc (Nat.le_refl _) _).alloc (by simp) _⟩
  case round =>
    obtain ⟨k, hk, rfl, hB, hZ, hw⟩ := hrel
    have HB := Lib.hid hB; clear hB
    have HZ := Lib.hid hZ; clear hZ
    have HW := Lib.hid hw; clear hw
    by_cases hlt : k < 16
    · have c0 : wr.cell? ⟨w.heap.size + 1, k, none⟩ = some (.int .u32 0) := HB.out.at (swArr_at p k (by omega))
      have f0 : wr.frozen? ⟨w.heap.size + 1, k, none⟩ = false := HB.out.free k
      have HR : Hid (Bs wr b o p) := Lib.hid (Hbs.out.below HW.out (by omega))
      go_wp2_with fail
      refine (word_any b (o + 4 * k) _ _ _ _ _ _ wr (HR.out.getD (by rw [Hp.out]; omega)) (HR.out.getD2 (by rw [Hp.out]; omega)) (HR.out.getD2 (by rw [Hp.out]; omega)) (HR.out.getD2 (by rw [Hp.out]; omega)) (by omega) (by omega)).mono ?_
      rintro e w' ⟨rfl, n, rfl⟩
      go_wp2_with fail
      go_roundw
      case rel =>
        refine ⟨k + 1, by omega, by go_num, ?_, (HZ.out.drewN n).setOther (by simp) _, (below_drewN HW.out n).setCell (Nat.le_succ _) _⟩
        have := (HB.out.drewN n).set k (vw (swNext p (sw p k)))
        rw [swArr_set p k (by omega), sw_next_lo p k hlt] at this
        exact this
      case measure => simp [intOf]; omega
    · obtain rfl : k = 16 := by omega
      rw [show (((16 : Nat) : Int)) = (16 : Int) from rfl]
      go_wp2_with fail
      go_loopw [5] (fun i wr => ∃ k : Nat, 16 ≤ k ∧ k ≤ 64 ∧ i = .int .i64 k ∧ Blk wr (w.heap.size + 1) (swArr p k) ∧ Blk wr w.heap.size nought64 ∧ Below w.heap.size w wr) (fun i _ => 64 - (intOf i).toNat)
      case atStart => exact ⟨16, by omega, by omega, rfl, HB.out, HZ.out, HW.out⟩
      case round =>
        clear HB HZ HW
        obtain ⟨k, hk1, hk2, rfl, hB, hZ, hw⟩ := hrel
        have HB := Lib.hid hB; clear hB
        have HZ := Lib.hid hZ; clear hZ
        have HW := Lib.hid hw; clear hw
        by_cases hlt : k < 64
        · have c1 : wr.cell? ⟨w.heap.size + 1, k - 16, none⟩ = some (vw ((sw p k).getD (k - 16) 0)) := HB.out.at (swArr_lt p k _ (by omega))
          have c2 : wr.cell? ⟨w.heap.size + 1, k - 15, none⟩ = some (vw ((sw p k).getD (k - 15) 0)) := HB.out.at (swArr_lt p k _ (by omega))
          have c3 : wr.cell? ⟨w.heap.size + 1, k - 7, none⟩ = some (vw ((sw p k).getD (k - 7) 0)) := HB.out.at (swArr_lt p k _ (by omega))
          have c4 : wr.cell? ⟨w.heap.size + 1, k - 2, none⟩ = some (vw ((sw p k).getD (k - 2) 0)) := HB.out.at (swArr_lt p k _ (by omega))
          have c0 : wr.cell? ⟨w.heap.size + 1, k, none⟩ = some (.int .u32 0) := HB.out.at (swArr_at p k (by omega))
          have f0 : wr.frozen? ⟨w.heap.size + 1, k, none⟩ = false := HB.out.free k
          go_wp2_with fail
          have w16 : IntKind.i64.wrap ((k : Int) - 16) = (k : Int) - 16 := IntWalk.i64_in _ (by omega)
          have l16 : (16 : Int) ≤ (k : Int) := by omega
          have g16 : (k : Int) - 16 < 64 := by omega
          have t16 : ((k : Int) - 16).toNat = k - 16 := by omega
          have w15 : IntKind.i64.wrap ((k : Int) - 15) = (k : Int) - 15 := IntWalk.i64_in _ (by omega)
          have l15 : (15 : Int) ≤ (k : Int) := by omega
          have g15 : (k : Int) - 15 < 64 := by omega
          have t15 : ((k : Int) - 15).toNat = k - 15 := by omega
          have w7 : IntKind.i64.wrap ((k : Int) - 7) = (k : Int) - 7 := IntWalk.i64_in _ (by omega)
          have l7 : (7 : Int) ≤ (k : Int) := by omega
          have g7 : (k : Int) - 7 < 64 := by omega
          have t7 : ((k : Int) - 7).toNat = k - 7 := by omega
          have w2 : IntKind.i64.wrap ((k : Int) - 2) = (k : Int) - 2 := IntWalk.i64_in _ (by omega)
          have l2 : (2 : Int) ≤ (k : Int) := by omega
          have g2 : (k : Int) - 2 < 64 := by omega
          have t2 : ((k : Int) - 2).toNat = k - 2 := by omega
          refine wp_region_still_tail 23 (by kernel_rfl) (by kernel_rfl) ?_
          simp only [List.take_succ_cons, List.take_zero, List.drop_succ_cons, List.drop_zero]
          repeat still_step
          still_call ((smallSigma0_any _ _).mono fun _ _ h => ⟨h.1, h.2.symm⟩)
          repeat still_step
          still_call ((smallSigma1_any _ _).mono fun _ _ h => ⟨h.1, h.2.symm⟩)
          repeat still_step
          refine wpStill_nil ?_
          clear w16 l16 g16 t16 w15 l15 g15 t15 w7 l7 g7 t7 w2 l2 g2 t2 c1 c2 c3 c4
          have c5 : wr.drew.cell? ⟨w.heap.size + 1, k, none⟩ = some (.int .u32 0) := c0
          go_wp2_with fail
          go_roundw
          case rel =>
            refine ⟨k + 1, by omega, by omega, by go_num, ?_, HZ.out.drew.setOther (by simp) _, HW.out.drew.setCell (Nat.le_succ _) _⟩
            have := HB.out.drew.set k (vw (swNext p (sw p k)))
            rw [swArr_set p k (by omega), sw_next_hi p k hk1] at this
            exact this
          case measure => simp [intOf]; omega
        · obtain rfl : k = 64 := by omega
          have hA : wr.rangeAt (w.heap.size + 1) 0 ((sw p 64).map vw) := by
            have := HB.out.range 0 64
            rw [List.drop_zero, List.take_of_length_le (by rw [swArr_length p 64 (by omega)]; exact Nat.le_refl _)] at this
            rw [swArr_full] at this; exact this
          have HA := Lib.hid hA; clear hA
          have HT := Lib.hid (HZ.out.there 0 64 (Nat.le_refl _))
          have HE : Hid (((sw p 64).map vw).length = 64) := Lib.hid (by rw [List.length_map, sw_length])
          have HS : Hid (((sw p 64).map vw).toArray.size = 64) := Lib.hid (by simp [sw_length])
          rw [show (((64 : Nat) : Int)) = (64 : Int) from rfl]
          go_wp2_with (first
            | ((with_reducible refine wpList_load_mid ?g1 139 (.tmp 3) ?g2 (w.heap.size + 1) 0 ?g3 ((sw p 64).map vw) _ HA.out Tryz.underlying139 ?g4 ?g5 ?_); (case g1 => rfl); (case g2 => rfl); (case g3 => rfl); (case g4 => rfl); (case g5 => rw [HE.out]; exact info_w64))
            | ((with_reducible refine wpList_store_mid ?s1 139 (.tmp 2) (.tmp 44) ?s2 w.heap.size 0 ((sw p 64).map vw).toArray ?s3 ?s4 ?s5 ?s6 (oneCell_words _) ?_); (case s1 => rfl); (case s2 => rfl); (case s3 => rfl); (case s4 => rfl); (case s5 => rw [HS.out]; exact HT.out); (case s6 => rw [HS.out]; exact info_w64)))
          obtain ⟨t, ht⟩ := HZ.out.setAll (vs := (sw p 64).map vw) (by rw [HE.out]; rfl)
          refine bodyPost_ret (v := .agg ((sw p 64).map vw).toArray) ?_ rfl ?_
          · exact results_cell_row rfl _ _ w.heap.size t _ _ _ rfl ht Tryz.underlying139 rfl (by rw [HS.out]; exact info_w64)
          · exact ⟨rfl, below_setCells (Nat.le_refl _) _ HW.out 0⟩
end Go.Proofs.YtlnjpmpddomjiaaGreatDoor
