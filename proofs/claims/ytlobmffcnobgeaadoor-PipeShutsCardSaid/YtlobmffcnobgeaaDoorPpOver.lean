/- pipe: Over, Cut. -/
import Derived.Test.YtlobmffcnobgeaaDoorPpLook
set_option maxRecDepth 100000
namespace Go.Proofs.YtlobmffcnobgeaaDoor
open Go.RowKit
attribute [local go_sem] Oper.semAt_some
section
variable {w w' : World} {base b room : Nat} {V : Nat → Value} {H : Nat → Nat} {X : Nat → WayL}
def overW (x : WayL) : Bool := x.shut && decide (x.buf.length = 0)
def overL (X : Nat → WayL) : Bool := overW (X 0) && overW (X 1)
set_option maxHeartbeats 1000000 in
theorem over_any (h : PP w base b room V H X) :
    Calls Tryd.prog 16 #[tP b] w fun e w' => e = .returned (.bool (overL X)) ∧ Below w.heap.size w w' := by
  obtain ⟨A0, C0, hV0, _, _, _, _⟩ := (h.own 0 (by omega)).sl
  obtain ⟨A1, C1, hV1, _, _, _, _⟩ := (h.own 1 (by omega)).sl
  obtain ⟨ANS, hA⟩ : ∃ a, a = overL X := ⟨_, rfl⟩
  rw [← hA]
  unfold overL overW at hA
  have k1 : w.cell? ⟨b, 1, none⟩ = some (V 0) := h.blk.at (o := 1) rfl
  have k2 : w.cell? ⟨b, 2, none⟩ = some (.bool (X 0).shut) := h.blk.at (o := 2) rfl
  have k3 : w.cell? ⟨b, 3, none⟩ = some (.int .u64 (un (X 0).wrote)) := h.blk.at (o := 3) rfl
  have k4 : w.cell? ⟨b, 4, none⟩ = some (tP (H 0)) := h.blk.at (o := 4) rfl
  have k5 : w.cell? ⟨b, 5, none⟩ = some (V 1) := h.blk.at (o := 5) rfl
  have k6 : w.cell? ⟨b, 6, none⟩ = some (.bool (X 1).shut) := h.blk.at (o := 6) rfl
  have k7 : w.cell? ⟨b, 7, none⟩ = some (.int .u64 (un (X 1).wrote)) := h.blk.at (o := 7) rfl
  have k8 : w.cell? ⟨b, 8, none⟩ = some (tP (H 1)) := h.blk.at (o := 8) rfl
  rw [hV0] at k1
  rw [hV1] at k5
  obtain ⟨N0, hN0⟩ : ∃ N, N = (X 0).buf.length := ⟨_, rfl⟩
  obtain ⟨N1, hN1⟩ : ∃ N, N = (X 1).buf.length := ⟨_, rfl⟩
  rw [← hN0] at k1 hA
  rw [← hN1] at k5 hA
  generalize (X 0).shut = s0 at *
  generalize (X 1).shut = s1 at *
  generalize un (X 0).wrote = t0 at *
  generalize un (X 1).wrote = t1 at *
  generalize H 0 = h0 at *
  generalize H 1 = h1 at *
  have hix0 : ∀ W, (Instr.index 60 (.agg #[.slice A0 N0 C0, .bool s0, .int .u64 t0, tP h0, .slice A1 N1 C1, .bool s1, .int .u64 t1, tP h1]) (.int .i64 0)).run Tryd.prog W = .ok (.agg #[.slice A0 N0 C0, .bool s0, .int .u64 t0, tP h0]) W := fun W => rfl
  have hix1 : ∀ W, (Instr.index 60 (.agg #[.slice A0 N0 C0, .bool s0, .int .u64 t0, tP h0, .slice A1 N1 C1, .bool s1, .int .u64 t1, tP h1]) (.int .i64 1)).run Tryd.prog W = .ok (.agg #[.slice A1 N1 C1, .bool s1, .int .u64 t1, tP h1]) W := fun W => rfl
  have HA := Lib.hid hA
  clear h hV0 hV1 hN0 hN1 hA
  go_enter Tryd.func16, Tryd.ntmps16
  go_wp2_with fail
  go_loopw [4, 11] (fun _ i wr => ∃ k : Nat, k ≤ 2 ∧ i = .int .i64 (k : Int) ∧ (1 ≤ k → s0 = true ∧ N0 = 0) ∧ (2 ≤ k → s1 = true ∧ N1 = 0) ∧ Below w.heap.size w wr) (fun _ i _ => 2 - (intOf i).toNat)
  case atStart => exact ⟨0, by omega, rfl, by omega, by omega, Below.refl _ _⟩
  case round =>
    obtain ⟨k, hk, rfl, h1, h2, hB⟩ := hrel
    rcases (show k = 0 ∨ k = 1 ∨ k = 2 by omega) with rfl | rfl | rfl
    · have hB' := hB.size
      have HBn := Lib.hid (fun (o : Obj) => hB.alloc hB' o)
      clear hB
      cases s0 with
      | false =>
        have HAN := Lib.hid (show ANS = false from by rw [HA.out]; simp)
        go_wp2_with fail
        go_ret
        exact ⟨by rw [HAN.out]; rfl, HBn.out _⟩
      | true =>
        by_cases hN : N0 = 0
        · subst hN
          go_wp2_with fail
          exact ⟨⟨1, by omega, rfl, by simp, by omega, HBn.out _⟩, by simp [intOf]⟩
        · have hp : (0 : Int) < (N0 : Int) := by omega
          have HAN := Lib.hid (show ANS = false from by rw [HA.out]; simp [hN])
          clear hN
          go_wp2_with fail
          go_ret
          exact ⟨by rw [HAN.out]; rfl, HBn.out _⟩
    · obtain ⟨rfl, rfl⟩ := h1 (by omega)
      clear h1
      have hB' := hB.size
      have HBn := Lib.hid (fun (o : Obj) => hB.alloc hB' o)
      clear hB
      cases s1 with
      | false =>
        have HAN := Lib.hid (show ANS = false from by rw [HA.out]; simp)
        go_wp2_with fail
        go_ret
        exact ⟨by rw [HAN.out]; rfl, HBn.out _⟩
      | true =>
        by_cases hN : N1 = 0
        · subst hN
          go_wp2_with fail
          exact ⟨⟨2, by omega, rfl, by simp, by simp, HBn.out _⟩, by simp [intOf]⟩
        · have hp : (0 : Int) < (N1 : Int) := by omega
          have HAN := Lib.hid (show ANS = false from by rw [HA.out]; simp [hN])
          clear hN
          go_wp2_with fail
          go_ret
          exact ⟨by rw [HAN.out]; rfl, HBn.out _⟩
    · obtain ⟨rfl, rfl⟩ := h1 (by omega)
      obtain ⟨rfl, rfl⟩ := h2 (by omega)
      have HAN := Lib.hid (show ANS = true from by rw [HA.out]; rfl)
      have HB := Lib.hid hB; clear hB
      go_wp2_with fail
      go_ret
      exact ⟨by rw [HAN.out]; rfl, HB.out⟩
theorem cut_nil (w : World) : Calls Tryd.prog 18 #[.pointer none] w fun e w' => e = .returned (.tuple #[]) ∧ w' = w := by
  go_enter Tryd.func18, Tryd.ntmps18
  go_wp2_with fail
  refine bodyPost_ret (results_none rfl _ _ _) rfl ?_
  exact ⟨rfl, rfl⟩
theorem clear_any (base : Nat) (v : Value) (l : List UInt8) (w : World) (h : OwnB w base v l) : ∃ w', (∀ ty, (Builtin.clear_ #[29] ty #[v]).run Tryd.prog w = .ok (.tuple #[]) w') ∧ w.grownBy w' v.ownBlock := by
  rcases h.parts with ⟨rfl, rfl⟩ | ⟨g, cap, rfl, _, _, _, _, hbs, hfz⟩
  · refine ⟨w, fun ty => ?_, World.grownBy.refl _ _⟩
    simp [Builtin.clear_, run_underlying Tryd.underlying29]
  · by_cases h0 : l.length = 0
    · refine ⟨w, fun ty => ?_, World.grownBy.refl _ _⟩
      rw [h0]
      simp [Builtin.clear_, run_underlying Tryd.underlying29]
    · refine ⟨w.setCells g 0 (List.replicate l.length (vb 0)), fun ty => ?_, grown_setCells g _ w 0⟩
      exact Lib.run_clear_slice w _ _ ty _ Tryd.underlying29 (fun w => by kernel_rfl) rfl rfl g 0 _ _ (by omega) (fun j hj => by rw [hbs j hj]; rfl) (fun j hj => hfz _)
def cutV (V : Nat → Value) (k : Nat) : Nat → Value := fun i => if i < k then .slice none 0 0 else V i
def cutW (x : WayL) : WayL := { x with buf := [], shut := true }
def cutX (X : Nat → WayL) (k : Nat) : Nat → WayL := fun i => if i < k then cutW (X i) else X i
theorem cutV_succ (V : Nat → Value) (k : Nat) : upd (cutV V k) k (.slice none 0 0) = cutV V (k + 1) := by
  funext i; unfold upd cutV
  by_cases h : i = k
  · subst h; rw [if_pos rfl, if_pos (by omega)]
  · rw [if_neg h]
    by_cases h2 : i < k
    · rw [if_pos h2, if_pos (by omega)]
    · rw [if_neg h2, if_neg (by omega)]
theorem cutX_succ (X : Nat → WayL) (k : Nat) : upd (cutX X k) k (cutW (X k)) = cutX X (k + 1) := by
  funext i; unfold upd cutX
  by_cases h : i = k
  · subst h; rw [if_pos rfl, if_pos (by omega)]
  · rw [if_neg h]
    by_cases h2 : i < k
    · rw [if_pos h2, if_pos (by omega)]
    · rw [if_neg h2, if_neg (by omega)]
theorem cutX_at (X : Nat → WayL) (k : Nat) : cutX X k k = X k := by unfold cutX; rw [if_neg (by omega)]
theorem cutV_at (V : Nat → Value) (k : Nat) : cutV V k k = V k := by unfold cutV; rw [if_neg (by omega)]
theorem cutV_sub (V : Nat → Value) (b k : Nat) (H : Nat → Nat) : ∀ j ∈ ppS b (cutV V k) H, j ∈ ppS b V H := by
  intro j hj
  simp only [ppS, List.mem_append, List.mem_cons, List.not_mem_nil, or_false, Option.mem_toList] at hj ⊢
  rcases hj with hj | hj | hj
  · exact .inl hj
  · unfold cutV at hj
    split at hj
    · cases hj
    · exact .inr (.inl hj)
  · unfold cutV at hj
    split at hj
    · cases hj
    · exact .inr (.inr hj)
theorem cut_fin (h : PP w base b room V H X) (i : Nat) (hi : i < 2) {w2 : World} (hg : (w.setCell ⟨b, 2 + 4 * i, none⟩ (.bool true)).grownBy w2 (V i).ownBlock) :
    PP (w2.setCell ⟨b, 1 + 4 * i, none⟩ (.slice none 0 0)) base b room (upd V i (.slice none 0 0)) H (upd X i (cutW (X i))) ∧ Trs (ppS b V H) w (w2.setCell ⟨b, 1 + 4 * i, none⟩ (.slice none 0 0)) := by
  have ht0 : Trs (b :: (V i).ownBlock.toList) w w2 := ((Trs.refl _ w).set (p := ⟨b, 2 + 4 * i, none⟩) (by simp) (.bool true)).grown hg (fun k e => by simp [e])
  have ht : Trs (b :: (V i).ownBlock.toList) w (w2.setCell ⟨b, 1 + 4 * i, none⟩ (.slice none 0 0)) := ht0.set (by simp) _
  have hb2 := ((h.blk.set (2 + 4 * i) (.bool true)).grown hg (h.apb i hi).1.symm).set (1 + 4 * i) (.slice none 0 0)
  obtain ⟨g1, g2, _⟩ := h.turn i hi (.slice none 0 0) (cutW (X i)) _ ht (fun k hk => by
      rcases List.mem_cons.1 hk with e | e
      · exact .inl e
      · exact .inr (.inr (by simpa using e))) (by
      rcases (show i = 0 ∨ i = 1 by omega) with rfl | rfl
      · exact hb2
      · exact hb2) (OwnB.nil _ _) ((h.hash i hi).trs ht (fun hm => by
      rcases List.mem_cons.1 hm with e | e
      · exact (h.apb i hi).2 e
      · exact h.aph i i hi hi (by simpa using e))) (fun k e => by cases e) (by show 0 ≤ room; omega)
  exact ⟨g1, g2⟩
set_option maxHeartbeats 1000000 in
theorem cut_pp (h : PP w base b room V H X) :
    Calls Tryd.prog 18 #[tP b] w fun e w' => e = .returned (.tuple #[]) ∧ PP w' base b room (cutV V 2) H (cutX X 2) ∧ Trs (ppS b V H) w w' := by
  have HP := Lib.hid h; clear h
  go_enter Tryd.func18, Tryd.ntmps18
  go_wp2_with fail
  go_loopw [2, 3, 6] (fun _ _ i wr => ∃ k : Nat, k ≤ 2 ∧ i = .int .i64 (k : Int) ∧ PP wr base b room (cutV V k) H (cutX X k) ∧ Trs (ppS b V H) w wr) (fun _ _ i _ => 2 - (intOf i).toNat)
  case atStart => exact ⟨0, by omega, rfl, HP.out, Trs.refl _ _⟩
  case round =>
    obtain ⟨k, hk, rfl, hp, ht⟩ := hrel
    have HQ := Lib.hid hp
    have HT := Lib.hid ht
    clear hp ht
    rcases (show k = 0 ∨ k = 1 ∨ k = 2 by omega) with rfl | rfl | rfl
    · have hpb := HQ.out.blk
      have f1 := hpb.free 2
      have c1 := hpb.at (o := 2) rfl
      obtain ⟨A, C, hV, _, _, _, _⟩ := (HQ.out.own 0 (by omega)).sl
      have hO1 : OwnB (wr.setCell ⟨b, 2, none⟩ (.bool true)) base (cutV V 0 0) (cutX X 0 0).buf := (HQ.out.own 0 (by omega)).kept (grown_set wr ⟨b, 2, none⟩ _) (.inr (HQ.out.apb 0 (by omega)).1)
      obtain ⟨w2, hcl, hg2⟩ := clear_any base _ _ _ hO1
      have HF := Lib.hid (cut_fin HQ.out 0 (by omega) hg2)
      have hk2 := (hpb.set 2 (.bool true)).grown hg2 (HQ.out.apb 0 (by omega)).1.symm
      have c0 : wr.cell? ⟨b, 1, none⟩ = some (cutV V 0 0) := hpb.at (o := 1) rfl
      have e0 := hk2.at (o := 1) rfl
      have e1 := hk2.free 1
      rw [hV] at hcl c0
      clear hpb hO1 hg2 hk2
      go_wp2_with fail
      exact ⟨⟨0 + 1, by omega, rfl, by rw [← cutV_succ, ← cutX_succ, ← cutX_at X 0]; exact HF.out.1, HT.out.trans (HF.out.2.mono (cutV_sub V b 0 H))⟩, by simp [intOf]⟩
    · have hpb := HQ.out.blk
      have f1 := hpb.free 6
      have c1 := hpb.at (o := 6) rfl
      obtain ⟨A, C, hV, _, _, _, _⟩ := (HQ.out.own 1 (by omega)).sl
      have hO1 : OwnB (wr.setCell ⟨b, 6, none⟩ (.bool true)) base (cutV V 1 1) (cutX X 1 1).buf := (HQ.out.own 1 (by omega)).kept (grown_set wr ⟨b, 6, none⟩ _) (.inr (HQ.out.apb 1 (by omega)).1)
      obtain ⟨w2, hcl, hg2⟩ := clear_any base _ _ _ hO1
      have HF := Lib.hid (cut_fin HQ.out 1 (by omega) hg2)
      have hk2 := (hpb.set 6 (.bool true)).grown hg2 (HQ.out.apb 1 (by omega)).1.symm
      have c0 : wr.cell? ⟨b, 5, none⟩ = some (cutV V 1 1) := hpb.at (o := 5) rfl
      have e0 := hk2.at (o := 5) rfl
      have e1 := hk2.free 5
      rw [hV] at hcl c0
      clear hpb hO1 hg2 hk2
      go_wp2_with fail
      exact ⟨⟨1 + 1, by omega, rfl, by rw [← cutV_succ, ← cutX_succ, ← cutX_at X 1]; exact HF.out.1, HT.out.trans (HF.out.2.mono (cutV_sub V b 1 H))⟩, by simp [intOf]⟩
    · go_wp2_with fail
      go_end0
      exact ⟨rfl, HQ.out, HT.out⟩
end
end Go.Proofs.YtlobmffcnobgeaaDoor
