/- The law's same, on both Pipes. -/
import Derived.Test.YtlobmffcnobgeaaDoorPbA
set_option maxRecDepth 100000
namespace Go.Proofs.YtlobmffcnobgeaaDoor
open Go.RowKit
attribute [local go_sem] Oper.semAt_some
section
variable {w w' : World} {base b c room : Nat} {V : Nat → Value} {H : Nat → Nat} {X : Nat → WayL} {A : Nat → Value} {Y : Nat → WayR}
/-- Look, in the reference's numbers. -/
theorem look_rel (h : PB w base b c room V H X A Y) (hrel : RelA X Y) (i : Nat) (hi : i < 2) (u : Value) : lookV (X i) u = .agg #[.int .i64 ((Y i).waits : Int), .bool (Y i).shut, .int .u64 ((Y i).all.length : Int), .int .u64 ((Y i).rd : Int), u] := by
  have hr := hrel i hi
  have hb := h.x.big i hi
  have hf := hr.fit
  unfold lookV
  rw [hr.waits, hr.shut, hr.wrote, hr.readLen, un_lt _ (by omega), un_lt _ (by omega)]
theorem room_rel (hrel : RelA X Y) (i : Nat) (hi : i < 2) : roomL room (X i) = if (Y i).shut then 0 else (room : Int) - ((Y i).waits : Int) := by
  have hr := hrel i hi
  unfold roomL
  rw [hr.waits, hr.shut]
set_option maxHeartbeats 8000000 in
theorem same_pb (h : PB w base b c room V H X A Y) (hrel : RelA X Y) :
    Calls Tryd.prog 9 #[tP b, tP c] w fun e w' => e = .returned (.bool true) ∧ Below w.heap.size w w' := by
  have HPB := Lib.hid h
  have HREL := Lib.hid hrel
  have hov := relA_over hrel
  obtain ⟨O, hO⟩ : ∃ O, O = overL X := ⟨_, rfl⟩
  have HV1 := Lib.hid (over_any h.p)
  rw [← hO] at HV1 hov
  have hov2 : ∀ W, PB W base b c room V H X A Y → Calls Tryd.prog 28 #[tP c] W fun e w' => e = .returned (.bool O) ∧ Below W.heap.size W w' := fun W hW => by rw [hov]; exact rOver_any hW.x
  have HV2 := Lib.hid hov2
  have hOO : (O != O) = false := by cases O <;> rfl
  clear hO hov hov2 h hrel
  go_enter Tryd.func9, Tryd.ntmps9
  go_wp2_with fail
  refine HV1.out.mono ?_
  rintro e w1 ⟨rfl, hB1⟩
  have HB1 := Lib.hid hB1
  have HP1 := Lib.hid (HPB.out.below hB1)
  clear hB1
  go_wp2_with fail
  refine (HV2.out w1 HP1.out).mono ?_
  rintro e w2 ⟨rfl, hB2⟩
  have HB2 := Lib.hid (HB1.out.trans (hB2.mono HB1.out.size))
  have HP2 := Lib.hid (HP1.out.below hB2)
  clear hB2
  go_wp2_with fail
  go_loopw [5, 6, 7, 8, 9, 17] (fun _ _ _ _ _ i wr => ∃ j : Nat, j ≤ 2 ∧ i = .int .i64 (j : Int) ∧ PB wr base b c room V H X A Y ∧ Below w.heap.size w wr) (fun _ _ _ _ _ i _ => 2 - (intOf i).toNat)
  case atStart => exact ⟨0, by omega, rfl, HP2.out, HB2.out⟩
  case round =>
    obtain ⟨j, hj, rfl, hp, hb⟩ := hrel
    have HP := Lib.hid hp
    have HB := Lib.hid hb
    clear hp hb
    rcases (show j = 0 ∨ j = 1 ∨ j = 2 by omega) with rfl | rfl | rfl
    · have HLk := Lib.hid (look_0 HP.out.p)
      go_wp2_with fail
      refine HLk.out.mono ?_
      rintro e w3 ⟨u, rfl, hO3, hB3⟩
      rw [look_rel HP.out HREL.out 0 (by omega)]
      obtain ⟨uA, uC, rfl, _, _, _, _⟩ := hO3.sl
      obtain ⟨uN, huN⟩ : ∃ n, n = (sumL (X 0).read).length := ⟨_, rfl⟩
      rw [← huN]
      clear huN hO3
      have hp3 := HP.out.below hB3
      have hbw3 := HB.out.trans (hB3.mono HB.out.size)
      have hrr := room_rel (room := room) HREL.out 0 (by omega)
      obtain ⟨AA, C, hA, _, _, _, _⟩ := (hp3.x.own 0 (by omega)).sl
      have hfit := hp3.x.fit 0 (by omega)
      have hbig := hp3.x.big 0 (by omega)
      have hr2 := hp3.x.r2
      have hwl := hp3.x.waits 0 (by omega)
      have hzz : ((Y 0).all.length : Int) - ((Y 0).rd : Int) - ((Y 0).lost : Int) = ((Y 0).waits : Int) := by unfold WayR.waits; omega
      have hwt := fun W => rWaits_any AA (Y 0).all.length C ((Y 0).rd : Int) ((Y 0).lost : Int) (Y 0).shut W (by omega) (by omega) (by omega) hbig
      rw [hzz] at hwt
      have hrm := fun (W : World) (hW : PB W base b c room V H X A Y) => room_0 hW.p
      rw [hrr] at hrm
      have k0 : w3.cell? ⟨c, 1, none⟩ = some (.slice AA (Y 0).all.length C) := by rw [← hA]; exact hp3.x.blk.at (o := 1) rfl
      have k1 : w3.cell? ⟨c, 2, none⟩ = some (.int .i64 ((Y 0).rd : Int)) := hp3.x.blk.at (o := 2) rfl
      have k2 : w3.cell? ⟨c, 3, none⟩ = some (.bool (Y 0).shut) := hp3.x.blk.at (o := 3) rfl
      have k3 : w3.cell? ⟨c, 4, none⟩ = some (.int .i64 ((Y 0).lost : Int)) := hp3.x.blk.at (o := 4) rfl
      have hcl := hp3.x.blk.lt
      obtain ⟨N, hN⟩ : ∃ N : Int, N = ((Y 0).waits : Int) := ⟨_, rfl⟩
      obtain ⟨K, hK⟩ : ∃ K, K = (Y 0).all.length := ⟨_, rfl⟩
      obtain ⟨R, hR⟩ : ∃ R : Int, R = ((Y 0).rd : Int) := ⟨_, rfl⟩
      obtain ⟨lo, hlo⟩ : ∃ R : Int, R = ((Y 0).lost : Int) := ⟨_, rfl⟩
      have hR0 : 0 ≤ R ∧ R ≤ 400000 := by omega
      have hN0 : 0 ≤ N ∧ N ≤ (room : Int) := by omega
      rw [← hN] at hwt hrm
      rw [← hK] at k0 hwt hbig
      rw [← hR] at k1 hwt
      rw [← hlo] at k3 hwt
      rw [← hN, ← hK, ← hR]
      obtain ⟨s, hs⟩ : ∃ s, s = (Y 0).shut := ⟨_, rfl⟩
      rw [← hs] at k2 hwt hrm
      rw [← hs]
      obtain ⟨hR0, hR1⟩ := hR0
      obtain ⟨hN0, hN1⟩ := hN0
      have hNN : (N != N) = false := bne_self_eq_false _
      have hKK : ((K : Int) != (K : Int)) = false := bne_self_eq_false _
      have hRR : (R != R) = false := bne_self_eq_false _
      have hwr : IntKind.i64.wrap ((room : Int) - N) = (room : Int) - N := IntWalk.i64_in _ ⟨by omega, by omega⟩
      have hwk : IntKind.u64.wrap (K : Int) = (K : Int) := IntWalk.u64_in _ ⟨by omega, by omega⟩
      have hwR : IntKind.u64.wrap R = R := IntWalk.u64_in _ ⟨by omega, by omega⟩
      have HWT := Lib.hid hwt
      have HRM := Lib.hid hrm
      obtain ⟨W6, hW6⟩ : ∃ W, W = w3.alloc (.cells #[.int .i64 N, .bool s, .int .u64 (K : Int), .int .u64 R, .slice uA uN uC] 43) := ⟨_, rfl⟩
      obtain ⟨W8, hW8⟩ : ∃ W, W = W6.alloc (.cells #[.slice AA K C, .int .i64 R, .bool s, .int .i64 lo] 31) := ⟨_, rfl⟩
      have hB6 : Below w3.heap.size w3 W6 := by rw [hW6]; exact (Below.refl _ _).alloc (Nat.le_refl _) _
      have hB8 : Below W6.heap.size W6 W8 := by rw [hW8]; exact (Below.refl _ _).alloc (Nat.le_refl _) _
      have hK6 : Blk W6 w3.heap.size [.int .i64 N, .bool s, .int .u64 (K : Int), .int .u64 R, .slice uA uN uC] := by rw [hW6]; exact Blk.newA w3 #[.int .i64 N, .bool s, .int .u64 (K : Int), .int .u64 R, .slice uA uN uC] _
      have hz6 : W6.heap.size = w3.heap.size + 1 := by rw [hW6]; simp
      have hK8 : Blk W8 W6.heap.size [.slice AA K C, .int .i64 R, .bool s, .int .i64 lo] := by rw [hW8]; exact Blk.newA W6 #[.slice AA K C, .int .i64 R, .bool s, .int .i64 lo] _
      have hB38 : Below w3.heap.size w3 W8 := hB6.trans (hB8.mono (by omega))
      have HK6 := Lib.hid (hK6.below hB8 (by omega))
      have HK8 := Lib.hid hK8
      have HP8 := Lib.hid (hp3.below hB38)
      have HB8 := Lib.hid (hbw3.trans (hB38.mono hbw3.size))
      have hw86 : (w3.alloc (.cells #[.int .i64 N, .bool s, .int .u64 (K : Int), .int .u64 R, .slice uA uN uC] 43)).alloc (.cells #[.slice AA K C, .int .i64 R, .bool s, .int .i64 lo] 31) = W8 := by rw [hW8, hW6]
      have kr8 := HP8.out.x.blk.at (o := 0) rfl
      have HG := Lib.hid (show w3.heap.size + 1 = W6.heap.size from hz6.symm)
      clear hW6 hW8 hB6 hB8 hK6 hK8 hB38 hp3 hbw3 hB3 hA hfit hzz hwt hrm hrr hN hK hR hlo hs HLk
      cases s with
      | false =>
        have hrm2 : ∀ W, PB W base b c room V H X A Y → Calls Tryd.prog 17 #[tP b, .int .i64 0] W fun e w' => e = .returned (.int .i64 ((room : Int) - N)) ∧ ∃ q, w' = W.drewN q := fun W hW => by
          have h := HRM.out W hW
          rw [if_neg (by simp)] at h
          exact h
        have HRM2 := Lib.hid hrm2
        clear hrm2 HRM
        go_wp2_with fail
        obtain ⟨g6, hg6⟩ : ∃ g, g = w3.heap.size := ⟨_, rfl⟩
        obtain ⟨g8, hg8⟩ : ∃ g, g = W6.heap.size := ⟨_, rfl⟩
        rw [HG.out]
        rw [← hg6] at HK6 ⊢
        rw [← hg8] at HK8 ⊢
        clear hw86 hg6 hg8 k0 k1 k2 k3
        have hl6 : g6 < W8.heap.size := HK6.out.lt
        have hl8 : g8 < W8.heap.size := HK8.out.lt
        have hlc : c < W8.heap.size := HP8.out.x.blk.lt
        have hkk : ∀ W, Below W8.heap.size W8 W → (W.cell? ⟨c, 0, none⟩ = some (.int .i64 (room : Int)) ∧ W.cell? ⟨g6, 0, none⟩ = some (.int .i64 N) ∧ W.cell? ⟨g6, 1, none⟩ = some (.bool false) ∧ W.cell? ⟨g6, 2, none⟩ = some (.int .u64 (K : Int)) ∧ W.cell? ⟨g6, 3, none⟩ = some (.int .u64 R) ∧ W.cell? ⟨g8, 0, none⟩ = some (.slice AA K C) ∧ W.cell? ⟨g8, 1, none⟩ = some (.int .i64 R) ∧ W.cell? ⟨g8, 2, none⟩ = some (.bool false) ∧ W.cell? ⟨g8, 3, none⟩ = some (.int .i64 lo)) := fun W hb => ⟨(hb.cell (p := ⟨c, 0, none⟩) hlc).trans kr8, (HK6.out.below hb hl6).at (o := 0) rfl, (HK6.out.below hb hl6).at (o := 1) rfl, (HK6.out.below hb hl6).at (o := 2) rfl, (HK6.out.below hb hl6).at (o := 3) rfl, (HK8.out.below hb hl8).at (o := 0) rfl, (HK8.out.below hb hl8).at (o := 1) rfl, (HK8.out.below hb hl8).at (o := 2) rfl, (HK8.out.below hb hl8).at (o := 3) rfl⟩
        have HKK := Lib.hid hkk
        have HS := Lib.hid (hkk W8.drew (Below.refl _ _).drew)
        clear hkk kr8
        refine wp_region_noPanic ?_
        refine wp_region_held (S := fun w' => w'.cell? ⟨c, 0, none⟩ = some (.int .i64 (room : Int)) ∧ w'.cell? ⟨g6, 0, none⟩ = some (.int .i64 N) ∧ w'.cell? ⟨g6, 1, none⟩ = some (.bool false) ∧ w'.cell? ⟨g6, 2, none⟩ = some (.int .u64 (K : Int)) ∧ w'.cell? ⟨g6, 3, none⟩ = some (.int .u64 R) ∧ w'.cell? ⟨g8, 0, none⟩ = some (.slice AA K C) ∧ w'.cell? ⟨g8, 1, none⟩ = some (.int .i64 R) ∧ w'.cell? ⟨g8, 2, none⟩ = some (.bool false) ∧ w'.cell? ⟨g8, 3, none⟩ = some (.int .i64 lo)) (by kernel_rfl) ?_
        change wpAnyH _ _ _ _ _ _ _ _ W8.drew
        refine takeH 0 42 (tP c) rfl rfl (by kernel_rfl) (by kernel_rfl) (by kernel_rfl) (fun _ _ _ h => h) rfl (fun w' h => by obtain ⟨z0, z1, z2, z3, z4, z5, z6, z7, z8⟩ := h; go_simp) HS.out ?_
        go_frame
        refine takeH 1 43 (tP c) rfl rfl (by kernel_rfl) (by kernel_rfl) (by kernel_rfl) (fun _ _ _ h => h) rfl (fun w' h => by obtain ⟨z0, z1, z2, z3, z4, z5, z6, z7, z8⟩ := h; go_simp) HS.out ?_
        go_frame
        refine takeH 2 44 (tP c) rfl rfl (by kernel_rfl) (by kernel_rfl) (by kernel_rfl) (fun _ _ _ h => h) rfl (fun w' h => by obtain ⟨z0, z1, z2, z3, z4, z5, z6, z7, z8⟩ := h; go_simp) HS.out ?_
        go_frame
        refine takeH 3 45 (.int .i64 (room : Int)) rfl rfl (by kernel_rfl) (by kernel_rfl) (by kernel_rfl) (fun _ _ _ h => h) rfl (fun w' h => by obtain ⟨z0, z1, z2, z3, z4, z5, z6, z7, z8⟩ := h; go_simp) HS.out ?_
        go_frame
        refine takeH 4 46 (.agg #[.slice AA K C, .int .i64 R, .bool false, .int .i64 lo]) rfl rfl (by kernel_rfl) (by kernel_rfl) (by kernel_rfl) (fun _ _ _ h => h) rfl (fun w' h => by obtain ⟨z0, z1, z2, z3, z4, z5, z6, z7, z8⟩ := h; go_simp) HS.out ?_
        go_frame
        refine wpAnyH_all (rs := [5]) (by kernel_rfl) (by simp) ?_
        simp only [List.mem_singleton, forall_eq]
        refine wpOp_callD 47 rfl rfl rfl 29 #[.agg #[.slice AA K C, .int .i64 R, .bool false, .int .i64 lo]] (by go_simp) ?_
        refine (HWT.out W8.drew).mono ?_
        rintro e w9 ⟨rfl, hB9⟩
        have hb9 : Below W8.heap.size W8 w9 := ⟨hB9.os, hB9.tape, hB9.output, hB9.size, hB9.block⟩
        have HS9 := Lib.hid (HKK.out w9 hb9)
        have HB9 := Lib.hid hb9
        clear hB9 hb9
        refine ⟨_, rfl, HS9.out, ?_⟩
        go_frame
        refine takeH 6 48 (.int .i64 ((room : Int) - N)) rfl rfl (by kernel_rfl) (by kernel_rfl) (by kernel_rfl) (fun _ _ _ h => h) rfl (fun w' h => by go_simp) HS9.out ?_
        go_frame
        refine takeH 7 9 (.int .i64 ((room : Int) - N)) rfl rfl (by kernel_rfl) (by kernel_rfl) (by kernel_rfl) (fun _ _ _ h => h) rfl (fun w' h => by go_simp) HS9.out ?_
        go_frame
        refine wpAnyH_done (by kernel_rfl) ?_ _
        refine NoPanic.normal ?_
        have m2 := HS9.out.2.2.2.2.2.2.2.1
        go_wp2_with fail
        refine wp_region_noPanic ?_
        refine wp_region_held (S := fun w' => w'.cell? ⟨c, 0, none⟩ = some (.int .i64 (room : Int)) ∧ w'.cell? ⟨g6, 0, none⟩ = some (.int .i64 N) ∧ w'.cell? ⟨g6, 1, none⟩ = some (.bool false) ∧ w'.cell? ⟨g6, 2, none⟩ = some (.int .u64 (K : Int)) ∧ w'.cell? ⟨g6, 3, none⟩ = some (.int .u64 R) ∧ w'.cell? ⟨g8, 0, none⟩ = some (.slice AA K C) ∧ w'.cell? ⟨g8, 1, none⟩ = some (.int .i64 R) ∧ w'.cell? ⟨g8, 2, none⟩ = some (.bool false) ∧ w'.cell? ⟨g8, 3, none⟩ = some (.int .i64 lo)) (by kernel_rfl) ?_
        change wpAnyH _ _ _ _ _ _ _ _ w9.drew
        have HT := Lib.hid (show w9.drew.cell? ⟨c, 0, none⟩ = some (.int .i64 (room : Int)) ∧ w9.drew.cell? ⟨g6, 0, none⟩ = some (.int .i64 N) ∧ w9.drew.cell? ⟨g6, 1, none⟩ = some (.bool false) ∧ w9.drew.cell? ⟨g6, 2, none⟩ = some (.int .u64 (K : Int)) ∧ w9.drew.cell? ⟨g6, 3, none⟩ = some (.int .u64 R) ∧ w9.drew.cell? ⟨g8, 0, none⟩ = some (.slice AA K C) ∧ w9.drew.cell? ⟨g8, 1, none⟩ = some (.int .i64 R) ∧ w9.drew.cell? ⟨g8, 2, none⟩ = some (.bool false) ∧ w9.drew.cell? ⟨g8, 3, none⟩ = some (.int .i64 lo) from HS9.out)
        refine takeH 0 51 (.int .i64 0) rfl rfl (by kernel_rfl) (by kernel_rfl) (by kernel_rfl) (fun _ _ _ h => h) rfl (fun w' h => by obtain ⟨z0, z1, z2, z3, z4, z5, z6, z7, z8⟩ := h; go_simp) HT.out ?_
        go_frame
        refine takeH 1 52 (.bool false) rfl rfl (by kernel_rfl) (by kernel_rfl) (by kernel_rfl) (fun _ _ _ h => h) rfl (fun w' h => by obtain ⟨z0, z1, z2, z3, z4, z5, z6, z7, z8⟩ := h; go_simp) HT.out ?_
        go_frame
        refine takeH 2 53 (.bool false) rfl rfl (by kernel_rfl) (by kernel_rfl) (by kernel_rfl) (fun _ _ _ h => h) rfl (fun w' h => by obtain ⟨z0, z1, z2, z3, z4, z5, z6, z7, z8⟩ := h; go_simp) HT.out ?_
        go_frame
        refine takeH 3 54 (.pointer (some ⟨g6, 0, none⟩)) rfl rfl (by kernel_rfl) (by kernel_rfl) (by kernel_rfl) (fun _ _ _ h => h) rfl (fun w' h => by obtain ⟨z0, z1, z2, z3, z4, z5, z6, z7, z8⟩ := h; go_simp) HT.out ?_
        go_frame
        refine takeH 4 55 (.int .i64 N) rfl rfl (by kernel_rfl) (by kernel_rfl) (by kernel_rfl) (fun _ _ _ h => h) rfl (fun w' h => by obtain ⟨z0, z1, z2, z3, z4, z5, z6, z7, z8⟩ := h; go_simp) HT.out ?_
        go_frame
        refine takeH 5 56 (.agg #[.slice AA K C, .int .i64 R, .bool false, .int .i64 lo]) rfl rfl (by kernel_rfl) (by kernel_rfl) (by kernel_rfl) (fun _ _ _ h => h) rfl (fun w' h => by obtain ⟨z0, z1, z2, z3, z4, z5, z6, z7, z8⟩ := h; go_simp) HT.out ?_
        go_frame
        refine wpAnyH_all (rs := [6]) (by kernel_rfl) (by simp) ?_
        simp only [List.mem_singleton, forall_eq]
        refine wpOp_callD 57 rfl rfl rfl 29 #[.agg #[.slice AA K C, .int .i64 R, .bool false, .int .i64 lo]] (by go_simp) ?_
        refine (HWT.out w9.drew).mono ?_
        rintro e w10 ⟨rfl, hB10⟩
        have hb10 : Below W8.heap.size W8 w10 := HB9.out.trans ((show Below w9.heap.size w9 w10 from ⟨hB10.os, hB10.tape, hB10.output, hB10.size, hB10.block⟩).mono HB9.out.size)
        have HS10 := Lib.hid (HKK.out w10 hb10)
        have HB10 := Lib.hid hb10
        clear hB10 hb10
        refine ⟨_, rfl, HS10.out, ?_⟩
        go_frame
        refine takeH 7 58 (.bool false) rfl rfl (by kernel_rfl) (by kernel_rfl) (by kernel_rfl) (fun _ _ _ h => h) rfl (fun w' h => by obtain ⟨z0, z1, z2, z3, z4, z5, z6, z7, z8⟩ := h; go_simp) HS10.out ?_
        go_frame
        refine takeH 8 59 (.bool false) rfl rfl (by kernel_rfl) (by kernel_rfl) (by kernel_rfl) (fun _ _ _ h => h) rfl (fun w' h => by obtain ⟨z0, z1, z2, z3, z4, z5, z6, z7, z8⟩ := h; go_simp) HS10.out ?_
        go_frame
        refine takeH 9 60 (.bool false) rfl rfl (by kernel_rfl) (by kernel_rfl) (by kernel_rfl) (fun _ _ _ h => h) rfl (fun w' h => by obtain ⟨z0, z1, z2, z3, z4, z5, z6, z7, z8⟩ := h; go_simp) HS10.out ?_
        go_frame
        refine takeH 10 61 (.pointer (some ⟨g6, 1, none⟩)) rfl rfl (by kernel_rfl) (by kernel_rfl) (by kernel_rfl) (fun _ _ _ h => h) rfl (fun w' h => by obtain ⟨z0, z1, z2, z3, z4, z5, z6, z7, z8⟩ := h; go_simp) HS10.out ?_
        go_frame
        refine takeH 11 62 (.bool false) rfl rfl (by kernel_rfl) (by kernel_rfl) (by kernel_rfl) (fun _ _ _ h => h) rfl (fun w' h => by obtain ⟨z0, z1, z2, z3, z4, z5, z6, z7, z8⟩ := h; go_simp) HS10.out ?_
        go_frame
        refine takeH 12 63 (.pointer (some ⟨g8, 2, none⟩)) rfl rfl (by kernel_rfl) (by kernel_rfl) (by kernel_rfl) (fun _ _ _ h => h) rfl (fun w' h => by obtain ⟨z0, z1, z2, z3, z4, z5, z6, z7, z8⟩ := h; go_simp) HS10.out ?_
        go_frame
        refine takeH 13 64 (.bool false) rfl rfl (by kernel_rfl) (by kernel_rfl) (by kernel_rfl) (fun _ _ _ h => h) rfl (fun w' h => by obtain ⟨z0, z1, z2, z3, z4, z5, z6, z7, z8⟩ := h; go_simp) HS10.out ?_
        go_frame
        refine takeH 14 65 (.bool false) rfl rfl (by kernel_rfl) (by kernel_rfl) (by kernel_rfl) (fun _ _ _ h => h) rfl (fun w' h => by obtain ⟨z0, z1, z2, z3, z4, z5, z6, z7, z8⟩ := h; go_simp) HS10.out ?_
        go_frame
        refine takeH 15 66 (.bool false) rfl rfl (by kernel_rfl) (by kernel_rfl) (by kernel_rfl) (fun _ _ _ h => h) rfl (fun w' h => by obtain ⟨z0, z1, z2, z3, z4, z5, z6, z7, z8⟩ := h; go_simp) HS10.out ?_
        go_frame
        refine takeH 16 67 (.bool false) rfl rfl (by kernel_rfl) (by kernel_rfl) (by kernel_rfl) (fun _ _ _ h => h) rfl (fun w' h => by obtain ⟨z0, z1, z2, z3, z4, z5, z6, z7, z8⟩ := h; go_simp) HS10.out ?_
        go_frame
        refine takeH 17 68 (.pointer (some ⟨g6, 2, none⟩)) rfl rfl (by kernel_rfl) (by kernel_rfl) (by kernel_rfl) (fun _ _ _ h => h) rfl (fun w' h => by obtain ⟨z0, z1, z2, z3, z4, z5, z6, z7, z8⟩ := h; go_simp) HS10.out ?_
        go_frame
        refine takeH 18 69 (.int .u64 (K : Int)) rfl rfl (by kernel_rfl) (by kernel_rfl) (by kernel_rfl) (fun _ _ _ h => h) rfl (fun w' h => by obtain ⟨z0, z1, z2, z3, z4, z5, z6, z7, z8⟩ := h; go_simp) HS10.out ?_
        go_frame
        refine takeH 19 70 (.pointer (some ⟨g8, 0, none⟩)) rfl rfl (by kernel_rfl) (by kernel_rfl) (by kernel_rfl) (fun _ _ _ h => h) rfl (fun w' h => by obtain ⟨z0, z1, z2, z3, z4, z5, z6, z7, z8⟩ := h; go_simp) HS10.out ?_
        go_frame
        refine takeH 20 71 (.slice AA K C) rfl rfl (by kernel_rfl) (by kernel_rfl) (by kernel_rfl) (fun _ _ _ h => h) rfl (fun w' h => by obtain ⟨z0, z1, z2, z3, z4, z5, z6, z7, z8⟩ := h; go_simp) HS10.out ?_
        go_frame
        refine takeH 21 72 (.int .i64 (K : Int)) rfl rfl (by kernel_rfl) (by kernel_rfl) (by kernel_rfl) (fun _ _ _ h => h) rfl (fun w' h => by obtain ⟨z0, z1, z2, z3, z4, z5, z6, z7, z8⟩ := h; go_simp) HS10.out ?_
        go_frame
        refine takeH 22 73 (.int .u64 (K : Int)) rfl rfl (by kernel_rfl) (by kernel_rfl) (by kernel_rfl) (fun _ _ _ h => h) rfl (fun w' h => by obtain ⟨z0, z1, z2, z3, z4, z5, z6, z7, z8⟩ := h; go_simp) HS10.out ?_
        go_frame
        refine takeH 23 74 (.bool false) rfl rfl (by kernel_rfl) (by kernel_rfl) (by kernel_rfl) (fun _ _ _ h => h) rfl (fun w' h => by obtain ⟨z0, z1, z2, z3, z4, z5, z6, z7, z8⟩ := h; go_simp) HS10.out ?_
        go_frame
        refine takeH 24 75 (.bool false) rfl rfl (by kernel_rfl) (by kernel_rfl) (by kernel_rfl) (fun _ _ _ h => h) rfl (fun w' h => by obtain ⟨z0, z1, z2, z3, z4, z5, z6, z7, z8⟩ := h; go_simp) HS10.out ?_
        go_frame
        refine takeH 25 76 (.bool false) rfl rfl (by kernel_rfl) (by kernel_rfl) (by kernel_rfl) (fun _ _ _ h => h) rfl (fun w' h => by obtain ⟨z0, z1, z2, z3, z4, z5, z6, z7, z8⟩ := h; go_simp) HS10.out ?_
        go_frame
        refine takeH 26 77 (.pointer (some ⟨g6, 3, none⟩)) rfl rfl (by kernel_rfl) (by kernel_rfl) (by kernel_rfl) (fun _ _ _ h => h) rfl (fun w' h => by obtain ⟨z0, z1, z2, z3, z4, z5, z6, z7, z8⟩ := h; go_simp) HS10.out ?_
        go_frame
        refine takeH 27 78 (.int .u64 R) rfl rfl (by kernel_rfl) (by kernel_rfl) (by kernel_rfl) (fun _ _ _ h => h) rfl (fun w' h => by obtain ⟨z0, z1, z2, z3, z4, z5, z6, z7, z8⟩ := h; go_simp) HS10.out ?_
        go_frame
        refine takeH 28 79 (.pointer (some ⟨g8, 1, none⟩)) rfl rfl (by kernel_rfl) (by kernel_rfl) (by kernel_rfl) (fun _ _ _ h => h) rfl (fun w' h => by obtain ⟨z0, z1, z2, z3, z4, z5, z6, z7, z8⟩ := h; go_simp) HS10.out ?_
        go_frame
        refine takeH 29 80 (.int .i64 R) rfl rfl (by kernel_rfl) (by kernel_rfl) (by kernel_rfl) (fun _ _ _ h => h) rfl (fun w' h => by obtain ⟨z0, z1, z2, z3, z4, z5, z6, z7, z8⟩ := h; go_simp) HS10.out ?_
        go_frame
        refine takeH 30 81 (.int .u64 R) rfl rfl (by kernel_rfl) (by kernel_rfl) (by kernel_rfl) (fun _ _ _ h => h) rfl (fun w' h => by obtain ⟨z0, z1, z2, z3, z4, z5, z6, z7, z8⟩ := h; go_simp) HS10.out ?_
        go_frame
        refine takeH 31 82 (.bool false) rfl rfl (by kernel_rfl) (by kernel_rfl) (by kernel_rfl) (fun _ _ _ h => h) rfl (fun w' h => by obtain ⟨z0, z1, z2, z3, z4, z5, z6, z7, z8⟩ := h; go_simp) HS10.out ?_
        go_frame
        refine takeH 32 83 (.bool false) rfl rfl (by kernel_rfl) (by kernel_rfl) (by kernel_rfl) (fun _ _ _ h => h) rfl (fun w' h => by obtain ⟨z0, z1, z2, z3, z4, z5, z6, z7, z8⟩ := h; go_simp) HS10.out ?_
        go_frame
        refine takeH 33 84 (.bool false) rfl rfl (by kernel_rfl) (by kernel_rfl) (by kernel_rfl) (fun _ _ _ h => h) rfl (fun w' h => by obtain ⟨z0, z1, z2, z3, z4, z5, z6, z7, z8⟩ := h; go_simp) HS10.out ?_
        go_frame
        refine takeH 34 85 (tP b) rfl rfl (by kernel_rfl) (by kernel_rfl) (by kernel_rfl) (fun _ _ _ h => h) rfl (fun w' h => by obtain ⟨z0, z1, z2, z3, z4, z5, z6, z7, z8⟩ := h; go_simp) HS10.out ?_
        go_frame
        refine takeH 35 86 (.int .i64 0) rfl rfl (by kernel_rfl) (by kernel_rfl) (by kernel_rfl) (fun _ _ _ h => h) rfl (fun w' h => by obtain ⟨z0, z1, z2, z3, z4, z5, z6, z7, z8⟩ := h; go_simp) HS10.out ?_
        go_frame
        refine takeH 37 88 (.int .i64 ((room : Int) - N)) rfl rfl (by kernel_rfl) (by kernel_rfl) (by kernel_rfl) (fun _ _ _ h => h) rfl (fun w' h => by obtain ⟨z0, z1, z2, z3, z4, z5, z6, z7, z8⟩ := h; go_simp) HS10.out ?_
        go_frame
        refine wpAnyH_all (rs := [36]) (by kernel_rfl) (by simp) ?_
        simp only [List.mem_singleton, forall_eq]
        refine wpOp_callD 87 rfl rfl rfl 17 #[tP b, .int .i64 0] (by go_simp) ?_
        refine (HRM2.out w10 (HP8.out.below HB10.out)).mono ?_
        rintro e w11 ⟨rfl, q, hw11⟩
        have hb11 : Below W8.heap.size W8 w11 := by rw [hw11]; exact below_drewN HB10.out q
        have HS11 := Lib.hid (HKK.out w11 hb11)
        have HB11 := Lib.hid hb11
        clear hw11 hb11
        refine ⟨_, rfl, HS11.out, ?_⟩
        go_frame
        refine takeH 38 89 (.bool false) rfl rfl (by kernel_rfl) (by kernel_rfl) (by kernel_rfl) (fun _ _ _ h => h) rfl (fun w' h => by go_simp) HS11.out ?_
        go_frame
        refine takeH 39 90 (.bool false) rfl rfl (by kernel_rfl) (by kernel_rfl) (by kernel_rfl) (fun _ _ _ h => h) rfl (fun w' h => by go_simp) HS11.out ?_
        go_frame
        refine wpAnyH_done (by kernel_rfl) ?_ _
        refine NoPanic.normal ?_
        have HF := Lib.hid (HP8.out.below HB11.out)
        have HG2 := Lib.hid (HB8.out.trans (HB11.out.mono HB8.out.size))
        clear m2
        go_wp2_with fail
        exact ⟨⟨1, by omega, rfl, HF.out, HG2.out⟩, by simp [intOf]⟩
      | true =>
        have hrm2 : ∀ W, PB W base b c room V H X A Y → Calls Tryd.prog 17 #[tP b, .int .i64 0] W fun e w' => e = .returned (.int .i64 0) ∧ ∃ q, w' = W.drewN q := fun W hW => by
          have h := HRM.out W hW
          rw [if_pos rfl] at h
          exact h
        have HRM2 := Lib.hid hrm2
        clear hrm2 HRM
        go_wp2_with fail
        obtain ⟨g6, hg6⟩ : ∃ g, g = w3.heap.size := ⟨_, rfl⟩
        obtain ⟨g8, hg8⟩ : ∃ g, g = W6.heap.size := ⟨_, rfl⟩
        rw [HG.out]
        rw [← hg6] at HK6 ⊢
        rw [← hg8] at HK8 ⊢
        clear hw86 hg6 hg8 k0 k1 k2 k3
        have hl6 : g6 < W8.heap.size := HK6.out.lt
        have hl8 : g8 < W8.heap.size := HK8.out.lt
        have hlc : c < W8.heap.size := HP8.out.x.blk.lt
        have hkk : ∀ W, Below W8.heap.size W8 W → (W.cell? ⟨c, 0, none⟩ = some (.int .i64 (room : Int)) ∧ W.cell? ⟨g6, 0, none⟩ = some (.int .i64 N) ∧ W.cell? ⟨g6, 1, none⟩ = some (.bool true) ∧ W.cell? ⟨g6, 2, none⟩ = some (.int .u64 (K : Int)) ∧ W.cell? ⟨g6, 3, none⟩ = some (.int .u64 R) ∧ W.cell? ⟨g8, 0, none⟩ = some (.slice AA K C) ∧ W.cell? ⟨g8, 1, none⟩ = some (.int .i64 R) ∧ W.cell? ⟨g8, 2, none⟩ = some (.bool true) ∧ W.cell? ⟨g8, 3, none⟩ = some (.int .i64 lo)) := fun W hb => ⟨(hb.cell (p := ⟨c, 0, none⟩) hlc).trans kr8, (HK6.out.below hb hl6).at (o := 0) rfl, (HK6.out.below hb hl6).at (o := 1) rfl, (HK6.out.below hb hl6).at (o := 2) rfl, (HK6.out.below hb hl6).at (o := 3) rfl, (HK8.out.below hb hl8).at (o := 0) rfl, (HK8.out.below hb hl8).at (o := 1) rfl, (HK8.out.below hb hl8).at (o := 2) rfl, (HK8.out.below hb hl8).at (o := 3) rfl⟩
        have HKK := Lib.hid hkk
        have HS := Lib.hid (hkk W8.drew (Below.refl _ _).drew)
        clear hkk kr8
        refine wp_region_noPanic ?_
        refine wp_region_held (S := fun w' => w'.cell? ⟨c, 0, none⟩ = some (.int .i64 (room : Int)) ∧ w'.cell? ⟨g6, 0, none⟩ = some (.int .i64 N) ∧ w'.cell? ⟨g6, 1, none⟩ = some (.bool true) ∧ w'.cell? ⟨g6, 2, none⟩ = some (.int .u64 (K : Int)) ∧ w'.cell? ⟨g6, 3, none⟩ = some (.int .u64 R) ∧ w'.cell? ⟨g8, 0, none⟩ = some (.slice AA K C) ∧ w'.cell? ⟨g8, 1, none⟩ = some (.int .i64 R) ∧ w'.cell? ⟨g8, 2, none⟩ = some (.bool true) ∧ w'.cell? ⟨g8, 3, none⟩ = some (.int .i64 lo)) (by kernel_rfl) ?_
        change wpAnyH _ _ _ _ _ _ _ _ W8.drew
        refine takeH 0 42 (tP c) rfl rfl (by kernel_rfl) (by kernel_rfl) (by kernel_rfl) (fun _ _ _ h => h) rfl (fun w' h => by obtain ⟨z0, z1, z2, z3, z4, z5, z6, z7, z8⟩ := h; go_simp) HS.out ?_
        go_frame
        refine takeH 1 43 (tP c) rfl rfl (by kernel_rfl) (by kernel_rfl) (by kernel_rfl) (fun _ _ _ h => h) rfl (fun w' h => by obtain ⟨z0, z1, z2, z3, z4, z5, z6, z7, z8⟩ := h; go_simp) HS.out ?_
        go_frame
        refine takeH 2 44 (tP c) rfl rfl (by kernel_rfl) (by kernel_rfl) (by kernel_rfl) (fun _ _ _ h => h) rfl (fun w' h => by obtain ⟨z0, z1, z2, z3, z4, z5, z6, z7, z8⟩ := h; go_simp) HS.out ?_
        go_frame
        refine takeH 3 45 (.int .i64 (room : Int)) rfl rfl (by kernel_rfl) (by kernel_rfl) (by kernel_rfl) (fun _ _ _ h => h) rfl (fun w' h => by obtain ⟨z0, z1, z2, z3, z4, z5, z6, z7, z8⟩ := h; go_simp) HS.out ?_
        go_frame
        refine takeH 4 46 (.agg #[.slice AA K C, .int .i64 R, .bool true, .int .i64 lo]) rfl rfl (by kernel_rfl) (by kernel_rfl) (by kernel_rfl) (fun _ _ _ h => h) rfl (fun w' h => by obtain ⟨z0, z1, z2, z3, z4, z5, z6, z7, z8⟩ := h; go_simp) HS.out ?_
        go_frame
        refine wpAnyH_all (rs := [5]) (by kernel_rfl) (by simp) ?_
        simp only [List.mem_singleton, forall_eq]
        refine wpOp_callD 47 rfl rfl rfl 29 #[.agg #[.slice AA K C, .int .i64 R, .bool true, .int .i64 lo]] (by go_simp) ?_
        refine (HWT.out W8.drew).mono ?_
        rintro e w9 ⟨rfl, hB9⟩
        have hb9 : Below W8.heap.size W8 w9 := ⟨hB9.os, hB9.tape, hB9.output, hB9.size, hB9.block⟩
        have HS9 := Lib.hid (HKK.out w9 hb9)
        have HB9 := Lib.hid hb9
        clear hB9 hb9
        refine ⟨_, rfl, HS9.out, ?_⟩
        go_frame
        refine takeH 6 48 (.int .i64 ((room : Int) - N)) rfl rfl (by kernel_rfl) (by kernel_rfl) (by kernel_rfl) (fun _ _ _ h => h) rfl (fun w' h => by go_simp) HS9.out ?_
        go_frame
        refine takeH 7 9 (.int .i64 ((room : Int) - N)) rfl rfl (by kernel_rfl) (by kernel_rfl) (by kernel_rfl) (fun _ _ _ h => h) rfl (fun w' h => by go_simp) HS9.out ?_
        go_frame
        refine wpAnyH_done (by kernel_rfl) ?_ _
        refine NoPanic.normal ?_
        have m2 := HS9.out.2.2.2.2.2.2.2.1
        go_wp2_with fail
        refine wp_region_noPanic ?_
        refine wp_region_held (S := fun w' => w'.cell? ⟨c, 0, none⟩ = some (.int .i64 (room : Int)) ∧ w'.cell? ⟨g6, 0, none⟩ = some (.int .i64 N) ∧ w'.cell? ⟨g6, 1, none⟩ = some (.bool true) ∧ w'.cell? ⟨g6, 2, none⟩ = some (.int .u64 (K : Int)) ∧ w'.cell? ⟨g6, 3, none⟩ = some (.int .u64 R) ∧ w'.cell? ⟨g8, 0, none⟩ = some (.slice AA K C) ∧ w'.cell? ⟨g8, 1, none⟩ = some (.int .i64 R) ∧ w'.cell? ⟨g8, 2, none⟩ = some (.bool true) ∧ w'.cell? ⟨g8, 3, none⟩ = some (.int .i64 lo)) (by kernel_rfl) ?_
        change wpAnyH _ _ _ _ _ _ _ _ w9.drew
        have HT := Lib.hid (show w9.drew.cell? ⟨c, 0, none⟩ = some (.int .i64 (room : Int)) ∧ w9.drew.cell? ⟨g6, 0, none⟩ = some (.int .i64 N) ∧ w9.drew.cell? ⟨g6, 1, none⟩ = some (.bool true) ∧ w9.drew.cell? ⟨g6, 2, none⟩ = some (.int .u64 (K : Int)) ∧ w9.drew.cell? ⟨g6, 3, none⟩ = some (.int .u64 R) ∧ w9.drew.cell? ⟨g8, 0, none⟩ = some (.slice AA K C) ∧ w9.drew.cell? ⟨g8, 1, none⟩ = some (.int .i64 R) ∧ w9.drew.cell? ⟨g8, 2, none⟩ = some (.bool true) ∧ w9.drew.cell? ⟨g8, 3, none⟩ = some (.int .i64 lo) from HS9.out)
        refine takeH 0 51 (.int .i64 0) rfl rfl (by kernel_rfl) (by kernel_rfl) (by kernel_rfl) (fun _ _ _ h => h) rfl (fun w' h => by obtain ⟨z0, z1, z2, z3, z4, z5, z6, z7, z8⟩ := h; go_simp) HT.out ?_
        go_frame
        refine takeH 1 52 (.bool false) rfl rfl (by kernel_rfl) (by kernel_rfl) (by kernel_rfl) (fun _ _ _ h => h) rfl (fun w' h => by obtain ⟨z0, z1, z2, z3, z4, z5, z6, z7, z8⟩ := h; go_simp) HT.out ?_
        go_frame
        refine takeH 2 53 (.bool false) rfl rfl (by kernel_rfl) (by kernel_rfl) (by kernel_rfl) (fun _ _ _ h => h) rfl (fun w' h => by obtain ⟨z0, z1, z2, z3, z4, z5, z6, z7, z8⟩ := h; go_simp) HT.out ?_
        go_frame
        refine takeH 3 54 (.pointer (some ⟨g6, 0, none⟩)) rfl rfl (by kernel_rfl) (by kernel_rfl) (by kernel_rfl) (fun _ _ _ h => h) rfl (fun w' h => by obtain ⟨z0, z1, z2, z3, z4, z5, z6, z7, z8⟩ := h; go_simp) HT.out ?_
        go_frame
        refine takeH 4 55 (.int .i64 N) rfl rfl (by kernel_rfl) (by kernel_rfl) (by kernel_rfl) (fun _ _ _ h => h) rfl (fun w' h => by obtain ⟨z0, z1, z2, z3, z4, z5, z6, z7, z8⟩ := h; go_simp) HT.out ?_
        go_frame
        refine takeH 5 56 (.agg #[.slice AA K C, .int .i64 R, .bool true, .int .i64 lo]) rfl rfl (by kernel_rfl) (by kernel_rfl) (by kernel_rfl) (fun _ _ _ h => h) rfl (fun w' h => by obtain ⟨z0, z1, z2, z3, z4, z5, z6, z7, z8⟩ := h; go_simp) HT.out ?_
        go_frame
        refine wpAnyH_all (rs := [6]) (by kernel_rfl) (by simp) ?_
        simp only [List.mem_singleton, forall_eq]
        refine wpOp_callD 57 rfl rfl rfl 29 #[.agg #[.slice AA K C, .int .i64 R, .bool true, .int .i64 lo]] (by go_simp) ?_
        refine (HWT.out w9.drew).mono ?_
        rintro e w10 ⟨rfl, hB10⟩
        have hb10 : Below W8.heap.size W8 w10 := HB9.out.trans ((show Below w9.heap.size w9 w10 from ⟨hB10.os, hB10.tape, hB10.output, hB10.size, hB10.block⟩).mono HB9.out.size)
        have HS10 := Lib.hid (HKK.out w10 hb10)
        have HB10 := Lib.hid hb10
        clear hB10 hb10
        refine ⟨_, rfl, HS10.out, ?_⟩
        go_frame
        refine takeH 7 58 (.bool false) rfl rfl (by kernel_rfl) (by kernel_rfl) (by kernel_rfl) (fun _ _ _ h => h) rfl (fun w' h => by obtain ⟨z0, z1, z2, z3, z4, z5, z6, z7, z8⟩ := h; go_simp) HS10.out ?_
        go_frame
        refine takeH 8 59 (.bool false) rfl rfl (by kernel_rfl) (by kernel_rfl) (by kernel_rfl) (fun _ _ _ h => h) rfl (fun w' h => by obtain ⟨z0, z1, z2, z3, z4, z5, z6, z7, z8⟩ := h; go_simp) HS10.out ?_
        go_frame
        refine takeH 9 60 (.bool false) rfl rfl (by kernel_rfl) (by kernel_rfl) (by kernel_rfl) (fun _ _ _ h => h) rfl (fun w' h => by obtain ⟨z0, z1, z2, z3, z4, z5, z6, z7, z8⟩ := h; go_simp) HS10.out ?_
        go_frame
        refine takeH 10 61 (.pointer (some ⟨g6, 1, none⟩)) rfl rfl (by kernel_rfl) (by kernel_rfl) (by kernel_rfl) (fun _ _ _ h => h) rfl (fun w' h => by obtain ⟨z0, z1, z2, z3, z4, z5, z6, z7, z8⟩ := h; go_simp) HS10.out ?_
        go_frame
        refine takeH 11 62 (.bool true) rfl rfl (by kernel_rfl) (by kernel_rfl) (by kernel_rfl) (fun _ _ _ h => h) rfl (fun w' h => by obtain ⟨z0, z1, z2, z3, z4, z5, z6, z7, z8⟩ := h; go_simp) HS10.out ?_
        go_frame
        refine takeH 12 63 (.pointer (some ⟨g8, 2, none⟩)) rfl rfl (by kernel_rfl) (by kernel_rfl) (by kernel_rfl) (fun _ _ _ h => h) rfl (fun w' h => by obtain ⟨z0, z1, z2, z3, z4, z5, z6, z7, z8⟩ := h; go_simp) HS10.out ?_
        go_frame
        refine takeH 13 64 (.bool true) rfl rfl (by kernel_rfl) (by kernel_rfl) (by kernel_rfl) (fun _ _ _ h => h) rfl (fun w' h => by obtain ⟨z0, z1, z2, z3, z4, z5, z6, z7, z8⟩ := h; go_simp) HS10.out ?_
        go_frame
        refine takeH 14 65 (.bool false) rfl rfl (by kernel_rfl) (by kernel_rfl) (by kernel_rfl) (fun _ _ _ h => h) rfl (fun w' h => by obtain ⟨z0, z1, z2, z3, z4, z5, z6, z7, z8⟩ := h; go_simp) HS10.out ?_
        go_frame
        refine takeH 15 66 (.bool false) rfl rfl (by kernel_rfl) (by kernel_rfl) (by kernel_rfl) (fun _ _ _ h => h) rfl (fun w' h => by obtain ⟨z0, z1, z2, z3, z4, z5, z6, z7, z8⟩ := h; go_simp) HS10.out ?_
        go_frame
        refine takeH 16 67 (.bool false) rfl rfl (by kernel_rfl) (by kernel_rfl) (by kernel_rfl) (fun _ _ _ h => h) rfl (fun w' h => by obtain ⟨z0, z1, z2, z3, z4, z5, z6, z7, z8⟩ := h; go_simp) HS10.out ?_
        go_frame
        refine takeH 17 68 (.pointer (some ⟨g6, 2, none⟩)) rfl rfl (by kernel_rfl) (by kernel_rfl) (by kernel_rfl) (fun _ _ _ h => h) rfl (fun w' h => by obtain ⟨z0, z1, z2, z3, z4, z5, z6, z7, z8⟩ := h; go_simp) HS10.out ?_
        go_frame
        refine takeH 18 69 (.int .u64 (K : Int)) rfl rfl (by kernel_rfl) (by kernel_rfl) (by kernel_rfl) (fun _ _ _ h => h) rfl (fun w' h => by obtain ⟨z0, z1, z2, z3, z4, z5, z6, z7, z8⟩ := h; go_simp) HS10.out ?_
        go_frame
        refine takeH 19 70 (.pointer (some ⟨g8, 0, none⟩)) rfl rfl (by kernel_rfl) (by kernel_rfl) (by kernel_rfl) (fun _ _ _ h => h) rfl (fun w' h => by obtain ⟨z0, z1, z2, z3, z4, z5, z6, z7, z8⟩ := h; go_simp) HS10.out ?_
        go_frame
        refine takeH 20 71 (.slice AA K C) rfl rfl (by kernel_rfl) (by kernel_rfl) (by kernel_rfl) (fun _ _ _ h => h) rfl (fun w' h => by obtain ⟨z0, z1, z2, z3, z4, z5, z6, z7, z8⟩ := h; go_simp) HS10.out ?_
        go_frame
        refine takeH 21 72 (.int .i64 (K : Int)) rfl rfl (by kernel_rfl) (by kernel_rfl) (by kernel_rfl) (fun _ _ _ h => h) rfl (fun w' h => by obtain ⟨z0, z1, z2, z3, z4, z5, z6, z7, z8⟩ := h; go_simp) HS10.out ?_
        go_frame
        refine takeH 22 73 (.int .u64 (K : Int)) rfl rfl (by kernel_rfl) (by kernel_rfl) (by kernel_rfl) (fun _ _ _ h => h) rfl (fun w' h => by obtain ⟨z0, z1, z2, z3, z4, z5, z6, z7, z8⟩ := h; go_simp) HS10.out ?_
        go_frame
        refine takeH 23 74 (.bool false) rfl rfl (by kernel_rfl) (by kernel_rfl) (by kernel_rfl) (fun _ _ _ h => h) rfl (fun w' h => by obtain ⟨z0, z1, z2, z3, z4, z5, z6, z7, z8⟩ := h; go_simp) HS10.out ?_
        go_frame
        refine takeH 24 75 (.bool false) rfl rfl (by kernel_rfl) (by kernel_rfl) (by kernel_rfl) (fun _ _ _ h => h) rfl (fun w' h => by obtain ⟨z0, z1, z2, z3, z4, z5, z6, z7, z8⟩ := h; go_simp) HS10.out ?_
        go_frame
        refine takeH 25 76 (.bool false) rfl rfl (by kernel_rfl) (by kernel_rfl) (by kernel_rfl) (fun _ _ _ h => h) rfl (fun w' h => by obtain ⟨z0, z1, z2, z3, z4, z5, z6, z7, z8⟩ := h; go_simp) HS10.out ?_
        go_frame
        refine takeH 26 77 (.pointer (some ⟨g6, 3, none⟩)) rfl rfl (by kernel_rfl) (by kernel_rfl) (by kernel_rfl) (fun _ _ _ h => h) rfl (fun w' h => by obtain ⟨z0, z1, z2, z3, z4, z5, z6, z7, z8⟩ := h; go_simp) HS10.out ?_
        go_frame
        refine takeH 27 78 (.int .u64 R) rfl rfl (by kernel_rfl) (by kernel_rfl) (by kernel_rfl) (fun _ _ _ h => h) rfl (fun w' h => by obtain ⟨z0, z1, z2, z3, z4, z5, z6, z7, z8⟩ := h; go_simp) HS10.out ?_
        go_frame
        refine takeH 28 79 (.pointer (some ⟨g8, 1, none⟩)) rfl rfl (by kernel_rfl) (by kernel_rfl) (by kernel_rfl) (fun _ _ _ h => h) rfl (fun w' h => by obtain ⟨z0, z1, z2, z3, z4, z5, z6, z7, z8⟩ := h; go_simp) HS10.out ?_
        go_frame
        refine takeH 29 80 (.int .i64 R) rfl rfl (by kernel_rfl) (by kernel_rfl) (by kernel_rfl) (fun _ _ _ h => h) rfl (fun w' h => by obtain ⟨z0, z1, z2, z3, z4, z5, z6, z7, z8⟩ := h; go_simp) HS10.out ?_
        go_frame
        refine takeH 30 81 (.int .u64 R) rfl rfl (by kernel_rfl) (by kernel_rfl) (by kernel_rfl) (fun _ _ _ h => h) rfl (fun w' h => by obtain ⟨z0, z1, z2, z3, z4, z5, z6, z7, z8⟩ := h; go_simp) HS10.out ?_
        go_frame
        refine takeH 31 82 (.bool false) rfl rfl (by kernel_rfl) (by kernel_rfl) (by kernel_rfl) (fun _ _ _ h => h) rfl (fun w' h => by obtain ⟨z0, z1, z2, z3, z4, z5, z6, z7, z8⟩ := h; go_simp) HS10.out ?_
        go_frame
        refine takeH 32 83 (.bool false) rfl rfl (by kernel_rfl) (by kernel_rfl) (by kernel_rfl) (fun _ _ _ h => h) rfl (fun w' h => by obtain ⟨z0, z1, z2, z3, z4, z5, z6, z7, z8⟩ := h; go_simp) HS10.out ?_
        go_frame
        refine takeH 33 84 (.bool false) rfl rfl (by kernel_rfl) (by kernel_rfl) (by kernel_rfl) (fun _ _ _ h => h) rfl (fun w' h => by obtain ⟨z0, z1, z2, z3, z4, z5, z6, z7, z8⟩ := h; go_simp) HS10.out ?_
        go_frame
        refine takeH 34 85 (tP b) rfl rfl (by kernel_rfl) (by kernel_rfl) (by kernel_rfl) (fun _ _ _ h => h) rfl (fun w' h => by obtain ⟨z0, z1, z2, z3, z4, z5, z6, z7, z8⟩ := h; go_simp) HS10.out ?_
        go_frame
        refine takeH 35 86 (.int .i64 0) rfl rfl (by kernel_rfl) (by kernel_rfl) (by kernel_rfl) (fun _ _ _ h => h) rfl (fun w' h => by obtain ⟨z0, z1, z2, z3, z4, z5, z6, z7, z8⟩ := h; go_simp) HS10.out ?_
        go_frame
        refine takeH 37 88 (.int .i64 0) rfl rfl (by kernel_rfl) (by kernel_rfl) (by kernel_rfl) (fun _ _ _ h => h) rfl (fun w' h => by obtain ⟨z0, z1, z2, z3, z4, z5, z6, z7, z8⟩ := h; go_simp) HS10.out ?_
        go_frame
        refine wpAnyH_all (rs := [36]) (by kernel_rfl) (by simp) ?_
        simp only [List.mem_singleton, forall_eq]
        refine wpOp_callD 87 rfl rfl rfl 17 #[tP b, .int .i64 0] (by go_simp) ?_
        refine (HRM2.out w10 (HP8.out.below HB10.out)).mono ?_
        rintro e w11 ⟨rfl, q, hw11⟩
        have hb11 : Below W8.heap.size W8 w11 := by rw [hw11]; exact below_drewN HB10.out q
        have HS11 := Lib.hid (HKK.out w11 hb11)
        have HB11 := Lib.hid hb11
        clear hw11 hb11
        refine ⟨_, rfl, HS11.out, ?_⟩
        go_frame
        refine takeH 38 89 (.bool false) rfl rfl (by kernel_rfl) (by kernel_rfl) (by kernel_rfl) (fun _ _ _ h => h) rfl (fun w' h => by go_simp) HS11.out ?_
        go_frame
        refine takeH 39 90 (.bool false) rfl rfl (by kernel_rfl) (by kernel_rfl) (by kernel_rfl) (fun _ _ _ h => h) rfl (fun w' h => by go_simp) HS11.out ?_
        go_frame
        refine wpAnyH_done (by kernel_rfl) ?_ _
        refine NoPanic.normal ?_
        have HF := Lib.hid (HP8.out.below HB11.out)
        have HG2 := Lib.hid (HB8.out.trans (HB11.out.mono HB8.out.size))
        clear m2
        go_wp2_with fail
        exact ⟨⟨1, by omega, rfl, HF.out, HG2.out⟩, by simp [intOf]⟩
    · have HLk := Lib.hid (look_1 HP.out.p)
      go_wp2_with fail
      refine HLk.out.mono ?_
      rintro e w3 ⟨u, rfl, hO3, hB3⟩
      rw [look_rel HP.out HREL.out 1 (by omega)]
      obtain ⟨uA, uC, rfl, _, _, _, _⟩ := hO3.sl
      obtain ⟨uN, huN⟩ : ∃ n, n = (sumL (X 1).read).length := ⟨_, rfl⟩
      rw [← huN]
      clear huN hO3
      have hp3 := HP.out.below hB3
      have hbw3 := HB.out.trans (hB3.mono HB.out.size)
      have hrr := room_rel (room := room) HREL.out 1 (by omega)
      obtain ⟨AA, C, hA, _, _, _, _⟩ := (hp3.x.own 1 (by omega)).sl
      have hfit := hp3.x.fit 1 (by omega)
      have hbig := hp3.x.big 1 (by omega)
      have hr2 := hp3.x.r2
      have hwl := hp3.x.waits 1 (by omega)
      have hzz : ((Y 1).all.length : Int) - ((Y 1).rd : Int) - ((Y 1).lost : Int) = ((Y 1).waits : Int) := by unfold WayR.waits; omega
      have hwt := fun W => rWaits_any AA (Y 1).all.length C ((Y 1).rd : Int) ((Y 1).lost : Int) (Y 1).shut W (by omega) (by omega) (by omega) hbig
      rw [hzz] at hwt
      have hrm := fun (W : World) (hW : PB W base b c room V H X A Y) => room_1 hW.p
      rw [hrr] at hrm
      have k0 : w3.cell? ⟨c, 5, none⟩ = some (.slice AA (Y 1).all.length C) := by rw [← hA]; exact hp3.x.blk.at (o := 5) rfl
      have k1 : w3.cell? ⟨c, 6, none⟩ = some (.int .i64 ((Y 1).rd : Int)) := hp3.x.blk.at (o := 6) rfl
      have k2 : w3.cell? ⟨c, 7, none⟩ = some (.bool (Y 1).shut) := hp3.x.blk.at (o := 7) rfl
      have k3 : w3.cell? ⟨c, 8, none⟩ = some (.int .i64 ((Y 1).lost : Int)) := hp3.x.blk.at (o := 8) rfl
      have hcl := hp3.x.blk.lt
      obtain ⟨N, hN⟩ : ∃ N : Int, N = ((Y 1).waits : Int) := ⟨_, rfl⟩
      obtain ⟨K, hK⟩ : ∃ K, K = (Y 1).all.length := ⟨_, rfl⟩
      obtain ⟨R, hR⟩ : ∃ R : Int, R = ((Y 1).rd : Int) := ⟨_, rfl⟩
      obtain ⟨lo, hlo⟩ : ∃ R : Int, R = ((Y 1).lost : Int) := ⟨_, rfl⟩
      have hR0 : 0 ≤ R ∧ R ≤ 400000 := by omega
      have hN0 : 0 ≤ N ∧ N ≤ (room : Int) := by omega
      rw [← hN] at hwt hrm
      rw [← hK] at k0 hwt hbig
      rw [← hR] at k1 hwt
      rw [← hlo] at k3 hwt
      rw [← hN, ← hK, ← hR]
      obtain ⟨s, hs⟩ : ∃ s, s = (Y 1).shut := ⟨_, rfl⟩
      rw [← hs] at k2 hwt hrm
      rw [← hs]
      obtain ⟨hR0, hR1⟩ := hR0
      obtain ⟨hN0, hN1⟩ := hN0
      have hNN : (N != N) = false := bne_self_eq_false _
      have hKK : ((K : Int) != (K : Int)) = false := bne_self_eq_false _
      have hRR : (R != R) = false := bne_self_eq_false _
      have hwr : IntKind.i64.wrap ((room : Int) - N) = (room : Int) - N := IntWalk.i64_in _ ⟨by omega, by omega⟩
      have hwk : IntKind.u64.wrap (K : Int) = (K : Int) := IntWalk.u64_in _ ⟨by omega, by omega⟩
      have hwR : IntKind.u64.wrap R = R := IntWalk.u64_in _ ⟨by omega, by omega⟩
      have HWT := Lib.hid hwt
      have HRM := Lib.hid hrm
      obtain ⟨W6, hW6⟩ : ∃ W, W = w3.alloc (.cells #[.int .i64 N, .bool s, .int .u64 (K : Int), .int .u64 R, .slice uA uN uC] 43) := ⟨_, rfl⟩
      obtain ⟨W8, hW8⟩ : ∃ W, W = W6.alloc (.cells #[.slice AA K C, .int .i64 R, .bool s, .int .i64 lo] 31) := ⟨_, rfl⟩
      have hB6 : Below w3.heap.size w3 W6 := by rw [hW6]; exact (Below.refl _ _).alloc (Nat.le_refl _) _
      have hB8 : Below W6.heap.size W6 W8 := by rw [hW8]; exact (Below.refl _ _).alloc (Nat.le_refl _) _
      have hK6 : Blk W6 w3.heap.size [.int .i64 N, .bool s, .int .u64 (K : Int), .int .u64 R, .slice uA uN uC] := by rw [hW6]; exact Blk.newA w3 #[.int .i64 N, .bool s, .int .u64 (K : Int), .int .u64 R, .slice uA uN uC] _
      have hz6 : W6.heap.size = w3.heap.size + 1 := by rw [hW6]; simp
      have hK8 : Blk W8 W6.heap.size [.slice AA K C, .int .i64 R, .bool s, .int .i64 lo] := by rw [hW8]; exact Blk.newA W6 #[.slice AA K C, .int .i64 R, .bool s, .int .i64 lo] _
      have hB38 : Below w3.heap.size w3 W8 := hB6.trans (hB8.mono (by omega))
      have HK6 := Lib.hid (hK6.below hB8 (by omega))
      have HK8 := Lib.hid hK8
      have HP8 := Lib.hid (hp3.below hB38)
      have HB8 := Lib.hid (hbw3.trans (hB38.mono hbw3.size))
      have hw86 : (w3.alloc (.cells #[.int .i64 N, .bool s, .int .u64 (K : Int), .int .u64 R, .slice uA uN uC] 43)).alloc (.cells #[.slice AA K C, .int .i64 R, .bool s, .int .i64 lo] 31) = W8 := by rw [hW8, hW6]
      have kr8 := HP8.out.x.blk.at (o := 0) rfl
      have HG := Lib.hid (show w3.heap.size + 1 = W6.heap.size from hz6.symm)
      clear hW6 hW8 hB6 hB8 hK6 hK8 hB38 hp3 hbw3 hB3 hA hfit hzz hwt hrm hrr hN hK hR hlo hs HLk
      cases s with
      | false =>
        have hrm2 : ∀ W, PB W base b c room V H X A Y → Calls Tryd.prog 17 #[tP b, .int .i64 1] W fun e w' => e = .returned (.int .i64 ((room : Int) - N)) ∧ ∃ q, w' = W.drewN q := fun W hW => by
          have h := HRM.out W hW
          rw [if_neg (by simp)] at h
          exact h
        have HRM2 := Lib.hid hrm2
        clear hrm2 HRM
        go_wp2_with fail
        obtain ⟨g6, hg6⟩ : ∃ g, g = w3.heap.size := ⟨_, rfl⟩
        obtain ⟨g8, hg8⟩ : ∃ g, g = W6.heap.size := ⟨_, rfl⟩
        rw [HG.out]
        rw [← hg6] at HK6 ⊢
        rw [← hg8] at HK8 ⊢
        clear hw86 hg6 hg8 k0 k1 k2 k3
        have hl6 : g6 < W8.heap.size := HK6.out.lt
        have hl8 : g8 < W8.heap.size := HK8.out.lt
        have hlc : c < W8.heap.size := HP8.out.x.blk.lt
        have hkk : ∀ W, Below W8.heap.size W8 W → (W.cell? ⟨c, 0, none⟩ = some (.int .i64 (room : Int)) ∧ W.cell? ⟨g6, 0, none⟩ = some (.int .i64 N) ∧ W.cell? ⟨g6, 1, none⟩ = some (.bool false) ∧ W.cell? ⟨g6, 2, none⟩ = some (.int .u64 (K : Int)) ∧ W.cell? ⟨g6, 3, none⟩ = some (.int .u64 R) ∧ W.cell? ⟨g8, 0, none⟩ = some (.slice AA K C) ∧ W.cell? ⟨g8, 1, none⟩ = some (.int .i64 R) ∧ W.cell? ⟨g8, 2, none⟩ = some (.bool false) ∧ W.cell? ⟨g8, 3, none⟩ = some (.int .i64 lo)) := fun W hb => ⟨(hb.cell (p := ⟨c, 0, none⟩) hlc).trans kr8, (HK6.out.below hb hl6).at (o := 0) rfl, (HK6.out.below hb hl6).at (o := 1) rfl, (HK6.out.below hb hl6).at (o := 2) rfl, (HK6.out.below hb hl6).at (o := 3) rfl, (HK8.out.below hb hl8).at (o := 0) rfl, (HK8.out.below hb hl8).at (o := 1) rfl, (HK8.out.below hb hl8).at (o := 2) rfl, (HK8.out.below hb hl8).at (o := 3) rfl⟩
        have HKK := Lib.hid hkk
        have HS := Lib.hid (hkk W8.drew (Below.refl _ _).drew)
        clear hkk kr8
        refine wp_region_noPanic ?_
        refine wp_region_held (S := fun w' => w'.cell? ⟨c, 0, none⟩ = some (.int .i64 (room : Int)) ∧ w'.cell? ⟨g6, 0, none⟩ = some (.int .i64 N) ∧ w'.cell? ⟨g6, 1, none⟩ = some (.bool false) ∧ w'.cell? ⟨g6, 2, none⟩ = some (.int .u64 (K : Int)) ∧ w'.cell? ⟨g6, 3, none⟩ = some (.int .u64 R) ∧ w'.cell? ⟨g8, 0, none⟩ = some (.slice AA K C) ∧ w'.cell? ⟨g8, 1, none⟩ = some (.int .i64 R) ∧ w'.cell? ⟨g8, 2, none⟩ = some (.bool false) ∧ w'.cell? ⟨g8, 3, none⟩ = some (.int .i64 lo)) (by kernel_rfl) ?_
        change wpAnyH _ _ _ _ _ _ _ _ W8.drew
        refine takeH 0 42 (tP c) rfl rfl (by kernel_rfl) (by kernel_rfl) (by kernel_rfl) (fun _ _ _ h => h) rfl (fun w' h => by obtain ⟨z0, z1, z2, z3, z4, z5, z6, z7, z8⟩ := h; go_simp) HS.out ?_
        go_frame
        refine takeH 1 43 (tP c) rfl rfl (by kernel_rfl) (by kernel_rfl) (by kernel_rfl) (fun _ _ _ h => h) rfl (fun w' h => by obtain ⟨z0, z1, z2, z3, z4, z5, z6, z7, z8⟩ := h; go_simp) HS.out ?_
        go_frame
        refine takeH 2 44 (tP c) rfl rfl (by kernel_rfl) (by kernel_rfl) (by kernel_rfl) (fun _ _ _ h => h) rfl (fun w' h => by obtain ⟨z0, z1, z2, z3, z4, z5, z6, z7, z8⟩ := h; go_simp) HS.out ?_
        go_frame
        refine takeH 3 45 (.int .i64 (room : Int)) rfl rfl (by kernel_rfl) (by kernel_rfl) (by kernel_rfl) (fun _ _ _ h => h) rfl (fun w' h => by obtain ⟨z0, z1, z2, z3, z4, z5, z6, z7, z8⟩ := h; go_simp) HS.out ?_
        go_frame
        refine takeH 4 46 (.agg #[.slice AA K C, .int .i64 R, .bool false, .int .i64 lo]) rfl rfl (by kernel_rfl) (by kernel_rfl) (by kernel_rfl) (fun _ _ _ h => h) rfl (fun w' h => by obtain ⟨z0, z1, z2, z3, z4, z5, z6, z7, z8⟩ := h; go_simp) HS.out ?_
        go_frame
        refine wpAnyH_all (rs := [5]) (by kernel_rfl) (by simp) ?_
        simp only [List.mem_singleton, forall_eq]
        refine wpOp_callD 47 rfl rfl rfl 29 #[.agg #[.slice AA K C, .int .i64 R, .bool false, .int .i64 lo]] (by go_simp) ?_
        refine (HWT.out W8.drew).mono ?_
        rintro e w9 ⟨rfl, hB9⟩
        have hb9 : Below W8.heap.size W8 w9 := ⟨hB9.os, hB9.tape, hB9.output, hB9.size, hB9.block⟩
        have HS9 := Lib.hid (HKK.out w9 hb9)
        have HB9 := Lib.hid hb9
        clear hB9 hb9
        refine ⟨_, rfl, HS9.out, ?_⟩
        go_frame
        refine takeH 6 48 (.int .i64 ((room : Int) - N)) rfl rfl (by kernel_rfl) (by kernel_rfl) (by kernel_rfl) (fun _ _ _ h => h) rfl (fun w' h => by go_simp) HS9.out ?_
        go_frame
        refine takeH 7 9 (.int .i64 ((room : Int) - N)) rfl rfl (by kernel_rfl) (by kernel_rfl) (by kernel_rfl) (fun _ _ _ h => h) rfl (fun w' h => by go_simp) HS9.out ?_
        go_frame
        refine wpAnyH_done (by kernel_rfl) ?_ _
        refine NoPanic.normal ?_
        have m2 := HS9.out.2.2.2.2.2.2.2.1
        go_wp2_with fail
        refine wp_region_noPanic ?_
        refine wp_region_held (S := fun w' => w'.cell? ⟨c, 0, none⟩ = some (.int .i64 (room : Int)) ∧ w'.cell? ⟨g6, 0, none⟩ = some (.int .i64 N) ∧ w'.cell? ⟨g6, 1, none⟩ = some (.bool false) ∧ w'.cell? ⟨g6, 2, none⟩ = some (.int .u64 (K : Int)) ∧ w'.cell? ⟨g6, 3, none⟩ = some (.int .u64 R) ∧ w'.cell? ⟨g8, 0, none⟩ = some (.slice AA K C) ∧ w'.cell? ⟨g8, 1, none⟩ = some (.int .i64 R) ∧ w'.cell? ⟨g8, 2, none⟩ = some (.bool false) ∧ w'.cell? ⟨g8, 3, none⟩ = some (.int .i64 lo)) (by kernel_rfl) ?_
        change wpAnyH _ _ _ _ _ _ _ _ w9.drew
        have HT := Lib.hid (show w9.drew.cell? ⟨c, 0, none⟩ = some (.int .i64 (room : Int)) ∧ w9.drew.cell? ⟨g6, 0, none⟩ = some (.int .i64 N) ∧ w9.drew.cell? ⟨g6, 1, none⟩ = some (.bool false) ∧ w9.drew.cell? ⟨g6, 2, none⟩ = some (.int .u64 (K : Int)) ∧ w9.drew.cell? ⟨g6, 3, none⟩ = some (.int .u64 R) ∧ w9.drew.cell? ⟨g8, 0, none⟩ = some (.slice AA K C) ∧ w9.drew.cell? ⟨g8, 1, none⟩ = some (.int .i64 R) ∧ w9.drew.cell? ⟨g8, 2, none⟩ = some (.bool false) ∧ w9.drew.cell? ⟨g8, 3, none⟩ = some (.int .i64 lo) from HS9.out)
        refine takeH 0 51 (.int .i64 0) rfl rfl (by kernel_rfl) (by kernel_rfl) (by kernel_rfl) (fun _ _ _ h => h) rfl (fun w' h => by obtain ⟨z0, z1, z2, z3, z4, z5, z6, z7, z8⟩ := h; go_simp) HT.out ?_
        go_frame
        refine takeH 1 52 (.bool false) rfl rfl (by kernel_rfl) (by kernel_rfl) (by kernel_rfl) (fun _ _ _ h => h) rfl (fun w' h => by obtain ⟨z0, z1, z2, z3, z4, z5, z6, z7, z8⟩ := h; go_simp) HT.out ?_
        go_frame
        refine takeH 2 53 (.bool false) rfl rfl (by kernel_rfl) (by kernel_rfl) (by kernel_rfl) (fun _ _ _ h => h) rfl (fun w' h => by obtain ⟨z0, z1, z2, z3, z4, z5, z6, z7, z8⟩ := h; go_simp) HT.out ?_
        go_frame
        refine takeH 3 54 (.pointer (some ⟨g6, 0, none⟩)) rfl rfl (by kernel_rfl) (by kernel_rfl) (by kernel_rfl) (fun _ _ _ h => h) rfl (fun w' h => by obtain ⟨z0, z1, z2, z3, z4, z5, z6, z7, z8⟩ := h; go_simp) HT.out ?_
        go_frame
        refine takeH 4 55 (.int .i64 N) rfl rfl (by kernel_rfl) (by kernel_rfl) (by kernel_rfl) (fun _ _ _ h => h) rfl (fun w' h => by obtain ⟨z0, z1, z2, z3, z4, z5, z6, z7, z8⟩ := h; go_simp) HT.out ?_
        go_frame
        refine takeH 5 56 (.agg #[.slice AA K C, .int .i64 R, .bool false, .int .i64 lo]) rfl rfl (by kernel_rfl) (by kernel_rfl) (by kernel_rfl) (fun _ _ _ h => h) rfl (fun w' h => by obtain ⟨z0, z1, z2, z3, z4, z5, z6, z7, z8⟩ := h; go_simp) HT.out ?_
        go_frame
        refine wpAnyH_all (rs := [6]) (by kernel_rfl) (by simp) ?_
        simp only [List.mem_singleton, forall_eq]
        refine wpOp_callD 57 rfl rfl rfl 29 #[.agg #[.slice AA K C, .int .i64 R, .bool false, .int .i64 lo]] (by go_simp) ?_
        refine (HWT.out w9.drew).mono ?_
        rintro e w10 ⟨rfl, hB10⟩
        have hb10 : Below W8.heap.size W8 w10 := HB9.out.trans ((show Below w9.heap.size w9 w10 from ⟨hB10.os, hB10.tape, hB10.output, hB10.size, hB10.block⟩).mono HB9.out.size)
        have HS10 := Lib.hid (HKK.out w10 hb10)
        have HB10 := Lib.hid hb10
        clear hB10 hb10
        refine ⟨_, rfl, HS10.out, ?_⟩
        go_frame
        refine takeH 7 58 (.bool false) rfl rfl (by kernel_rfl) (by kernel_rfl) (by kernel_rfl) (fun _ _ _ h => h) rfl (fun w' h => by obtain ⟨z0, z1, z2, z3, z4, z5, z6, z7, z8⟩ := h; go_simp) HS10.out ?_
        go_frame
        refine takeH 8 59 (.bool false) rfl rfl (by kernel_rfl) (by kernel_rfl) (by kernel_rfl) (fun _ _ _ h => h) rfl (fun w' h => by obtain ⟨z0, z1, z2, z3, z4, z5, z6, z7, z8⟩ := h; go_simp) HS10.out ?_
        go_frame
        refine takeH 9 60 (.bool false) rfl rfl (by kernel_rfl) (by kernel_rfl) (by kernel_rfl) (fun _ _ _ h => h) rfl (fun w' h => by obtain ⟨z0, z1, z2, z3, z4, z5, z6, z7, z8⟩ := h; go_simp) HS10.out ?_
        go_frame
        refine takeH 10 61 (.pointer (some ⟨g6, 1, none⟩)) rfl rfl (by kernel_rfl) (by kernel_rfl) (by kernel_rfl) (fun _ _ _ h => h) rfl (fun w' h => by obtain ⟨z0, z1, z2, z3, z4, z5, z6, z7, z8⟩ := h; go_simp) HS10.out ?_
        go_frame
        refine takeH 11 62 (.bool false) rfl rfl (by kernel_rfl) (by kernel_rfl) (by kernel_rfl) (fun _ _ _ h => h) rfl (fun w' h => by obtain ⟨z0, z1, z2, z3, z4, z5, z6, z7, z8⟩ := h; go_simp) HS10.out ?_
        go_frame
        refine takeH 12 63 (.pointer (some ⟨g8, 2, none⟩)) rfl rfl (by kernel_rfl) (by kernel_rfl) (by kernel_rfl) (fun _ _ _ h => h) rfl (fun w' h => by obtain ⟨z0, z1, z2, z3, z4, z5, z6, z7, z8⟩ := h; go_simp) HS10.out ?_
        go_frame
        refine takeH 13 64 (.bool false) rfl rfl (by kernel_rfl) (by kernel_rfl) (by kernel_rfl) (fun _ _ _ h => h) rfl (fun w' h => by obtain ⟨z0, z1, z2, z3, z4, z5, z6, z7, z8⟩ := h; go_simp) HS10.out ?_
        go_frame
        refine takeH 14 65 (.bool false) rfl rfl (by kernel_rfl) (by kernel_rfl) (by kernel_rfl) (fun _ _ _ h => h) rfl (fun w' h => by obtain ⟨z0, z1, z2, z3, z4, z5, z6, z7, z8⟩ := h; go_simp) HS10.out ?_
        go_frame
        refine takeH 15 66 (.bool false) rfl rfl (by kernel_rfl) (by kernel_rfl) (by kernel_rfl) (fun _ _ _ h => h) rfl (fun w' h => by obtain ⟨z0, z1, z2, z3, z4, z5, z6, z7, z8⟩ := h; go_simp) HS10.out ?_
        go_frame
        refine takeH 16 67 (.bool false) rfl rfl (by kernel_rfl) (by kernel_rfl) (by kernel_rfl) (fun _ _ _ h => h) rfl (fun w' h => by obtain ⟨z0, z1, z2, z3, z4, z5, z6, z7, z8⟩ := h; go_simp) HS10.out ?_
        go_frame
        refine takeH 17 68 (.pointer (some ⟨g6, 2, none⟩)) rfl rfl (by kernel_rfl) (by kernel_rfl) (by kernel_rfl) (fun _ _ _ h => h) rfl (fun w' h => by obtain ⟨z0, z1, z2, z3, z4, z5, z6, z7, z8⟩ := h; go_simp) HS10.out ?_
        go_frame
        refine takeH 18 69 (.int .u64 (K : Int)) rfl rfl (by kernel_rfl) (by kernel_rfl) (by kernel_rfl) (fun _ _ _ h => h) rfl (fun w' h => by obtain ⟨z0, z1, z2, z3, z4, z5, z6, z7, z8⟩ := h; go_simp) HS10.out ?_
        go_frame
        refine takeH 19 70 (.pointer (some ⟨g8, 0, none⟩)) rfl rfl (by kernel_rfl) (by kernel_rfl) (by kernel_rfl) (fun _ _ _ h => h) rfl (fun w' h => by obtain ⟨z0, z1, z2, z3, z4, z5, z6, z7, z8⟩ := h; go_simp) HS10.out ?_
        go_frame
        refine takeH 20 71 (.slice AA K C) rfl rfl (by kernel_rfl) (by kernel_rfl) (by kernel_rfl) (fun _ _ _ h => h) rfl (fun w' h => by obtain ⟨z0, z1, z2, z3, z4, z5, z6, z7, z8⟩ := h; go_simp) HS10.out ?_
        go_frame
        refine takeH 21 72 (.int .i64 (K : Int)) rfl rfl (by kernel_rfl) (by kernel_rfl) (by kernel_rfl) (fun _ _ _ h => h) rfl (fun w' h => by obtain ⟨z0, z1, z2, z3, z4, z5, z6, z7, z8⟩ := h; go_simp) HS10.out ?_
        go_frame
        refine takeH 22 73 (.int .u64 (K : Int)) rfl rfl (by kernel_rfl) (by kernel_rfl) (by kernel_rfl) (fun _ _ _ h => h) rfl (fun w' h => by obtain ⟨z0, z1, z2, z3, z4, z5, z6, z7, z8⟩ := h; go_simp) HS10.out ?_
        go_frame
        refine takeH 23 74 (.bool false) rfl rfl (by kernel_rfl) (by kernel_rfl) (by kernel_rfl) (fun _ _ _ h => h) rfl (fun w' h => by obtain ⟨z0, z1, z2, z3, z4, z5, z6, z7, z8⟩ := h; go_simp) HS10.out ?_
        go_frame
        refine takeH 24 75 (.bool false) rfl rfl (by kernel_rfl) (by kernel_rfl) (by kernel_rfl) (fun _ _ _ h => h) rfl (fun w' h => by obtain ⟨z0, z1, z2, z3, z4, z5, z6, z7, z8⟩ := h; go_simp) HS10.out ?_
        go_frame
        refine takeH 25 76 (.bool false) rfl rfl (by kernel_rfl) (by kernel_rfl) (by kernel_rfl) (fun _ _ _ h => h) rfl (fun w' h => by obtain ⟨z0, z1, z2, z3, z4, z5, z6, z7, z8⟩ := h; go_simp) HS10.out ?_
        go_frame
        refine takeH 26 77 (.pointer (some ⟨g6, 3, none⟩)) rfl rfl (by kernel_rfl) (by kernel_rfl) (by kernel_rfl) (fun _ _ _ h => h) rfl (fun w' h => by obtain ⟨z0, z1, z2, z3, z4, z5, z6, z7, z8⟩ := h; go_simp) HS10.out ?_
        go_frame
        refine takeH 27 78 (.int .u64 R) rfl rfl (by kernel_rfl) (by kernel_rfl) (by kernel_rfl) (fun _ _ _ h => h) rfl (fun w' h => by obtain ⟨z0, z1, z2, z3, z4, z5, z6, z7, z8⟩ := h; go_simp) HS10.out ?_
        go_frame
        refine takeH 28 79 (.pointer (some ⟨g8, 1, none⟩)) rfl rfl (by kernel_rfl) (by kernel_rfl) (by kernel_rfl) (fun _ _ _ h => h) rfl (fun w' h => by obtain ⟨z0, z1, z2, z3, z4, z5, z6, z7, z8⟩ := h; go_simp) HS10.out ?_
        go_frame
        refine takeH 29 80 (.int .i64 R) rfl rfl (by kernel_rfl) (by kernel_rfl) (by kernel_rfl) (fun _ _ _ h => h) rfl (fun w' h => by obtain ⟨z0, z1, z2, z3, z4, z5, z6, z7, z8⟩ := h; go_simp) HS10.out ?_
        go_frame
        refine takeH 30 81 (.int .u64 R) rfl rfl (by kernel_rfl) (by kernel_rfl) (by kernel_rfl) (fun _ _ _ h => h) rfl (fun w' h => by obtain ⟨z0, z1, z2, z3, z4, z5, z6, z7, z8⟩ := h; go_simp) HS10.out ?_
        go_frame
        refine takeH 31 82 (.bool false) rfl rfl (by kernel_rfl) (by kernel_rfl) (by kernel_rfl) (fun _ _ _ h => h) rfl (fun w' h => by obtain ⟨z0, z1, z2, z3, z4, z5, z6, z7, z8⟩ := h; go_simp) HS10.out ?_
        go_frame
        refine takeH 32 83 (.bool false) rfl rfl (by kernel_rfl) (by kernel_rfl) (by kernel_rfl) (fun _ _ _ h => h) rfl (fun w' h => by obtain ⟨z0, z1, z2, z3, z4, z5, z6, z7, z8⟩ := h; go_simp) HS10.out ?_
        go_frame
        refine takeH 33 84 (.bool false) rfl rfl (by kernel_rfl) (by kernel_rfl) (by kernel_rfl) (fun _ _ _ h => h) rfl (fun w' h => by obtain ⟨z0, z1, z2, z3, z4, z5, z6, z7, z8⟩ := h; go_simp) HS10.out ?_
        go_frame
        refine takeH 34 85 (tP b) rfl rfl (by kernel_rfl) (by kernel_rfl) (by kernel_rfl) (fun _ _ _ h => h) rfl (fun w' h => by obtain ⟨z0, z1, z2, z3, z4, z5, z6, z7, z8⟩ := h; go_simp) HS10.out ?_
        go_frame
        refine takeH 35 86 (.int .i64 1) rfl rfl (by kernel_rfl) (by kernel_rfl) (by kernel_rfl) (fun _ _ _ h => h) rfl (fun w' h => by obtain ⟨z0, z1, z2, z3, z4, z5, z6, z7, z8⟩ := h; go_simp) HS10.out ?_
        go_frame
        refine takeH 37 88 (.int .i64 ((room : Int) - N)) rfl rfl (by kernel_rfl) (by kernel_rfl) (by kernel_rfl) (fun _ _ _ h => h) rfl (fun w' h => by obtain ⟨z0, z1, z2, z3, z4, z5, z6, z7, z8⟩ := h; go_simp) HS10.out ?_
        go_frame
        refine wpAnyH_all (rs := [36]) (by kernel_rfl) (by simp) ?_
        simp only [List.mem_singleton, forall_eq]
        refine wpOp_callD 87 rfl rfl rfl 17 #[tP b, .int .i64 1] (by go_simp) ?_
        refine (HRM2.out w10 (HP8.out.below HB10.out)).mono ?_
        rintro e w11 ⟨rfl, q, hw11⟩
        have hb11 : Below W8.heap.size W8 w11 := by rw [hw11]; exact below_drewN HB10.out q
        have HS11 := Lib.hid (HKK.out w11 hb11)
        have HB11 := Lib.hid hb11
        clear hw11 hb11
        refine ⟨_, rfl, HS11.out, ?_⟩
        go_frame
        refine takeH 38 89 (.bool false) rfl rfl (by kernel_rfl) (by kernel_rfl) (by kernel_rfl) (fun _ _ _ h => h) rfl (fun w' h => by go_simp) HS11.out ?_
        go_frame
        refine takeH 39 90 (.bool false) rfl rfl (by kernel_rfl) (by kernel_rfl) (by kernel_rfl) (fun _ _ _ h => h) rfl (fun w' h => by go_simp) HS11.out ?_
        go_frame
        refine wpAnyH_done (by kernel_rfl) ?_ _
        refine NoPanic.normal ?_
        have HF := Lib.hid (HP8.out.below HB11.out)
        have HG2 := Lib.hid (HB8.out.trans (HB11.out.mono HB8.out.size))
        clear m2
        go_wp2_with fail
        exact ⟨⟨2, by omega, rfl, HF.out, HG2.out⟩, by simp [intOf]⟩
      | true =>
        have hrm2 : ∀ W, PB W base b c room V H X A Y → Calls Tryd.prog 17 #[tP b, .int .i64 1] W fun e w' => e = .returned (.int .i64 0) ∧ ∃ q, w' = W.drewN q := fun W hW => by
          have h := HRM.out W hW
          rw [if_pos rfl] at h
          exact h
        have HRM2 := Lib.hid hrm2
        clear hrm2 HRM
        go_wp2_with fail
        obtain ⟨g6, hg6⟩ : ∃ g, g = w3.heap.size := ⟨_, rfl⟩
        obtain ⟨g8, hg8⟩ : ∃ g, g = W6.heap.size := ⟨_, rfl⟩
        rw [HG.out]
        rw [← hg6] at HK6 ⊢
        rw [← hg8] at HK8 ⊢
        clear hw86 hg6 hg8 k0 k1 k2 k3
        have hl6 : g6 < W8.heap.size := HK6.out.lt
        have hl8 : g8 < W8.heap.size := HK8.out.lt
        have hlc : c < W8.heap.size := HP8.out.x.blk.lt
        have hkk : ∀ W, Below W8.heap.size W8 W → (W.cell? ⟨c, 0, none⟩ = some (.int .i64 (room : Int)) ∧ W.cell? ⟨g6, 0, none⟩ = some (.int .i64 N) ∧ W.cell? ⟨g6, 1, none⟩ = some (.bool true) ∧ W.cell? ⟨g6, 2, none⟩ = some (.int .u64 (K : Int)) ∧ W.cell? ⟨g6, 3, none⟩ = some (.int .u64 R) ∧ W.cell? ⟨g8, 0, none⟩ = some (.slice AA K C) ∧ W.cell? ⟨g8, 1, none⟩ = some (.int .i64 R) ∧ W.cell? ⟨g8, 2, none⟩ = some (.bool true) ∧ W.cell? ⟨g8, 3, none⟩ = some (.int .i64 lo)) := fun W hb => ⟨(hb.cell (p := ⟨c, 0, none⟩) hlc).trans kr8, (HK6.out.below hb hl6).at (o := 0) rfl, (HK6.out.below hb hl6).at (o := 1) rfl, (HK6.out.below hb hl6).at (o := 2) rfl, (HK6.out.below hb hl6).at (o := 3) rfl, (HK8.out.below hb hl8).at (o := 0) rfl, (HK8.out.below hb hl8).at (o := 1) rfl, (HK8.out.below hb hl8).at (o := 2) rfl, (HK8.out.below hb hl8).at (o := 3) rfl⟩
        have HKK := Lib.hid hkk
        have HS := Lib.hid (hkk W8.drew (Below.refl _ _).drew)
        clear hkk kr8
        refine wp_region_noPanic ?_
        refine wp_region_held (S := fun w' => w'.cell? ⟨c, 0, none⟩ = some (.int .i64 (room : Int)) ∧ w'.cell? ⟨g6, 0, none⟩ = some (.int .i64 N) ∧ w'.cell? ⟨g6, 1, none⟩ = some (.bool true) ∧ w'.cell? ⟨g6, 2, none⟩ = some (.int .u64 (K : Int)) ∧ w'.cell? ⟨g6, 3, none⟩ = some (.int .u64 R) ∧ w'.cell? ⟨g8, 0, none⟩ = some (.slice AA K C) ∧ w'.cell? ⟨g8, 1, none⟩ = some (.int .i64 R) ∧ w'.cell? ⟨g8, 2, none⟩ = some (.bool true) ∧ w'.cell? ⟨g8, 3, none⟩ = some (.int .i64 lo)) (by kernel_rfl) ?_
        change wpAnyH _ _ _ _ _ _ _ _ W8.drew
        refine takeH 0 42 (tP c) rfl rfl (by kernel_rfl) (by kernel_rfl) (by kernel_rfl) (fun _ _ _ h => h) rfl (fun w' h => by obtain ⟨z0, z1, z2, z3, z4, z5, z6, z7, z8⟩ := h; go_simp) HS.out ?_
        go_frame
        refine takeH 1 43 (tP c) rfl rfl (by kernel_rfl) (by kernel_rfl) (by kernel_rfl) (fun _ _ _ h => h) rfl (fun w' h => by obtain ⟨z0, z1, z2, z3, z4, z5, z6, z7, z8⟩ := h; go_simp) HS.out ?_
        go_frame
        refine takeH 2 44 (tP c) rfl rfl (by kernel_rfl) (by kernel_rfl) (by kernel_rfl) (fun _ _ _ h => h) rfl (fun w' h => by obtain ⟨z0, z1, z2, z3, z4, z5, z6, z7, z8⟩ := h; go_simp) HS.out ?_
        go_frame
        refine takeH 3 45 (.int .i64 (room : Int)) rfl rfl (by kernel_rfl) (by kernel_rfl) (by kernel_rfl) (fun _ _ _ h => h) rfl (fun w' h => by obtain ⟨z0, z1, z2, z3, z4, z5, z6, z7, z8⟩ := h; go_simp) HS.out ?_
        go_frame
        refine takeH 4 46 (.agg #[.slice AA K C, .int .i64 R, .bool true, .int .i64 lo]) rfl rfl (by kernel_rfl) (by kernel_rfl) (by kernel_rfl) (fun _ _ _ h => h) rfl (fun w' h => by obtain ⟨z0, z1, z2, z3, z4, z5, z6, z7, z8⟩ := h; go_simp) HS.out ?_
        go_frame
        refine wpAnyH_all (rs := [5]) (by kernel_rfl) (by simp) ?_
        simp only [List.mem_singleton, forall_eq]
        refine wpOp_callD 47 rfl rfl rfl 29 #[.agg #[.slice AA K C, .int .i64 R, .bool true, .int .i64 lo]] (by go_simp) ?_
        refine (HWT.out W8.drew).mono ?_
        rintro e w9 ⟨rfl, hB9⟩
        have hb9 : Below W8.heap.size W8 w9 := ⟨hB9.os, hB9.tape, hB9.output, hB9.size, hB9.block⟩
        have HS9 := Lib.hid (HKK.out w9 hb9)
        have HB9 := Lib.hid hb9
        clear hB9 hb9
        refine ⟨_, rfl, HS9.out, ?_⟩
        go_frame
        refine takeH 6 48 (.int .i64 ((room : Int) - N)) rfl rfl (by kernel_rfl) (by kernel_rfl) (by kernel_rfl) (fun _ _ _ h => h) rfl (fun w' h => by go_simp) HS9.out ?_
        go_frame
        refine takeH 7 9 (.int .i64 ((room : Int) - N)) rfl rfl (by kernel_rfl) (by kernel_rfl) (by kernel_rfl) (fun _ _ _ h => h) rfl (fun w' h => by go_simp) HS9.out ?_
        go_frame
        refine wpAnyH_done (by kernel_rfl) ?_ _
        refine NoPanic.normal ?_
        have m2 := HS9.out.2.2.2.2.2.2.2.1
        go_wp2_with fail
        refine wp_region_noPanic ?_
        refine wp_region_held (S := fun w' => w'.cell? ⟨c, 0, none⟩ = some (.int .i64 (room : Int)) ∧ w'.cell? ⟨g6, 0, none⟩ = some (.int .i64 N) ∧ w'.cell? ⟨g6, 1, none⟩ = some (.bool true) ∧ w'.cell? ⟨g6, 2, none⟩ = some (.int .u64 (K : Int)) ∧ w'.cell? ⟨g6, 3, none⟩ = some (.int .u64 R) ∧ w'.cell? ⟨g8, 0, none⟩ = some (.slice AA K C) ∧ w'.cell? ⟨g8, 1, none⟩ = some (.int .i64 R) ∧ w'.cell? ⟨g8, 2, none⟩ = some (.bool true) ∧ w'.cell? ⟨g8, 3, none⟩ = some (.int .i64 lo)) (by kernel_rfl) ?_
        change wpAnyH _ _ _ _ _ _ _ _ w9.drew
        have HT := Lib.hid (show w9.drew.cell? ⟨c, 0, none⟩ = some (.int .i64 (room : Int)) ∧ w9.drew.cell? ⟨g6, 0, none⟩ = some (.int .i64 N) ∧ w9.drew.cell? ⟨g6, 1, none⟩ = some (.bool true) ∧ w9.drew.cell? ⟨g6, 2, none⟩ = some (.int .u64 (K : Int)) ∧ w9.drew.cell? ⟨g6, 3, none⟩ = some (.int .u64 R) ∧ w9.drew.cell? ⟨g8, 0, none⟩ = some (.slice AA K C) ∧ w9.drew.cell? ⟨g8, 1, none⟩ = some (.int .i64 R) ∧ w9.drew.cell? ⟨g8, 2, none⟩ = some (.bool true) ∧ w9.drew.cell? ⟨g8, 3, none⟩ = some (.int .i64 lo) from HS9.out)
        refine takeH 0 51 (.int .i64 0) rfl rfl (by kernel_rfl) (by kernel_rfl) (by kernel_rfl) (fun _ _ _ h => h) rfl (fun w' h => by obtain ⟨z0, z1, z2, z3, z4, z5, z6, z7, z8⟩ := h; go_simp) HT.out ?_
        go_frame
        refine takeH 1 52 (.bool false) rfl rfl (by kernel_rfl) (by kernel_rfl) (by kernel_rfl) (fun _ _ _ h => h) rfl (fun w' h => by obtain ⟨z0, z1, z2, z3, z4, z5, z6, z7, z8⟩ := h; go_simp) HT.out ?_
        go_frame
        refine takeH 2 53 (.bool false) rfl rfl (by kernel_rfl) (by kernel_rfl) (by kernel_rfl) (fun _ _ _ h => h) rfl (fun w' h => by obtain ⟨z0, z1, z2, z3, z4, z5, z6, z7, z8⟩ := h; go_simp) HT.out ?_
        go_frame
        refine takeH 3 54 (.pointer (some ⟨g6, 0, none⟩)) rfl rfl (by kernel_rfl) (by kernel_rfl) (by kernel_rfl) (fun _ _ _ h => h) rfl (fun w' h => by obtain ⟨z0, z1, z2, z3, z4, z5, z6, z7, z8⟩ := h; go_simp) HT.out ?_
        go_frame
        refine takeH 4 55 (.int .i64 N) rfl rfl (by kernel_rfl) (by kernel_rfl) (by kernel_rfl) (fun _ _ _ h => h) rfl (fun w' h => by obtain ⟨z0, z1, z2, z3, z4, z5, z6, z7, z8⟩ := h; go_simp) HT.out ?_
        go_frame
        refine takeH 5 56 (.agg #[.slice AA K C, .int .i64 R, .bool true, .int .i64 lo]) rfl rfl (by kernel_rfl) (by kernel_rfl) (by kernel_rfl) (fun _ _ _ h => h) rfl (fun w' h => by obtain ⟨z0, z1, z2, z3, z4, z5, z6, z7, z8⟩ := h; go_simp) HT.out ?_
        go_frame
        refine wpAnyH_all (rs := [6]) (by kernel_rfl) (by simp) ?_
        simp only [List.mem_singleton, forall_eq]
        refine wpOp_callD 57 rfl rfl rfl 29 #[.agg #[.slice AA K C, .int .i64 R, .bool true, .int .i64 lo]] (by go_simp) ?_
        refine (HWT.out w9.drew).mono ?_
        rintro e w10 ⟨rfl, hB10⟩
        have hb10 : Below W8.heap.size W8 w10 := HB9.out.trans ((show Below w9.heap.size w9 w10 from ⟨hB10.os, hB10.tape, hB10.output, hB10.size, hB10.block⟩).mono HB9.out.size)
        have HS10 := Lib.hid (HKK.out w10 hb10)
        have HB10 := Lib.hid hb10
        clear hB10 hb10
        refine ⟨_, rfl, HS10.out, ?_⟩
        go_frame
        refine takeH 7 58 (.bool false) rfl rfl (by kernel_rfl) (by kernel_rfl) (by kernel_rfl) (fun _ _ _ h => h) rfl (fun w' h => by obtain ⟨z0, z1, z2, z3, z4, z5, z6, z7, z8⟩ := h; go_simp) HS10.out ?_
        go_frame
        refine takeH 8 59 (.bool false) rfl rfl (by kernel_rfl) (by kernel_rfl) (by kernel_rfl) (fun _ _ _ h => h) rfl (fun w' h => by obtain ⟨z0, z1, z2, z3, z4, z5, z6, z7, z8⟩ := h; go_simp) HS10.out ?_
        go_frame
        refine takeH 9 60 (.bool false) rfl rfl (by kernel_rfl) (by kernel_rfl) (by kernel_rfl) (fun _ _ _ h => h) rfl (fun w' h => by obtain ⟨z0, z1, z2, z3, z4, z5, z6, z7, z8⟩ := h; go_simp) HS10.out ?_
        go_frame
        refine takeH 10 61 (.pointer (some ⟨g6, 1, none⟩)) rfl rfl (by kernel_rfl) (by kernel_rfl) (by kernel_rfl) (fun _ _ _ h => h) rfl (fun w' h => by obtain ⟨z0, z1, z2, z3, z4, z5, z6, z7, z8⟩ := h; go_simp) HS10.out ?_
        go_frame
        refine takeH 11 62 (.bool true) rfl rfl (by kernel_rfl) (by kernel_rfl) (by kernel_rfl) (fun _ _ _ h => h) rfl (fun w' h => by obtain ⟨z0, z1, z2, z3, z4, z5, z6, z7, z8⟩ := h; go_simp) HS10.out ?_
        go_frame
        refine takeH 12 63 (.pointer (some ⟨g8, 2, none⟩)) rfl rfl (by kernel_rfl) (by kernel_rfl) (by kernel_rfl) (fun _ _ _ h => h) rfl (fun w' h => by obtain ⟨z0, z1, z2, z3, z4, z5, z6, z7, z8⟩ := h; go_simp) HS10.out ?_
        go_frame
        refine takeH 13 64 (.bool true) rfl rfl (by kernel_rfl) (by kernel_rfl) (by kernel_rfl) (fun _ _ _ h => h) rfl (fun w' h => by obtain ⟨z0, z1, z2, z3, z4, z5, z6, z7, z8⟩ := h; go_simp) HS10.out ?_
        go_frame
        refine takeH 14 65 (.bool false) rfl rfl (by kernel_rfl) (by kernel_rfl) (by kernel_rfl) (fun _ _ _ h => h) rfl (fun w' h => by obtain ⟨z0, z1, z2, z3, z4, z5, z6, z7, z8⟩ := h; go_simp) HS10.out ?_
        go_frame
        refine takeH 15 66 (.bool false) rfl rfl (by kernel_rfl) (by kernel_rfl) (by kernel_rfl) (fun _ _ _ h => h) rfl (fun w' h => by obtain ⟨z0, z1, z2, z3, z4, z5, z6, z7, z8⟩ := h; go_simp) HS10.out ?_
        go_frame
        refine takeH 16 67 (.bool false) rfl rfl (by kernel_rfl) (by kernel_rfl) (by kernel_rfl) (fun _ _ _ h => h) rfl (fun w' h => by obtain ⟨z0, z1, z2, z3, z4, z5, z6, z7, z8⟩ := h; go_simp) HS10.out ?_
        go_frame
        refine takeH 17 68 (.pointer (some ⟨g6, 2, none⟩)) rfl rfl (by kernel_rfl) (by kernel_rfl) (by kernel_rfl) (fun _ _ _ h => h) rfl (fun w' h => by obtain ⟨z0, z1, z2, z3, z4, z5, z6, z7, z8⟩ := h; go_simp) HS10.out ?_
        go_frame
        refine takeH 18 69 (.int .u64 (K : Int)) rfl rfl (by kernel_rfl) (by kernel_rfl) (by kernel_rfl) (fun _ _ _ h => h) rfl (fun w' h => by obtain ⟨z0, z1, z2, z3, z4, z5, z6, z7, z8⟩ := h; go_simp) HS10.out ?_
        go_frame
        refine takeH 19 70 (.pointer (some ⟨g8, 0, none⟩)) rfl rfl (by kernel_rfl) (by kernel_rfl) (by kernel_rfl) (fun _ _ _ h => h) rfl (fun w' h => by obtain ⟨z0, z1, z2, z3, z4, z5, z6, z7, z8⟩ := h; go_simp) HS10.out ?_
        go_frame
        refine takeH 20 71 (.slice AA K C) rfl rfl (by kernel_rfl) (by kernel_rfl) (by kernel_rfl) (fun _ _ _ h => h) rfl (fun w' h => by obtain ⟨z0, z1, z2, z3, z4, z5, z6, z7, z8⟩ := h; go_simp) HS10.out ?_
        go_frame
        refine takeH 21 72 (.int .i64 (K : Int)) rfl rfl (by kernel_rfl) (by kernel_rfl) (by kernel_rfl) (fun _ _ _ h => h) rfl (fun w' h => by obtain ⟨z0, z1, z2, z3, z4, z5, z6, z7, z8⟩ := h; go_simp) HS10.out ?_
        go_frame
        refine takeH 22 73 (.int .u64 (K : Int)) rfl rfl (by kernel_rfl) (by kernel_rfl) (by kernel_rfl) (fun _ _ _ h => h) rfl (fun w' h => by obtain ⟨z0, z1, z2, z3, z4, z5, z6, z7, z8⟩ := h; go_simp) HS10.out ?_
        go_frame
        refine takeH 23 74 (.bool false) rfl rfl (by kernel_rfl) (by kernel_rfl) (by kernel_rfl) (fun _ _ _ h => h) rfl (fun w' h => by obtain ⟨z0, z1, z2, z3, z4, z5, z6, z7, z8⟩ := h; go_simp) HS10.out ?_
        go_frame
        refine takeH 24 75 (.bool false) rfl rfl (by kernel_rfl) (by kernel_rfl) (by kernel_rfl) (fun _ _ _ h => h) rfl (fun w' h => by obtain ⟨z0, z1, z2, z3, z4, z5, z6, z7, z8⟩ := h; go_simp) HS10.out ?_
        go_frame
        refine takeH 25 76 (.bool false) rfl rfl (by kernel_rfl) (by kernel_rfl) (by kernel_rfl) (fun _ _ _ h => h) rfl (fun w' h => by obtain ⟨z0, z1, z2, z3, z4, z5, z6, z7, z8⟩ := h; go_simp) HS10.out ?_
        go_frame
        refine takeH 26 77 (.pointer (some ⟨g6, 3, none⟩)) rfl rfl (by kernel_rfl) (by kernel_rfl) (by kernel_rfl) (fun _ _ _ h => h) rfl (fun w' h => by obtain ⟨z0, z1, z2, z3, z4, z5, z6, z7, z8⟩ := h; go_simp) HS10.out ?_
        go_frame
        refine takeH 27 78 (.int .u64 R) rfl rfl (by kernel_rfl) (by kernel_rfl) (by kernel_rfl) (fun _ _ _ h => h) rfl (fun w' h => by obtain ⟨z0, z1, z2, z3, z4, z5, z6, z7, z8⟩ := h; go_simp) HS10.out ?_
        go_frame
        refine takeH 28 79 (.pointer (some ⟨g8, 1, none⟩)) rfl rfl (by kernel_rfl) (by kernel_rfl) (by kernel_rfl) (fun _ _ _ h => h) rfl (fun w' h => by obtain ⟨z0, z1, z2, z3, z4, z5, z6, z7, z8⟩ := h; go_simp) HS10.out ?_
        go_frame
        refine takeH 29 80 (.int .i64 R) rfl rfl (by kernel_rfl) (by kernel_rfl) (by kernel_rfl) (fun _ _ _ h => h) rfl (fun w' h => by obtain ⟨z0, z1, z2, z3, z4, z5, z6, z7, z8⟩ := h; go_simp) HS10.out ?_
        go_frame
        refine takeH 30 81 (.int .u64 R) rfl rfl (by kernel_rfl) (by kernel_rfl) (by kernel_rfl) (fun _ _ _ h => h) rfl (fun w' h => by obtain ⟨z0, z1, z2, z3, z4, z5, z6, z7, z8⟩ := h; go_simp) HS10.out ?_
        go_frame
        refine takeH 31 82 (.bool false) rfl rfl (by kernel_rfl) (by kernel_rfl) (by kernel_rfl) (fun _ _ _ h => h) rfl (fun w' h => by obtain ⟨z0, z1, z2, z3, z4, z5, z6, z7, z8⟩ := h; go_simp) HS10.out ?_
        go_frame
        refine takeH 32 83 (.bool false) rfl rfl (by kernel_rfl) (by kernel_rfl) (by kernel_rfl) (fun _ _ _ h => h) rfl (fun w' h => by obtain ⟨z0, z1, z2, z3, z4, z5, z6, z7, z8⟩ := h; go_simp) HS10.out ?_
        go_frame
        refine takeH 33 84 (.bool false) rfl rfl (by kernel_rfl) (by kernel_rfl) (by kernel_rfl) (fun _ _ _ h => h) rfl (fun w' h => by obtain ⟨z0, z1, z2, z3, z4, z5, z6, z7, z8⟩ := h; go_simp) HS10.out ?_
        go_frame
        refine takeH 34 85 (tP b) rfl rfl (by kernel_rfl) (by kernel_rfl) (by kernel_rfl) (fun _ _ _ h => h) rfl (fun w' h => by obtain ⟨z0, z1, z2, z3, z4, z5, z6, z7, z8⟩ := h; go_simp) HS10.out ?_
        go_frame
        refine takeH 35 86 (.int .i64 1) rfl rfl (by kernel_rfl) (by kernel_rfl) (by kernel_rfl) (fun _ _ _ h => h) rfl (fun w' h => by obtain ⟨z0, z1, z2, z3, z4, z5, z6, z7, z8⟩ := h; go_simp) HS10.out ?_
        go_frame
        refine takeH 37 88 (.int .i64 0) rfl rfl (by kernel_rfl) (by kernel_rfl) (by kernel_rfl) (fun _ _ _ h => h) rfl (fun w' h => by obtain ⟨z0, z1, z2, z3, z4, z5, z6, z7, z8⟩ := h; go_simp) HS10.out ?_
        go_frame
        refine wpAnyH_all (rs := [36]) (by kernel_rfl) (by simp) ?_
        simp only [List.mem_singleton, forall_eq]
        refine wpOp_callD 87 rfl rfl rfl 17 #[tP b, .int .i64 1] (by go_simp) ?_
        refine (HRM2.out w10 (HP8.out.below HB10.out)).mono ?_
        rintro e w11 ⟨rfl, q, hw11⟩
        have hb11 : Below W8.heap.size W8 w11 := by rw [hw11]; exact below_drewN HB10.out q
        have HS11 := Lib.hid (HKK.out w11 hb11)
        have HB11 := Lib.hid hb11
        clear hw11 hb11
        refine ⟨_, rfl, HS11.out, ?_⟩
        go_frame
        refine takeH 38 89 (.bool false) rfl rfl (by kernel_rfl) (by kernel_rfl) (by kernel_rfl) (fun _ _ _ h => h) rfl (fun w' h => by go_simp) HS11.out ?_
        go_frame
        refine takeH 39 90 (.bool false) rfl rfl (by kernel_rfl) (by kernel_rfl) (by kernel_rfl) (fun _ _ _ h => h) rfl (fun w' h => by go_simp) HS11.out ?_
        go_frame
        refine wpAnyH_done (by kernel_rfl) ?_ _
        refine NoPanic.normal ?_
        have HF := Lib.hid (HP8.out.below HB11.out)
        have HG2 := Lib.hid (HB8.out.trans (HB11.out.mono HB8.out.size))
        clear m2
        go_wp2_with fail
        exact ⟨⟨2, by omega, rfl, HF.out, HG2.out⟩, by simp [intOf]⟩
    · go_wp2_with fail
      refine (look_bad b 2 ⟨by omega, by omega⟩ wr).mono ?_
      rintro e w3 ⟨rfl, hB3⟩
      have hbw3 := HB.out.trans (hB3.mono HB.out.size)
      have HBo := Lib.hid (fun (o : Obj) => hbw3.alloc hbw3.size o)
      have HRm := Lib.hid (fun W => room_bad b (-1) ⟨by omega, by omega⟩ W)
      clear hB3 hbw3
      unfold wzero
      go_wp2_with fail
      refine (HRm.out _).mono ?_
      rintro e w4 ⟨rfl, rfl⟩
      go_wp2_with fail
      go_ret
      exact ⟨rfl, HBo.out _⟩
end
end Go.Proofs.YtlobmffcnobgeaaDoor
