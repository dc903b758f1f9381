/- The law's do, on both Pipes: Read, Shut, Cut. The law's do, on both Pipes: Read, once more. The law's do, on both Pipes: Write. pipe.Chunks: the iterator, over whatever a Read does. The law's chunks: some pieces of a Pipe. The pieces of a Pipe by its own Reads. The law's do, on both Pipes: Chunks. The law's do, on both Pipes, whatever is to be done. pipe: an argument that is a slice of Ops (five fields). -/
import Derived.Test.YtlobmffcnobgeaaDoorPbA
import Derived.Test.YtlobmffcnobgeaaDoorFlip
import Derived.Test.YtlobmffcnobgeaaDoorPpA
import Derived.Test.YtlobmffcnobgeaaDoorRangeSt
import Derived.Test.YtlobmffcnobgeaaDoorApart
import Derived.Test.YtlobmffcnobgeaaDoorKc
import Derived.Maps.AppendAt
import Derived.Maps.OwnIn
import Derived.Deep.AppendLies
import Derived.Test.YtlobmffcnobgeaaDoorSls
import Derived.Test.YtlobmffcnobgeaaDoorArgs0
import Derived.Deep.Strs
set_option maxRecDepth 100000
namespace Go.Proofs.YtlobmffcnobgeaaDoor
open Go.RowKit
attribute [local go_sem] Oper.semAt_some
/-- What a step leaves. -/
def DoR (w w' : World) (base b c room : Nat) (H : Nat → Nat) (Y : Nat → WayR) : Prop :=
  ∃ V' X' A' Y', PB w' base b c room V' H X' A' Y' ∧ RelA X' Y' ∧ (∀ i, i < 2 → (Y' i).all.length ≤ (Y i).all.length + 300) ∧ Below base w w'
theorem atK_all {Y : Nat → WayR} {k : Int} {f : WayR → WayR} (hf : ∀ y, (f y).all.length ≤ y.all.length + 300) : ∀ i, i < 2 → (atK Y k f i).all.length ≤ (Y i).all.length + 300 := by
  intro i _
  unfold atK
  split
  · unfold upd; split
    · next h => rw [h]; exact hf _
    · omega
  · split
    · unfold upd; split
      · next h => rw [h]; exact hf _
      · omega
    · omega
section
variable {w w' : World} {base b c room : Nat} {V : Nat → Value} {H : Nat → Nat} {X : Nat → WayL} {A : Nat → Value} {Y : Nat → WayR}
theorem PB.off {S : List Nat} (h : PB w base b c room V H X A Y) (ht : Trs S w w') (hS : ∀ k ∈ S, k ∉ ppS b V H ∧ k ∉ pxS c A ∧ base ≤ k) : PB w' base b c room V H X A Y :=
  ⟨h.p.trs ht (fun k hk hm => (hS k hm).1 hk) (fun hm => by have := (hS _ hm).2.2; have := h.p.glob; omega), h.x.trs ht (fun k hk hm => (hS k hm).2.1 hk), h.ap⟩
theorem PB.toBelowP (h : PB w base b c room V H X A Y) (ht : Trs (ppS b V H) w w') : Below base w w' := h.p.toBelow ht
set_option maxHeartbeats 4000000 in
theorem do_read4 (h : PB w base b c room V H X A Y) (hrel : RelA X Y) (hbig : ∀ i, i < 2 → (Y i).all.length ≤ 20000) (dd k m st : Int) (Bv : Nat) (v : Value) (p : List UInt8) (hv : Sl w Bv v p) (hBv : Bv ≤ base) (hdd : 0 ≤ dd ∧ dd ≤ 255) (hr : dd % 11 = 4) :
    Calls Tryd.prog 8 #[tP b, tP c, .agg #[.int .u8 dd, .int .i64 k, v, .int .i64 m, .int .u8 st]] w fun e w' => e = .returned (.bool true) ∧ DoR w w' base b c room H Y := by
  obtain ⟨hd0, hd1⟩ := hdd
  have HPB := Lib.hid h
  have HREL := Lib.hid hrel
  have HBIG := Lib.hid hbig
  obtain ⟨PA, PC, rfl, _, _, _, _⟩ := id hv
  have hbs := h.p.size
  obtain ⟨W0, hW0⟩ : ∃ W, W = w.alloc (.cells #[.int .u8 dd, .int .i64 k, .slice PA p.length PC, .int .i64 m, .int .u8 st] 36) := ⟨_, rfl⟩
  have hB0 : Below w.heap.size w W0 := by rw [hW0]; exact (Below.refl _ _).alloc (Nat.le_refl _) _
  have hK0 : Blk W0 w.heap.size [.int .u8 dd, .int .i64 k, .slice PA p.length PC, .int .i64 m, .int .u8 st] := by rw [hW0]; exact Blk.newA w #[.int .u8 dd, .int .i64 k, .slice PA p.length PC, .int .i64 m, .int .u8 st] _
  have hz0 : W0.heap.size = w.heap.size + 1 := by rw [hW0]; simp
  obtain ⟨L, hL⟩ : ∃ L, L = p.take 300 := ⟨_, rfl⟩
  have hL3 : L.length ≤ 300 := by rw [hL, List.length_take]; omega
  have HCut := Lib.hid (cut_any Bv (.slice PA p.length PC) p 300 W0 (hv.below hB0 (by omega)) (by omega) (by omega) (by omega))
  rw [show p.take (300 : Int).toNat = L from hL.symm] at HCut
  have HB0 := Lib.hid hB0
  have HK0 := Lib.hid hK0
  have HP0 := Lib.hid (h.below hB0)
  clear hL hB0 hK0 h hrel hbig hv
  go_enter Tryd.func8, Tryd.ntmps8
  go_wp2_with fail
  rw [← hW0]
  clear hW0
  refine HCut.out.mono ?_
  rintro e w1 ⟨v1, rfl, hO1, hB1⟩
  have hz1 := hB1.size
  have HB1 := Lib.hid (HB0.out.trans (hB1.mono (by omega)))
  have HK1 := Lib.hid (HK0.out.below hB1 (by omega))
  have HP1 := Lib.hid (HP0.out.below hB1)
  have HO1 := Lib.hid hO1
  obtain ⟨A1, C1, rfl, _, _, _, _⟩ := hO1.sl
  clear hO1 hB1 HCut HP0 HK0
  go_wp2_with fail
  refine (copy_any w1.heap.size _ L w1 HO1.out.sl (Nat.le_refl _) (by omega)).mono ?_
  rintro e w2 ⟨v2, rfl, hO2, hB2⟩
  have hz2 := hB2.size
  have HB2 := Lib.hid (HB1.out.trans (hB2.mono (by omega)))
  have HK2 := Lib.hid (HK1.out.below hB2 (by omega))
  have HP2 := Lib.hid (HP1.out.below hB2)
  have HO2 := Lib.hid hO2
  have HO12 := Lib.hid (HO1.out.below hB2)
  obtain ⟨A2, C2, rfl, _, _, _, _⟩ := hO2.sl
  have d0 := HK2.out.at (o := 0) rfl
  have d1 := HK2.out.at (o := 1) rfl
  have d3 := HK2.out.at (o := 3) rfl
  have d4 := HK2.out.at (o := 4) rfl
  clear hO2 hB2 HP1 HK1 HO1
  go_wp2_with fail
  refine (pread_k HP2.out.p k m).mono ?_
  rintro e w3 ⟨va, V3, rfl, hO3, hP3, hT3, hs3⟩
  have hz3 := hT3.size
  have HB3 := Lib.hid ((HB2.out.mono hbs).trans (HP2.out.toBelowP hT3))
  have HK3 := Lib.hid (hT3.blk HK2.out (fun hm => by have := (HPB.out.p.inS _ hm).2; omega))
  have HP3 := Lib.hid (HP2.out.onP hP3 hT3 (fun j hj => .inl (by rw [← hs3]; exact hj)))
  obtain ⟨l1, hl1⟩ : ∃ l, l = valK X k (fun x => x.buf.take (rdN x m)) [] := ⟨_, rfl⟩
  have hl2 : valK Y k (fun y => (y.all.drop y.rd).take (rrN y m)) [] = l1 := by rw [hl1]; exact (HREL.out.valK k [] (fun x y hxy => rel_out hxy m)).symm
  rw [← hl1] at hO3
  have HO3 := Lib.hid hO3
  have hl1b : l1.length ≤ 4096 := by
    rw [hl1]
    have hlen := HP2.out.p.len
    have hr2 := HP2.out.p.r2
    rcases three_k k with rfl | rfl | hk
    · show ((X 0).buf.take _).length ≤ 4096; rw [List.length_take]; have := hlen 0 (by omega); omega
    · show ((X 1).buf.take _).length ≤ 4096; rw [List.length_take]; have := hlen 1 (by omega); omega
    · rw [valKn _ _ _ hk]; simp
  have Hl2 := Lib.hid hl2
  have e1 := HK3.out.at (o := 1) rfl
  have e3 := HK3.out.at (o := 3) rfl
  obtain ⟨aA, aC, rfl, _, _, _, _⟩ := hO3.sl
  have Hs3 := Lib.hid hs3
  clear hO3 hP3 hT3 hl1 hl2 hs3 HK2 d0 d1 d3 d4
  go_wp2_with fail
  refine (rread_k HP3.out.x k m).mono ?_
  rintro e w4 ⟨vc, rfl, hO4, hP4, hT4⟩
  have hz4 := hT4.size
  have hcS : c < w2.heap.size := HP2.out.x.blk.lt
  rw [Hl2.out] at hO4
  have HB4 := Lib.hid (HB3.out.trans (HP3.out.x.toBelow hT4))
  have HP4 := Lib.hid (HP3.out.onX hP4 hT4 (fun j hj => .inl hj))
  have HO34 := Lib.hid (HO3.out.trs hT4 (fun j hj hm => by rw [List.mem_singleton] at hm; have := (HO3.out.lt j hj).1; omega))
  have HO4 := Lib.hid hO4
  have HSm := Lib.hid (same_true w4.heap.size w4.heap.size (.slice aA l1.length aC) vc l1 w4 HO34.out.sl hO4.sl)
  obtain ⟨cA, cC, rfl, _, _, _, _⟩ := hO4.sl
  have hee : (errK k == errK k) = true := beq_self_eq_true _
  clear hO4 hP4 hT4 HK3 e1 e3
  obtain ⟨E, hE⟩ : ∃ E, E = errK k := ⟨_, rfl⟩
  rw [← hE] at hee ⊢
  clear hE
  go_wp2_with fail
  refine HSm.out.mono ?_
  rintro e w5 ⟨rfl, hw5⟩
  subst hw5
  go_wp2_with fail
  refine (flip_any w2.heap.size (.slice aA l1.length aC) l1 w4 HO34.out (by omega)).mono ?_
  rintro e w6 ⟨rfl, hg6⟩
  have ht6 := Trs.ofGrown hg6
  have hoff : ∀ j ∈ (Value.slice aA l1.length aC).ownBlock.toList, j ∉ ppS b V3 H ∧ j ∉ pxS c A ∧ base ≤ j := by
    intro j hj
    have hj' := (HO34.out.lt j (by simpa using hj)).1
    refine ⟨fun hm => ?_, fun hm => ?_, by omega⟩
    · rw [Hs3.out] at hm; have := (HP2.out.p.inS _ hm).2; omega
    · have := (HP2.out.x.inS _ hm).2; omega
  have HF := Lib.hid (show DoR w w6 base b c room H Y from ⟨V3, _, A, _, HP4.out.off ht6 hoff, HREL.out.atK k (rel_read m), atK_all (fun y => by show y.all.length ≤ _; omega), HB4.out.trans (ht6.toBelow (by have := HB4.out.size; have := HP4.out.p.size; omega) (fun j hj => (hoff j hj).2.2))⟩)
  clear ht6 hg6 hoff
  go_wp2_with fail
  go_ret
  exact ⟨rfl, HF.out⟩
set_option maxHeartbeats 4000000 in
theorem do_shut (h : PB w base b c room V H X A Y) (hrel : RelA X Y) (hbig : ∀ i, i < 2 → (Y i).all.length ≤ 20000) (dd k m st : Int) (Bv : Nat) (v : Value) (p : List UInt8) (hv : Sl w Bv v p) (hBv : Bv ≤ base) (hdd : 0 ≤ dd ∧ dd ≤ 255) (hr : dd % 11 = 7) :
    Calls Tryd.prog 8 #[tP b, tP c, .agg #[.int .u8 dd, .int .i64 k, v, .int .i64 m, .int .u8 st]] w fun e w' => e = .returned (.bool true) ∧ DoR w w' base b c room H Y := by
  obtain ⟨hd0, hd1⟩ := hdd
  have HPB := Lib.hid h
  have HREL := Lib.hid hrel
  have HBIG := Lib.hid hbig
  obtain ⟨PA, PC, rfl, _, _, _, _⟩ := id hv
  have hbs := h.p.size
  obtain ⟨W0, hW0⟩ : ∃ W, W = w.alloc (.cells #[.int .u8 dd, .int .i64 k, .slice PA p.length PC, .int .i64 m, .int .u8 st] 36) := ⟨_, rfl⟩
  have hB0 : Below w.heap.size w W0 := by rw [hW0]; exact (Below.refl _ _).alloc (Nat.le_refl _) _
  have hK0 : Blk W0 w.heap.size [.int .u8 dd, .int .i64 k, .slice PA p.length PC, .int .i64 m, .int .u8 st] := by rw [hW0]; exact Blk.newA w #[.int .u8 dd, .int .i64 k, .slice PA p.length PC, .int .i64 m, .int .u8 st] _
  have hz0 : W0.heap.size = w.heap.size + 1 := by rw [hW0]; simp
  obtain ⟨L, hL⟩ : ∃ L, L = p.take 300 := ⟨_, rfl⟩
  have hL3 : L.length ≤ 300 := by rw [hL, List.length_take]; omega
  have HCut := Lib.hid (cut_any Bv (.slice PA p.length PC) p 300 W0 (hv.below hB0 (by omega)) (by omega) (by omega) (by omega))
  rw [show p.take (300 : Int).toNat = L from hL.symm] at HCut
  have HB0 := Lib.hid hB0
  have HK0 := Lib.hid hK0
  have HP0 := Lib.hid (h.below hB0)
  clear hL hB0 hK0 h hrel hbig hv
  go_enter Tryd.func8, Tryd.ntmps8
  go_wp2_with fail
  rw [← hW0]
  clear hW0
  refine HCut.out.mono ?_
  rintro e w1 ⟨v1, rfl, hO1, hB1⟩
  have hz1 := hB1.size
  have HB1 := Lib.hid (HB0.out.trans (hB1.mono (by omega)))
  have HK1 := Lib.hid (HK0.out.below hB1 (by omega))
  have HP1 := Lib.hid (HP0.out.below hB1)
  have HO1 := Lib.hid hO1
  obtain ⟨A1, C1, rfl, _, _, _, _⟩ := hO1.sl
  clear hO1 hB1 HCut HP0 HK0
  go_wp2_with fail
  refine (copy_any w1.heap.size _ L w1 HO1.out.sl (Nat.le_refl _) (by omega)).mono ?_
  rintro e w2 ⟨v2, rfl, hO2, hB2⟩
  have hz2 := hB2.size
  have HB2 := Lib.hid (HB1.out.trans (hB2.mono (by omega)))
  have HK2 := Lib.hid (HK1.out.below hB2 (by omega))
  have HP2 := Lib.hid (HP1.out.below hB2)
  have HO2 := Lib.hid hO2
  have HO12 := Lib.hid (HO1.out.below hB2)
  obtain ⟨A2, C2, rfl, _, _, _, _⟩ := hO2.sl
  have d0 := HK2.out.at (o := 0) rfl
  have d1 := HK2.out.at (o := 1) rfl
  have d3 := HK2.out.at (o := 3) rfl
  have d4 := HK2.out.at (o := 4) rfl
  clear hO2 hB2 HP1 HK1 HO1
  have hnn : valK Y k (fun y => if y.shut then (14 : Int) else 0) 1 = valK X k shutN 1 := (HREL.out.valK k 1 rel_shutN).symm
  have HSr := Lib.hid hnn
  obtain ⟨E, hE⟩ : ∃ E : Int, E = valK X k shutN 1 := ⟨_, rfl⟩
  have hee : (E == E) = true := beq_self_eq_true _
  rw [← hE] at HSr
  have HPs := Lib.hid (pshut_k (HP2.out.p.below ((Below.refl w2.heap.size w2).drew)) k)
  rw [← hE] at HPs
  clear hE hnn
  go_wp2_with fail
  refine wp_region_noPanic ?_
  refine wp_region_held (S := fun W => W.cell? ⟨w.heap.size, 1, none⟩ = some (.int .i64 k)) (by kernel_rfl) ?_
  change wpAnyH _ _ _ _ _ _ _ _ w2.drew
  have HS := Lib.hid (show w2.drew.cell? ⟨w.heap.size, 1, none⟩ = some (.int .i64 k) from d1)
  refine takeH 0 67 (tP b) rfl rfl (by kernel_rfl) (by kernel_rfl) (by kernel_rfl) (fun _ _ _ h => h) rfl (fun w' h => by go_simp) HS.out ?_
  go_frame
  refine takeH 1 68 (.pointer (some ⟨w.heap.size, 1, none⟩)) rfl rfl (by kernel_rfl) (by kernel_rfl) (by kernel_rfl) (fun _ _ _ h => h) rfl (fun w' h => by go_simp) HS.out ?_
  go_frame
  refine takeH 2 69 (.int .i64 k) rfl rfl (by kernel_rfl) (by kernel_rfl) (by kernel_rfl) (fun _ _ _ h => h) rfl (fun w' h => by go_simp) HS.out ?_
  go_frame
  refine takeH 4 71 (tP c) rfl rfl (by kernel_rfl) (by kernel_rfl) (by kernel_rfl) (fun _ _ _ h => h) rfl (fun w' h => by go_simp) HS.out ?_
  go_frame
  refine takeH 5 72 (.pointer (some ⟨w.heap.size, 1, none⟩)) rfl rfl (by kernel_rfl) (by kernel_rfl) (by kernel_rfl) (fun _ _ _ h => h) rfl (fun w' h => by go_simp) HS.out ?_
  go_frame
  refine takeH 6 73 (.int .i64 k) rfl rfl (by kernel_rfl) (by kernel_rfl) (by kernel_rfl) (fun _ _ _ h => h) rfl (fun w' h => by go_simp) HS.out ?_
  go_frame
  refine wpAnyH_all (rs := [3]) (by kernel_rfl) (by simp) ?_
  simp only [List.mem_singleton, forall_eq]
  refine wpOp_callD 70 rfl rfl rfl 15 #[tP b, .int .i64 k] (by go_simp) ?_
  refine HPs.out.mono ?_
  rintro e w3 ⟨rfl, hP3, hT3⟩
  have HB3 := Lib.hid ((HB2.out.mono hbs).trans (((Below.refl base w2).drew).trans (((HP2.out.below ((Below.refl w2.heap.size w2).drew))).toBelowP hT3)))
  have HK3 := Lib.hid (hT3.blk (HK2.out.drew) (fun hm => by have := (HPB.out.p.inS _ hm).2; omega))
  have HP3 := Lib.hid ((HP2.out.below ((Below.refl w2.heap.size w2).drew)).onP hP3 hT3 (fun j hj => .inl hj))
  have HS3 := Lib.hid (HK3.out.at (o := 1) rfl)
  clear hP3 hT3 HPs
  refine ⟨_, rfl, HS3.out, ?_⟩
  go_frame
  refine wpAnyH_all (rs := [7]) (by kernel_rfl) (by simp) ?_
  simp only [List.mem_singleton, forall_eq]
  refine wpOp_callD 74 rfl rfl rfl 24 #[tP c, .int .i64 k] (by go_simp) ?_
  refine (rshut_k HP3.out.x k).mono ?_
  rw [HSr.out]
  rintro e w4 ⟨rfl, hP4, hT4⟩
  have hcS : c < w.heap.size := HPB.out.x.blk.lt
  have HK4 := Lib.hid (hT4.blk HK3.out (fun hm => by rw [List.mem_singleton] at hm; omega))
  have HS4 := Lib.hid (HK4.out.at (o := 1) rfl)
  have HF := Lib.hid (show DoR w w4 base b c room H Y from ⟨V, _, A, _, HP3.out.onX hP4 hT4 (fun j hj => .inl hj), HREL.out.atK k rel_shut, atK_all (fun y => by show y.all.length ≤ _; omega), HB3.out.trans (HP3.out.x.toBelow hT4)⟩)
  clear hP4 hT4
  refine ⟨_, rfl, HS4.out, ?_⟩
  go_frame
  refine takeH 8 75 (.bool true) rfl rfl (by kernel_rfl) (by kernel_rfl) (by kernel_rfl) (fun _ _ _ h => h) rfl (fun w' h => by go_simp) HS4.out ?_
  go_frame
  refine takeH 9 6 (.bool true) rfl rfl (by kernel_rfl) (by kernel_rfl) (by kernel_rfl) (fun _ _ _ h => h) rfl (fun w' h => by go_simp) HS4.out ?_
  go_frame
  refine wpAnyH_done (by kernel_rfl) ?_ _
  refine NoPanic.normal ?_
  go_wp2_with fail
  go_ret
  exact ⟨rfl, HF.out⟩
set_option maxHeartbeats 4000000 in
theorem do_cut (h : PB w base b c room V H X A Y) (hrel : RelA X Y) (hbig : ∀ i, i < 2 → (Y i).all.length ≤ 20000) (dd k m st : Int) (Bv : Nat) (v : Value) (p : List UInt8) (hv : Sl w Bv v p) (hBv : Bv ≤ base) (hdd : 0 ≤ dd ∧ dd ≤ 255) (hr : dd % 11 = 8) :
    Calls Tryd.prog 8 #[tP b, tP c, .agg #[.int .u8 dd, .int .i64 k, v, .int .i64 m, .int .u8 st]] w fun e w' => e = .returned (.bool true) ∧ DoR w w' base b c room H Y := by
  obtain ⟨hd0, hd1⟩ := hdd
  have HPB := Lib.hid h
  have HREL := Lib.hid hrel
  have HBIG := Lib.hid hbig
  obtain ⟨PA, PC, rfl, _, _, _, _⟩ := id hv
  have hbs := h.p.size
  obtain ⟨W0, hW0⟩ : ∃ W, W = w.alloc (.cells #[.int .u8 dd, .int .i64 k, .slice PA p.length PC, .int .i64 m, .int .u8 st] 36) := ⟨_, rfl⟩
  have hB0 : Below w.heap.size w W0 := by rw [hW0]; exact (Below.refl _ _).alloc (Nat.le_refl _) _
  have hK0 : Blk W0 w.heap.size [.int .u8 dd, .int .i64 k, .slice PA p.length PC, .int .i64 m, .int .u8 st] := by rw [hW0]; exact Blk.newA w #[.int .u8 dd, .int .i64 k, .slice PA p.length PC, .int .i64 m, .int .u8 st] _
  have hz0 : W0.heap.size = w.heap.size + 1 := by rw [hW0]; simp
  obtain ⟨L, hL⟩ : ∃ L, L = p.take 300 := ⟨_, rfl⟩
  have hL3 : L.length ≤ 300 := by rw [hL, List.length_take]; omega
  have HCut := Lib.hid (cut_any Bv (.slice PA p.length PC) p 300 W0 (hv.below hB0 (by omega)) (by omega) (by omega) (by omega))
  rw [show p.take (300 : Int).toNat = L from hL.symm] at HCut
  have HB0 := Lib.hid hB0
  have HK0 := Lib.hid hK0
  have HP0 := Lib.hid (h.below hB0)
  clear hL hB0 hK0 h hrel hbig hv
  go_enter Tryd.func8, Tryd.ntmps8
  go_wp2_with fail
  rw [← hW0]
  clear hW0
  refine HCut.out.mono ?_
  rintro e w1 ⟨v1, rfl, hO1, hB1⟩
  have hz1 := hB1.size
  have HB1 := Lib.hid (HB0.out.trans (hB1.mono (by omega)))
  have HK1 := Lib.hid (HK0.out.below hB1 (by omega))
  have HP1 := Lib.hid (HP0.out.below hB1)
  have HO1 := Lib.hid hO1
  obtain ⟨A1, C1, rfl, _, _, _, _⟩ := hO1.sl
  clear hO1 hB1 HCut HP0 HK0
  go_wp2_with fail
  refine (copy_any w1.heap.size _ L w1 HO1.out.sl (Nat.le_refl _) (by omega)).mono ?_
  rintro e w2 ⟨v2, rfl, hO2, hB2⟩
  have hz2 := hB2.size
  have HB2 := Lib.hid (HB1.out.trans (hB2.mono (by omega)))
  have HK2 := Lib.hid (HK1.out.below hB2 (by omega))
  have HP2 := Lib.hid (HP1.out.below hB2)
  have HO2 := Lib.hid hO2
  have HO12 := Lib.hid (HO1.out.below hB2)
  obtain ⟨A2, C2, rfl, _, _, _, _⟩ := hO2.sl
  have d0 := HK2.out.at (o := 0) rfl
  have d1 := HK2.out.at (o := 1) rfl
  have d3 := HK2.out.at (o := 3) rfl
  have d4 := HK2.out.at (o := 4) rfl
  clear hO2 hB2 HP1 HK1 HO1
  go_wp2_with fail
  refine (cut_pp HP2.out.p).mono ?_
  rintro e w3 ⟨rfl, hP3, hT3⟩
  have HB3 := Lib.hid ((HB2.out.mono hbs).trans (HP2.out.toBelowP hT3))
  have HP3 := Lib.hid (HP2.out.onP hP3 hT3 (fun j hj => .inl (cutV_sub V b 2 H j hj)))
  clear hP3 hT3 HK2 d0 d1 d3 d4
  go_wp2_with fail
  refine (rCut_px HP3.out.x).mono ?_
  rintro e w4 ⟨rfl, hP4, hT4⟩
  have HF := Lib.hid (show DoR w w4 base b c room H Y from ⟨_, _, A, _, HP3.out.onX hP4 hT4 (fun j hj => .inl hj), relA_cut HREL.out, (fun i hi => by unfold cutR; rw [if_pos hi]; show (Y i).all.length ≤ _; omega), HB3.out.trans (HP3.out.x.toBelow hT4)⟩)
  clear hP4 hT4
  go_wp2_with fail
  go_ret
  exact ⟨rfl, HF.out⟩
end
end Go.Proofs.YtlobmffcnobgeaaDoor
set_option maxRecDepth 100000
namespace Go.Proofs.YtlobmffcnobgeaaDoor
open Go.RowKit
attribute [local go_sem] Oper.semAt_some
section
variable {w w' : World} {base b c room : Nat} {V : Nat → Value} {H : Nat → Nat} {X : Nat → WayL} {A : Nat → Value} {Y : Nat → WayR}
set_option maxHeartbeats 4000000 in
theorem do_read5 (h : PB w base b c room V H X A Y) (hrel : RelA X Y) (hbig : ∀ i, i < 2 → (Y i).all.length ≤ 20000) (dd k m st : Int) (Bv : Nat) (v : Value) (p : List UInt8) (hv : Sl w Bv v p) (hBv : Bv ≤ base) (hdd : 0 ≤ dd ∧ dd ≤ 255) (hr : dd % 11 = 5) :
    Calls Tryd.prog 8 #[tP b, tP c, .agg #[.int .u8 dd, .int .i64 k, v, .int .i64 m, .int .u8 st]] w fun e w' => e = .returned (.bool true) ∧ DoR w w' base b c room H Y := by
  obtain ⟨hd0, hd1⟩ := hdd
  have HPB := Lib.hid h
  have HREL := Lib.hid hrel
  have HBIG := Lib.hid hbig
  obtain ⟨PA, PC, rfl, _, _, _, _⟩ := id hv
  have hbs := h.p.size
  obtain ⟨W0, hW0⟩ : ∃ W, W = w.alloc (.cells #[.int .u8 dd, .int .i64 k, .slice PA p.length PC, .int .i64 m, .int .u8 st] 36) := ⟨_, rfl⟩
  have hB0 : Below w.heap.size w W0 := by rw [hW0]; exact (Below.refl _ _).alloc (Nat.le_refl _) _
  have hK0 : Blk W0 w.heap.size [.int .u8 dd, .int .i64 k, .slice PA p.length PC, .int .i64 m, .int .u8 st] := by rw [hW0]; exact Blk.newA w #[.int .u8 dd, .int .i64 k, .slice PA p.length PC, .int .i64 m, .int .u8 st] _
  have hz0 : W0.heap.size = w.heap.size + 1 := by rw [hW0]; simp
  obtain ⟨L, hL⟩ : ∃ L, L = p.take 300 := ⟨_, rfl⟩
  have hL3 : L.length ≤ 300 := by rw [hL, List.length_take]; omega
  have HCut := Lib.hid (cut_any Bv (.slice PA p.length PC) p 300 W0 (hv.below hB0 (by omega)) (by omega) (by omega) (by omega))
  rw [show p.take (300 : Int).toNat = L from hL.symm] at HCut
  have HB0 := Lib.hid hB0
  have HK0 := Lib.hid hK0
  have HP0 := Lib.hid (h.below hB0)
  clear hL hB0 hK0 h hrel hbig hv
  go_enter Tryd.func8, Tryd.ntmps8
  go_wp2_with fail
  rw [← hW0]
  clear hW0
  refine HCut.out.mono ?_
  rintro e w1 ⟨v1, rfl, hO1, hB1⟩
  have hz1 := hB1.size
  have HB1 := Lib.hid (HB0.out.trans (hB1.mono (by omega)))
  have HK1 := Lib.hid (HK0.out.below hB1 (by omega))
  have HP1 := Lib.hid (HP0.out.below hB1)
  have HO1 := Lib.hid hO1
  obtain ⟨A1, C1, rfl, _, _, _, _⟩ := hO1.sl
  clear hO1 hB1 HCut HP0 HK0
  go_wp2_with fail
  refine (copy_any w1.heap.size _ L w1 HO1.out.sl (Nat.le_refl _) (by omega)).mono ?_
  rintro e w2 ⟨v2, rfl, hO2, hB2⟩
  have hz2 := hB2.size
  have HB2 := Lib.hid (HB1.out.trans (hB2.mono (by omega)))
  have HK2 := Lib.hid (HK1.out.below hB2 (by omega))
  have HP2 := Lib.hid (HP1.out.below hB2)
  have HO2 := Lib.hid hO2
  have HO12 := Lib.hid (HO1.out.below hB2)
  obtain ⟨A2, C2, rfl, _, _, _, _⟩ := hO2.sl
  have d0 := HK2.out.at (o := 0) rfl
  have d1 := HK2.out.at (o := 1) rfl
  have d3 := HK2.out.at (o := 3) rfl
  have d4 := HK2.out.at (o := 4) rfl
  clear hO2 hB2 HP1 HK1 HO1
  go_wp2_with fail
  refine (pread_k HP2.out.p k m).mono ?_
  rintro e w3 ⟨va, V3, rfl, hO3, hP3, hT3, hs3⟩
  have hz3 := hT3.size
  have HB3 := Lib.hid ((HB2.out.mono hbs).trans (HP2.out.toBelowP hT3))
  have HK3 := Lib.hid (hT3.blk HK2.out (fun hm => by have := (HPB.out.p.inS _ hm).2; omega))
  have HP3 := Lib.hid (HP2.out.onP hP3 hT3 (fun j hj => .inl (by rw [← hs3]; exact hj)))
  obtain ⟨l1, hl1⟩ : ∃ l, l = valK X k (fun x => x.buf.take (rdN x m)) [] := ⟨_, rfl⟩
  have hl2 : valK Y k (fun y => (y.all.drop y.rd).take (rrN y m)) [] = l1 := by rw [hl1]; exact (HREL.out.valK k [] (fun x y hxy => rel_out hxy m)).symm
  rw [← hl1] at hO3
  have HO3 := Lib.hid hO3
  have hl1b : l1.length ≤ 4096 := by
    rw [hl1]
    have hlen := HP2.out.p.len
    have hr2 := HP2.out.p.r2
    rcases three_k k with rfl | rfl | hk
    · show ((X 0).buf.take _).length ≤ 4096; rw [List.length_take]; have := hlen 0 (by omega); omega
    · show ((X 1).buf.take _).length ≤ 4096; rw [List.length_take]; have := hlen 1 (by omega); omega
    · rw [valKn _ _ _ hk]; simp
  have Hl2 := Lib.hid hl2
  have e1 := HK3.out.at (o := 1) rfl
  have e3 := HK3.out.at (o := 3) rfl
  obtain ⟨aA, aC, rfl, _, _, _, _⟩ := hO3.sl
  have Hs3 := Lib.hid hs3
  clear hO3 hP3 hT3 hl1 hl2 hs3 HK2 d0 d1 d3 d4
  go_wp2_with fail
  refine (rread_k HP3.out.x k m).mono ?_
  rintro e w4 ⟨vc, rfl, hO4, hP4, hT4⟩
  have hz4 := hT4.size
  have hcS : c < w2.heap.size := HP2.out.x.blk.lt
  rw [Hl2.out] at hO4
  have HB4 := Lib.hid (HB3.out.trans (HP3.out.x.toBelow hT4))
  have HP4 := Lib.hid (HP3.out.onX hP4 hT4 (fun j hj => .inl hj))
  have HO34 := Lib.hid (HO3.out.trs hT4 (fun j hj hm => by rw [List.mem_singleton] at hm; have := (HO3.out.lt j hj).1; omega))
  have HO4 := Lib.hid hO4
  have HSm := Lib.hid (same_true w4.heap.size w4.heap.size (.slice aA l1.length aC) vc l1 w4 HO34.out.sl hO4.sl)
  obtain ⟨cA, cC, rfl, _, _, _, _⟩ := hO4.sl
  have hee : (errK k == errK k) = true := beq_self_eq_true _
  clear hO4 hP4 hT4 HK3 e1 e3
  obtain ⟨E, hE⟩ : ∃ E, E = errK k := ⟨_, rfl⟩
  rw [← hE] at hee ⊢
  clear hE
  go_wp2_with fail
  refine HSm.out.mono ?_
  rintro e w5 ⟨rfl, hw5⟩
  subst hw5
  go_wp2_with fail
  refine (flip_any w2.heap.size (.slice aA l1.length aC) l1 w4 HO34.out (by omega)).mono ?_
  rintro e w6 ⟨rfl, hg6⟩
  have ht6 := Trs.ofGrown hg6
  have hoff : ∀ j ∈ (Value.slice aA l1.length aC).ownBlock.toList, j ∉ ppS b V3 H ∧ j ∉ pxS c A ∧ base ≤ j := by
    intro j hj
    have hj' := (HO34.out.lt j (by simpa using hj)).1
    refine ⟨fun hm => ?_, fun hm => ?_, by omega⟩
    · rw [Hs3.out] at hm; have := (HP2.out.p.inS _ hm).2; omega
    · have := (HP2.out.x.inS _ hm).2; omega
  have HF := Lib.hid (show DoR w w6 base b c room H Y from ⟨V3, _, A, _, HP4.out.off ht6 hoff, HREL.out.atK k (rel_read m), atK_all (fun y => by show y.all.length ≤ _; omega), HB4.out.trans (ht6.toBelow (by have := HB4.out.size; have := HP4.out.p.size; omega) (fun j hj => (hoff j hj).2.2))⟩)
  clear ht6 hg6 hoff
  go_wp2_with fail
  go_ret
  exact ⟨rfl, HF.out⟩
set_option maxHeartbeats 4000000 in
theorem do_read6 (h : PB w base b c room V H X A Y) (hrel : RelA X Y) (hbig : ∀ i, i < 2 → (Y i).all.length ≤ 20000) (dd k m st : Int) (Bv : Nat) (v : Value) (p : List UInt8) (hv : Sl w Bv v p) (hBv : Bv ≤ base) (hdd : 0 ≤ dd ∧ dd ≤ 255) (hr : dd % 11 = 6) :
    Calls Tryd.prog 8 #[tP b, tP c, .agg #[.int .u8 dd, .int .i64 k, v, .int .i64 m, .int .u8 st]] w fun e w' => e = .returned (.bool true) ∧ DoR w w' base b c room H Y := by
  obtain ⟨hd0, hd1⟩ := hdd
  have HPB := Lib.hid h
  have HREL := Lib.hid hrel
  have HBIG := Lib.hid hbig
  obtain ⟨PA, PC, rfl, _, _, _, _⟩ := id hv
  have hbs := h.p.size
  obtain ⟨W0, hW0⟩ : ∃ W, W = w.alloc (.cells #[.int .u8 dd, .int .i64 k, .slice PA p.length PC, .int .i64 m, .int .u8 st] 36) := ⟨_, rfl⟩
  have hB0 : Below w.heap.size w W0 := by rw [hW0]; exact (Below.refl _ _).alloc (Nat.le_refl _) _
  have hK0 : Blk W0 w.heap.size [.int .u8 dd, .int .i64 k, .slice PA p.length PC, .int .i64 m, .int .u8 st] := by rw [hW0]; exact Blk.newA w #[.int .u8 dd, .int .i64 k, .slice PA p.length PC, .int .i64 m, .int .u8 st] _
  have hz0 : W0.heap.size = w.heap.size + 1 := by rw [hW0]; simp
  obtain ⟨L, hL⟩ : ∃ L, L = p.take 300 := ⟨_, rfl⟩
  have hL3 : L.length ≤ 300 := by rw [hL, List.length_take]; omega
  have HCut := Lib.hid (cut_any Bv (.slice PA p.length PC) p 300 W0 (hv.below hB0 (by omega)) (by omega) (by omega) (by omega))
  rw [show p.take (300 : Int).toNat = L from hL.symm] at HCut
  have HB0 := Lib.hid hB0
  have HK0 := Lib.hid hK0
  have HP0 := Lib.hid (h.below hB0)
  clear hL hB0 hK0 h hrel hbig hv
  go_enter Tryd.func8, Tryd.ntmps8
  go_wp2_with fail
  rw [← hW0]
  clear hW0
  refine HCut.out.mono ?_
  rintro e w1 ⟨v1, rfl, hO1, hB1⟩
  have hz1 := hB1.size
  have HB1 := Lib.hid (HB0.out.trans (hB1.mono (by omega)))
  have HK1 := Lib.hid (HK0.out.below hB1 (by omega))
  have HP1 := Lib.hid (HP0.out.below hB1)
  have HO1 := Lib.hid hO1
  obtain ⟨A1, C1, rfl, _, _, _, _⟩ := hO1.sl
  clear hO1 hB1 HCut HP0 HK0
  go_wp2_with fail
  refine (copy_any w1.heap.size _ L w1 HO1.out.sl (Nat.le_refl _) (by omega)).mono ?_
  rintro e w2 ⟨v2, rfl, hO2, hB2⟩
  have hz2 := hB2.size
  have HB2 := Lib.hid (HB1.out.trans (hB2.mono (by omega)))
  have HK2 := Lib.hid (HK1.out.below hB2 (by omega))
  have HP2 := Lib.hid (HP1.out.below hB2)
  have HO2 := Lib.hid hO2
  have HO12 := Lib.hid (HO1.out.below hB2)
  obtain ⟨A2, C2, rfl, _, _, _, _⟩ := hO2.sl
  have d0 := HK2.out.at (o := 0) rfl
  have d1 := HK2.out.at (o := 1) rfl
  have d3 := HK2.out.at (o := 3) rfl
  have d4 := HK2.out.at (o := 4) rfl
  clear hO2 hB2 HP1 HK1 HO1
  go_wp2_with fail
  refine (pread_k HP2.out.p k m).mono ?_
  rintro e w3 ⟨va, V3, rfl, hO3, hP3, hT3, hs3⟩
  have hz3 := hT3.size
  have HB3 := Lib.hid ((HB2.out.mono hbs).trans (HP2.out.toBelowP hT3))
  have HK3 := Lib.hid (hT3.blk HK2.out (fun hm => by have := (HPB.out.p.inS _ hm).2; omega))
  have HP3 := Lib.hid (HP2.out.onP hP3 hT3 (fun j hj => .inl (by rw [← hs3]; exact hj)))
  obtain ⟨l1, hl1⟩ : ∃ l, l = valK X k (fun x => x.buf.take (rdN x m)) [] := ⟨_, rfl⟩
  have hl2 : valK Y k (fun y => (y.all.drop y.rd).take (rrN y m)) [] = l1 := by rw [hl1]; exact (HREL.out.valK k [] (fun x y hxy => rel_out hxy m)).symm
  rw [← hl1] at hO3
  have HO3 := Lib.hid hO3
  have hl1b : l1.length ≤ 4096 := by
    rw [hl1]
    have hlen := HP2.out.p.len
    have hr2 := HP2.out.p.r2
    rcases three_k k with rfl | rfl | hk
    · show ((X 0).buf.take _).length ≤ 4096; rw [List.length_take]; have := hlen 0 (by omega); omega
    · show ((X 1).buf.take _).length ≤ 4096; rw [List.length_take]; have := hlen 1 (by omega); omega
    · rw [valKn _ _ _ hk]; simp
  have Hl2 := Lib.hid hl2
  have e1 := HK3.out.at (o := 1) rfl
  have e3 := HK3.out.at (o := 3) rfl
  obtain ⟨aA, aC, rfl, _, _, _, _⟩ := hO3.sl
  have Hs3 := Lib.hid hs3
  clear hO3 hP3 hT3 hl1 hl2 hs3 HK2 d0 d1 d3 d4
  go_wp2_with fail
  refine (rread_k HP3.out.x k m).mono ?_
  rintro e w4 ⟨vc, rfl, hO4, hP4, hT4⟩
  have hz4 := hT4.size
  have hcS : c < w2.heap.size := HP2.out.x.blk.lt
  rw [Hl2.out] at hO4
  have HB4 := Lib.hid (HB3.out.trans (HP3.out.x.toBelow hT4))
  have HP4 := Lib.hid (HP3.out.onX hP4 hT4 (fun j hj => .inl hj))
  have HO34 := Lib.hid (HO3.out.trs hT4 (fun j hj hm => by rw [List.mem_singleton] at hm; have := (HO3.out.lt j hj).1; omega))
  have HO4 := Lib.hid hO4
  have HSm := Lib.hid (same_true w4.heap.size w4.heap.size (.slice aA l1.length aC) vc l1 w4 HO34.out.sl hO4.sl)
  obtain ⟨cA, cC, rfl, _, _, _, _⟩ := hO4.sl
  have hee : (errK k == errK k) = true := beq_self_eq_true _
  clear hO4 hP4 hT4 HK3 e1 e3
  obtain ⟨E, hE⟩ : ∃ E, E = errK k := ⟨_, rfl⟩
  rw [← hE] at hee ⊢
  clear hE
  go_wp2_with fail
  refine HSm.out.mono ?_
  rintro e w5 ⟨rfl, hw5⟩
  subst hw5
  go_wp2_with fail
  refine (flip_any w2.heap.size (.slice aA l1.length aC) l1 w4 HO34.out (by omega)).mono ?_
  rintro e w6 ⟨rfl, hg6⟩
  have ht6 := Trs.ofGrown hg6
  have hoff : ∀ j ∈ (Value.slice aA l1.length aC).ownBlock.toList, j ∉ ppS b V3 H ∧ j ∉ pxS c A ∧ base ≤ j := by
    intro j hj
    have hj' := (HO34.out.lt j (by simpa using hj)).1
    refine ⟨fun hm => ?_, fun hm => ?_, by omega⟩
    · rw [Hs3.out] at hm; have := (HP2.out.p.inS _ hm).2; omega
    · have := (HP2.out.x.inS _ hm).2; omega
  have HF := Lib.hid (show DoR w w6 base b c room H Y from ⟨V3, _, A, _, HP4.out.off ht6 hoff, HREL.out.atK k (rel_read m), atK_all (fun y => by show y.all.length ≤ _; omega), HB4.out.trans (ht6.toBelow (by have := HB4.out.size; have := HP4.out.p.size; omega) (fun j hj => (hoff j hj).2.2))⟩)
  clear ht6 hg6 hoff
  go_wp2_with fail
  go_ret
  exact ⟨rfl, HF.out⟩
end
end Go.Proofs.YtlobmffcnobgeaaDoor
set_option maxRecDepth 100000
namespace Go.Proofs.YtlobmffcnobgeaaDoor
open Go.RowKit
attribute [local go_sem] Oper.semAt_some
section
variable {w w' : World} {base b c room : Nat} {V : Nat → Value} {H : Nat → Nat} {X : Nat → WayL} {A : Nat → Value} {Y : Nat → WayR}
set_option maxHeartbeats 4000000 in
theorem do_write0 (h : PB w base b c room V H X A Y) (hrel : RelA X Y) (hbig : ∀ i, i < 2 → (Y i).all.length ≤ 20000) (dd k m st : Int) (Bv : Nat) (v : Value) (p : List UInt8) (hv : Sl w Bv v p) (hBv : Bv ≤ base) (hdd : 0 ≤ dd ∧ dd ≤ 255) (hr : dd % 11 = 0) :
    Calls Tryd.prog 8 #[tP b, tP c, .agg #[.int .u8 dd, .int .i64 k, v, .int .i64 m, .int .u8 st]] w fun e w' => e = .returned (.bool true) ∧ DoR w w' base b c room H Y := by
  obtain ⟨hd0, hd1⟩ := hdd
  have HPB := Lib.hid h
  have HREL := Lib.hid hrel
  have HBIG := Lib.hid hbig
  obtain ⟨PA, PC, rfl, _, _, _, _⟩ := id hv
  have hbs := h.p.size
  obtain ⟨W0, hW0⟩ : ∃ W, W = w.alloc (.cells #[.int .u8 dd, .int .i64 k, .slice PA p.length PC, .int .i64 m, .int .u8 st] 36) := ⟨_, rfl⟩
  have hB0 : Below w.heap.size w W0 := by rw [hW0]; exact (Below.refl _ _).alloc (Nat.le_refl _) _
  have hK0 : Blk W0 w.heap.size [.int .u8 dd, .int .i64 k, .slice PA p.length PC, .int .i64 m, .int .u8 st] := by rw [hW0]; exact Blk.newA w #[.int .u8 dd, .int .i64 k, .slice PA p.length PC, .int .i64 m, .int .u8 st] _
  have hz0 : W0.heap.size = w.heap.size + 1 := by rw [hW0]; simp
  obtain ⟨L, hL⟩ : ∃ L, L = p.take 300 := ⟨_, rfl⟩
  have hL3 : L.length ≤ 300 := by rw [hL, List.length_take]; omega
  have HCut := Lib.hid (cut_any Bv (.slice PA p.length PC) p 300 W0 (hv.below hB0 (by omega)) (by omega) (by omega) (by omega))
  rw [show p.take (300 : Int).toNat = L from hL.symm] at HCut
  have HB0 := Lib.hid hB0
  have HK0 := Lib.hid hK0
  have HP0 := Lib.hid (h.below hB0)
  clear hL hB0 hK0 h hrel hbig hv
  go_enter Tryd.func8, Tryd.ntmps8
  go_wp2_with fail
  rw [← hW0]
  clear hW0
  refine HCut.out.mono ?_
  rintro e w1 ⟨v1, rfl, hO1, hB1⟩
  have hz1 := hB1.size
  have HB1 := Lib.hid (HB0.out.trans (hB1.mono (by omega)))
  have HK1 := Lib.hid (HK0.out.below hB1 (by omega))
  have HP1 := Lib.hid (HP0.out.below hB1)
  have HO1 := Lib.hid hO1
  obtain ⟨A1, C1, rfl, _, _, _, _⟩ := hO1.sl
  clear hO1 hB1 HCut HP0 HK0
  go_wp2_with fail
  refine (copy_any w1.heap.size _ L w1 HO1.out.sl (Nat.le_refl _) (by omega)).mono ?_
  rintro e w2 ⟨v2, rfl, hO2, hB2⟩
  have hz2 := hB2.size
  have HB2 := Lib.hid (HB1.out.trans (hB2.mono (by omega)))
  have HK2 := Lib.hid (HK1.out.below hB2 (by omega))
  have HP2 := Lib.hid (HP1.out.below hB2)
  have HO2 := Lib.hid hO2
  have HO12 := Lib.hid (HO1.out.below hB2)
  obtain ⟨A2, C2, rfl, _, _, _, _⟩ := hO2.sl
  have d0 := HK2.out.at (o := 0) rfl
  have d1 := HK2.out.at (o := 1) rfl
  have d3 := HK2.out.at (o := 3) rfl
  have d4 := HK2.out.at (o := 4) rfl
  clear hO2 hB2 HP1 HK1 HO1
  go_wp2_with fail
  refine (pwrite_k HP2.out.p k _ _ L HO2.out.sl).mono ?_
  rintro e w3 ⟨V3, rfl, hP3, hT3, hs3⟩
  have hz3 := hT3.size
  have HB3 := Lib.hid ((HB2.out.mono hbs).trans (HP2.out.toBelowP hT3))
  have HK3 := Lib.hid (hT3.blk HK2.out (fun hm => by have := (HPB.out.p.inS _ hm).2; omega))
  have HP3 := Lib.hid (HP2.out.onP hP3 hT3 hs3)
  have HO23 := Lib.hid (HO2.out.trs hT3 (fun j hj hm => by have := (HO2.out.lt j hj).1; have := (HPB.out.p.inS _ hm).2; omega))
  have HO13 := Lib.hid (HO12.out.trs hT3 (fun j hj hm => by have := (HO12.out.lt j hj).1; have := (HPB.out.p.inS _ hm).2; omega))
  have Hs3 := Lib.hid hs3
  have e1 := HK3.out.at (o := 1) rfl
  have Hn := Lib.hid (show valK Y k (fun y => rkN room y L) 0 = valK X k (fun x => wkN room x L) 0 from (HREL.out.valK k 0 (fun x y hxy => rel_wkN room L x y hxy)).symm)
  have He := Lib.hid (show valK Y k rkE 1 = valK X k wkE 1 from (HREL.out.valK k 1 rel_wkE).symm)
  obtain ⟨N, hN⟩ : ∃ N, N = valK X k (fun x => wkN room x L) 0 := ⟨_, rfl⟩
  obtain ⟨E, hE⟩ : ∃ E, E = valK X k wkE 1 := ⟨_, rfl⟩
  rw [← hN] at Hn ⊢
  rw [← hE] at He ⊢
  have hnn : (N == N) = true := beq_self_eq_true _
  have hee : (E == E) = true := beq_self_eq_true _
  clear hP3 hT3 hs3 HK2 d0 d1 d3 d4 hN hE
  go_wp2_with fail
  refine (rwrite_k HP3.out.x k _ _ L HO13.out.sl (Nat.le_refl _) (fun i hi => by have := HBIG.out i hi; omega)).mono ?_
  rw [Hn.out, He.out]
  rintro e w4 ⟨A4, rfl, hP4, hT4, hs4⟩
  have hz4 := hT4.size
  have hcS : c < w.heap.size := HPB.out.x.blk.lt
  have HB4 := Lib.hid (HB3.out.trans (HP3.out.x.toBelow hT4))
  have HP4 := Lib.hid (HP3.out.onX hP4 hT4 hs4)
  have HO24 := Lib.hid (HO23.out.trs hT4 (fun j hj hm => by rw [List.mem_singleton] at hm; have := (HO23.out.lt j hj).1; omega))
  have HO14 := Lib.hid (HO13.out.trs hT4 (fun j hj hm => by rw [List.mem_singleton] at hm; have := (HO13.out.lt j hj).1; omega))
  have Hs4 := Lib.hid hs4
  have HSm := Lib.hid (same_true w4.heap.size w4.heap.size _ _ L w4 HO24.out.sl HO14.out.sl)
  clear hP4 hT4 hs4 HK3 e1
  go_wp2_with fail
  refine HSm.out.mono ?_
  rintro e w5 ⟨rfl, hw5⟩
  subst hw5
  go_wp2_with fail
  refine (flip_any w1.heap.size (.slice A2 L.length C2) L w4 HO24.out (by omega)).mono ?_
  rintro e w6 ⟨rfl, hg6⟩
  have ht6 := Trs.ofGrown hg6
  have hoff : ∀ j ∈ (Value.slice A2 L.length C2).ownBlock.toList, j ∉ ppS b V3 H ∧ j ∉ pxS c A4 ∧ base ≤ j := by
    intro j hj
    have hj' : (Value.slice A2 L.length C2).ownBlock = some j := by simpa using hj
    have hj1 := (HO2.out.lt j hj')
    refine ⟨fun hm => ?_, fun hm => ?_, by omega⟩
    · rcases Hs3.out j hm with h1 | h1
      · have := (HPB.out.p.inS _ h1).2; omega
      · omega
    · rcases Hs4.out j hm with h1 | h1
      · have := (HPB.out.x.inS _ h1).2; omega
      · omega
  have HF := Lib.hid (show DoR w w6 base b c room H Y from ⟨V3, _, A4, _, HP4.out.off ht6 hoff, HREL.out.atK k (fun x y hxy => rel_wk room L x y hxy), atK_all (fun y => by
      unfold rkR
      split
      · omega
      · show (y.all ++ L.take _).length ≤ _
        rw [List.length_append, List.length_take]; omega), HB4.out.trans (ht6.toBelow (by have := HB4.out.size; have := HP4.out.p.size; omega) (fun j hj => (hoff j hj).2.2))⟩)
  clear ht6 hg6 hoff
  go_wp2_with fail
  go_ret
  exact ⟨rfl, HF.out⟩
set_option maxHeartbeats 4000000 in
theorem do_write1 (h : PB w base b c room V H X A Y) (hrel : RelA X Y) (hbig : ∀ i, i < 2 → (Y i).all.length ≤ 20000) (dd k m st : Int) (Bv : Nat) (v : Value) (p : List UInt8) (hv : Sl w Bv v p) (hBv : Bv ≤ base) (hdd : 0 ≤ dd ∧ dd ≤ 255) (hr : dd % 11 = 1) :
    Calls Tryd.prog 8 #[tP b, tP c, .agg #[.int .u8 dd, .int .i64 k, v, .int .i64 m, .int .u8 st]] w fun e w' => e = .returned (.bool true) ∧ DoR w w' base b c room H Y := by
  obtain ⟨hd0, hd1⟩ := hdd
  have HPB := Lib.hid h
  have HREL := Lib.hid hrel
  have HBIG := Lib.hid hbig
  obtain ⟨PA, PC, rfl, _, _, _, _⟩ := id hv
  have hbs := h.p.size
  obtain ⟨W0, hW0⟩ : ∃ W, W = w.alloc (.cells #[.int .u8 dd, .int .i64 k, .slice PA p.length PC, .int .i64 m, .int .u8 st] 36) := ⟨_, rfl⟩
  have hB0 : Below w.heap.size w W0 := by rw [hW0]; exact (Below.refl _ _).alloc (Nat.le_refl _) _
  have hK0 : Blk W0 w.heap.size [.int .u8 dd, .int .i64 k, .slice PA p.length PC, .int .i64 m, .int .u8 st] := by rw [hW0]; exact Blk.newA w #[.int .u8 dd, .int .i64 k, .slice PA p.length PC, .int .i64 m, .int .u8 st] _
  have hz0 : W0.heap.size = w.heap.size + 1 := by rw [hW0]; simp
  obtain ⟨L, hL⟩ : ∃ L, L = p.take 300 := ⟨_, rfl⟩
  have hL3 : L.length ≤ 300 := by rw [hL, List.length_take]; omega
  have HCut := Lib.hid (cut_any Bv (.slice PA p.length PC) p 300 W0 (hv.below hB0 (by omega)) (by omega) (by omega) (by omega))
  rw [show p.take (300 : Int).toNat = L from hL.symm] at HCut
  have HB0 := Lib.hid hB0
  have HK0 := Lib.hid hK0
  have HP0 := Lib.hid (h.below hB0)
  clear hL hB0 hK0 h hrel hbig hv
  go_enter Tryd.func8, Tryd.ntmps8
  go_wp2_with fail
  rw [← hW0]
  clear hW0
  refine HCut.out.mono ?_
  rintro e w1 ⟨v1, rfl, hO1, hB1⟩
  have hz1 := hB1.size
  have HB1 := Lib.hid (HB0.out.trans (hB1.mono (by omega)))
  have HK1 := Lib.hid (HK0.out.below hB1 (by omega))
  have HP1 := Lib.hid (HP0.out.below hB1)
  have HO1 := Lib.hid hO1
  obtain ⟨A1, C1, rfl, _, _, _, _⟩ := hO1.sl
  clear hO1 hB1 HCut HP0 HK0
  go_wp2_with fail
  refine (copy_any w1.heap.size _ L w1 HO1.out.sl (Nat.le_refl _) (by omega)).mono ?_
  rintro e w2 ⟨v2, rfl, hO2, hB2⟩
  have hz2 := hB2.size
  have HB2 := Lib.hid (HB1.out.trans (hB2.mono (by omega)))
  have HK2 := Lib.hid (HK1.out.below hB2 (by omega))
  have HP2 := Lib.hid (HP1.out.below hB2)
  have HO2 := Lib.hid hO2
  have HO12 := Lib.hid (HO1.out.below hB2)
  obtain ⟨A2, C2, rfl, _, _, _, _⟩ := hO2.sl
  have d0 := HK2.out.at (o := 0) rfl
  have d1 := HK2.out.at (o := 1) rfl
  have d3 := HK2.out.at (o := 3) rfl
  have d4 := HK2.out.at (o := 4) rfl
  clear hO2 hB2 HP1 HK1 HO1
  go_wp2_with fail
  refine (pwrite_k HP2.out.p k _ _ L HO2.out.sl).mono ?_
  rintro e w3 ⟨V3, rfl, hP3, hT3, hs3⟩
  have hz3 := hT3.size
  have HB3 := Lib.hid ((HB2.out.mono hbs).trans (HP2.out.toBelowP hT3))
  have HK3 := Lib.hid (hT3.blk HK2.out (fun hm => by have := (HPB.out.p.inS _ hm).2; omega))
  have HP3 := Lib.hid (HP2.out.onP hP3 hT3 hs3)
  have HO23 := Lib.hid (HO2.out.trs hT3 (fun j hj hm => by have := (HO2.out.lt j hj).1; have := (HPB.out.p.inS _ hm).2; omega))
  have HO13 := Lib.hid (HO12.out.trs hT3 (fun j hj hm => by have := (HO12.out.lt j hj).1; have := (HPB.out.p.inS _ hm).2; omega))
  have Hs3 := Lib.hid hs3
  have e1 := HK3.out.at (o := 1) rfl
  have Hn := Lib.hid (show valK Y k (fun y => rkN room y L) 0 = valK X k (fun x => wkN room x L) 0 from (HREL.out.valK k 0 (fun x y hxy => rel_wkN room L x y hxy)).symm)
  have He := Lib.hid (show valK Y k rkE 1 = valK X k wkE 1 from (HREL.out.valK k 1 rel_wkE).symm)
  obtain ⟨N, hN⟩ : ∃ N, N = valK X k (fun x => wkN room x L) 0 := ⟨_, rfl⟩
  obtain ⟨E, hE⟩ : ∃ E, E = valK X k wkE 1 := ⟨_, rfl⟩
  rw [← hN] at Hn ⊢
  rw [← hE] at He ⊢
  have hnn : (N == N) = true := beq_self_eq_true _
  have hee : (E == E) = true := beq_self_eq_true _
  clear hP3 hT3 hs3 HK2 d0 d1 d3 d4 hN hE
  go_wp2_with fail
  refine (rwrite_k HP3.out.x k _ _ L HO13.out.sl (Nat.le_refl _) (fun i hi => by have := HBIG.out i hi; omega)).mono ?_
  rw [Hn.out, He.out]
  rintro e w4 ⟨A4, rfl, hP4, hT4, hs4⟩
  have hz4 := hT4.size
  have hcS : c < w.heap.size := HPB.out.x.blk.lt
  have HB4 := Lib.hid (HB3.out.trans (HP3.out.x.toBelow hT4))
  have HP4 := Lib.hid (HP3.out.onX hP4 hT4 hs4)
  have HO24 := Lib.hid (HO23.out.trs hT4 (fun j hj hm => by rw [List.mem_singleton] at hm; have := (HO23.out.lt j hj).1; omega))
  have HO14 := Lib.hid (HO13.out.trs hT4 (fun j hj hm => by rw [List.mem_singleton] at hm; have := (HO13.out.lt j hj).1; omega))
  have Hs4 := Lib.hid hs4
  have HSm := Lib.hid (same_true w4.heap.size w4.heap.size _ _ L w4 HO24.out.sl HO14.out.sl)
  clear hP4 hT4 hs4 HK3 e1
  go_wp2_with fail
  refine HSm.out.mono ?_
  rintro e w5 ⟨rfl, hw5⟩
  subst hw5
  go_wp2_with fail
  refine (flip_any w1.heap.size (.slice A2 L.length C2) L w4 HO24.out (by omega)).mono ?_
  rintro e w6 ⟨rfl, hg6⟩
  have ht6 := Trs.ofGrown hg6
  have hoff : ∀ j ∈ (Value.slice A2 L.length C2).ownBlock.toList, j ∉ ppS b V3 H ∧ j ∉ pxS c A4 ∧ base ≤ j := by
    intro j hj
    have hj' : (Value.slice A2 L.length C2).ownBlock = some j := by simpa using hj
    have hj1 := (HO2.out.lt j hj')
    refine ⟨fun hm => ?_, fun hm => ?_, by omega⟩
    · rcases Hs3.out j hm with h1 | h1
      · have := (HPB.out.p.inS _ h1).2; omega
      · omega
    · rcases Hs4.out j hm with h1 | h1
      · have := (HPB.out.x.inS _ h1).2; omega
      · omega
  have HF := Lib.hid (show DoR w w6 base b c room H Y from ⟨V3, _, A4, _, HP4.out.off ht6 hoff, HREL.out.atK k (fun x y hxy => rel_wk room L x y hxy), atK_all (fun y => by
      unfold rkR
      split
      · omega
      · show (y.all ++ L.take _).length ≤ _
        rw [List.length_append, List.length_take]; omega), HB4.out.trans (ht6.toBelow (by have := HB4.out.size; have := HP4.out.p.size; omega) (fun j hj => (hoff j hj).2.2))⟩)
  clear ht6 hg6 hoff
  go_wp2_with fail
  go_ret
  exact ⟨rfl, HF.out⟩
set_option maxHeartbeats 4000000 in
theorem do_write2 (h : PB w base b c room V H X A Y) (hrel : RelA X Y) (hbig : ∀ i, i < 2 → (Y i).all.length ≤ 20000) (dd k m st : Int) (Bv : Nat) (v : Value) (p : List UInt8) (hv : Sl w Bv v p) (hBv : Bv ≤ base) (hdd : 0 ≤ dd ∧ dd ≤ 255) (hr : dd % 11 = 2) :
    Calls Tryd.prog 8 #[tP b, tP c, .agg #[.int .u8 dd, .int .i64 k, v, .int .i64 m, .int .u8 st]] w fun e w' => e = .returned (.bool true) ∧ DoR w w' base b c room H Y := by
  obtain ⟨hd0, hd1⟩ := hdd
  have HPB := Lib.hid h
  have HREL := Lib.hid hrel
  have HBIG := Lib.hid hbig
  obtain ⟨PA, PC, rfl, _, _, _, _⟩ := id hv
  have hbs := h.p.size
  obtain ⟨W0, hW0⟩ : ∃ W, W = w.alloc (.cells #[.int .u8 dd, .int .i64 k, .slice PA p.length PC, .int .i64 m, .int .u8 st] 36) := ⟨_, rfl⟩
  have hB0 : Below w.heap.size w W0 := by rw [hW0]; exact (Below.refl _ _).alloc (Nat.le_refl _) _
  have hK0 : Blk W0 w.heap.size [.int .u8 dd, .int .i64 k, .slice PA p.length PC, .int .i64 m, .int .u8 st] := by rw [hW0]; exact Blk.newA w #[.int .u8 dd, .int .i64 k, .slice PA p.length PC, .int .i64 m, .int .u8 st] _
  have hz0 : W0.heap.size = w.heap.size + 1 := by rw [hW0]; simp
  obtain ⟨L, hL⟩ : ∃ L, L = p.take 300 := ⟨_, rfl⟩
  have hL3 : L.length ≤ 300 := by rw [hL, List.length_take]; omega
  have HCut := Lib.hid (cut_any Bv (.slice PA p.length PC) p 300 W0 (hv.below hB0 (by omega)) (by omega) (by omega) (by omega))
  rw [show p.take (300 : Int).toNat = L from hL.symm] at HCut
  have HB0 := Lib.hid hB0
  have HK0 := Lib.hid hK0
  have HP0 := Lib.hid (h.below hB0)
  clear hL hB0 hK0 h hrel hbig hv
  go_enter Tryd.func8, Tryd.ntmps8
  go_wp2_with fail
  rw [← hW0]
  clear hW0
  refine HCut.out.mono ?_
  rintro e w1 ⟨v1, rfl, hO1, hB1⟩
  have hz1 := hB1.size
  have HB1 := Lib.hid (HB0.out.trans (hB1.mono (by omega)))
  have HK1 := Lib.hid (HK0.out.below hB1 (by omega))
  have HP1 := Lib.hid (HP0.out.below hB1)
  have HO1 := Lib.hid hO1
  obtain ⟨A1, C1, rfl, _, _, _, _⟩ := hO1.sl
  clear hO1 hB1 HCut HP0 HK0
  go_wp2_with fail
  refine (copy_any w1.heap.size _ L w1 HO1.out.sl (Nat.le_refl _) (by omega)).mono ?_
  rintro e w2 ⟨v2, rfl, hO2, hB2⟩
  have hz2 := hB2.size
  have HB2 := Lib.hid (HB1.out.trans (hB2.mono (by omega)))
  have HK2 := Lib.hid (HK1.out.below hB2 (by omega))
  have HP2 := Lib.hid (HP1.out.below hB2)
  have HO2 := Lib.hid hO2
  have HO12 := Lib.hid (HO1.out.below hB2)
  obtain ⟨A2, C2, rfl, _, _, _, _⟩ := hO2.sl
  have d0 := HK2.out.at (o := 0) rfl
  have d1 := HK2.out.at (o := 1) rfl
  have d3 := HK2.out.at (o := 3) rfl
  have d4 := HK2.out.at (o := 4) rfl
  clear hO2 hB2 HP1 HK1 HO1
  go_wp2_with fail
  refine (pwrite_k HP2.out.p k _ _ L HO2.out.sl).mono ?_
  rintro e w3 ⟨V3, rfl, hP3, hT3, hs3⟩
  have hz3 := hT3.size
  have HB3 := Lib.hid ((HB2.out.mono hbs).trans (HP2.out.toBelowP hT3))
  have HK3 := Lib.hid (hT3.blk HK2.out (fun hm => by have := (HPB.out.p.inS _ hm).2; omega))
  have HP3 := Lib.hid (HP2.out.onP hP3 hT3 hs3)
  have HO23 := Lib.hid (HO2.out.trs hT3 (fun j hj hm => by have := (HO2.out.lt j hj).1; have := (HPB.out.p.inS _ hm).2; omega))
  have HO13 := Lib.hid (HO12.out.trs hT3 (fun j hj hm => by have := (HO12.out.lt j hj).1; have := (HPB.out.p.inS _ hm).2; omega))
  have Hs3 := Lib.hid hs3
  have e1 := HK3.out.at (o := 1) rfl
  have Hn := Lib.hid (show valK Y k (fun y => rkN room y L) 0 = valK X k (fun x => wkN room x L) 0 from (HREL.out.valK k 0 (fun x y hxy => rel_wkN room L x y hxy)).symm)
  have He := Lib.hid (show valK Y k rkE 1 = valK X k wkE 1 from (HREL.out.valK k 1 rel_wkE).symm)
  obtain ⟨N, hN⟩ : ∃ N, N = valK X k (fun x => wkN room x L) 0 := ⟨_, rfl⟩
  obtain ⟨E, hE⟩ : ∃ E, E = valK X k wkE 1 := ⟨_, rfl⟩
  rw [← hN] at Hn ⊢
  rw [← hE] at He ⊢
  have hnn : (N == N) = true := beq_self_eq_true _
  have hee : (E == E) = true := beq_self_eq_true _
  clear hP3 hT3 hs3 HK2 d0 d1 d3 d4 hN hE
  go_wp2_with fail
  refine (rwrite_k HP3.out.x k _ _ L HO13.out.sl (Nat.le_refl _) (fun i hi => by have := HBIG.out i hi; omega)).mono ?_
  rw [Hn.out, He.out]
  rintro e w4 ⟨A4, rfl, hP4, hT4, hs4⟩
  have hz4 := hT4.size
  have hcS : c < w.heap.size := HPB.out.x.blk.lt
  have HB4 := Lib.hid (HB3.out.trans (HP3.out.x.toBelow hT4))
  have HP4 := Lib.hid (HP3.out.onX hP4 hT4 hs4)
  have HO24 := Lib.hid (HO23.out.trs hT4 (fun j hj hm => by rw [List.mem_singleton] at hm; have := (HO23.out.lt j hj).1; omega))
  have HO14 := Lib.hid (HO13.out.trs hT4 (fun j hj hm => by rw [List.mem_singleton] at hm; have := (HO13.out.lt j hj).1; omega))
  have Hs4 := Lib.hid hs4
  have HSm := Lib.hid (same_true w4.heap.size w4.heap.size _ _ L w4 HO24.out.sl HO14.out.sl)
  clear hP4 hT4 hs4 HK3 e1
  go_wp2_with fail
  refine HSm.out.mono ?_
  rintro e w5 ⟨rfl, hw5⟩
  subst hw5
  go_wp2_with fail
  refine (flip_any w1.heap.size (.slice A2 L.length C2) L w4 HO24.out (by omega)).mono ?_
  rintro e w6 ⟨rfl, hg6⟩
  have ht6 := Trs.ofGrown hg6
  have hoff : ∀ j ∈ (Value.slice A2 L.length C2).ownBlock.toList, j ∉ ppS b V3 H ∧ j ∉ pxS c A4 ∧ base ≤ j := by
    intro j hj
    have hj' : (Value.slice A2 L.length C2).ownBlock = some j := by simpa using hj
    have hj1 := (HO2.out.lt j hj')
    refine ⟨fun hm => ?_, fun hm => ?_, by omega⟩
    · rcases Hs3.out j hm with h1 | h1
      · have := (HPB.out.p.inS _ h1).2; omega
      · omega
    · rcases Hs4.out j hm with h1 | h1
      · have := (HPB.out.x.inS _ h1).2; omega
      · omega
  have HF := Lib.hid (show DoR w w6 base b c room H Y from ⟨V3, _, A4, _, HP4.out.off ht6 hoff, HREL.out.atK k (fun x y hxy => rel_wk room L x y hxy), atK_all (fun y => by
      unfold rkR
      split
      · omega
      · show (y.all ++ L.take _).length ≤ _
        rw [List.length_append, List.length_take]; omega), HB4.out.trans (ht6.toBelow (by have := HB4.out.size; have := HP4.out.p.size; omega) (fun j hj => (hoff j hj).2.2))⟩)
  clear ht6 hg6 hoff
  go_wp2_with fail
  go_ret
  exact ⟨rfl, HF.out⟩
set_option maxHeartbeats 4000000 in
theorem do_write3 (h : PB w base b c room V H X A Y) (hrel : RelA X Y) (hbig : ∀ i, i < 2 → (Y i).all.length ≤ 20000) (dd k m st : Int) (Bv : Nat) (v : Value) (p : List UInt8) (hv : Sl w Bv v p) (hBv : Bv ≤ base) (hdd : 0 ≤ dd ∧ dd ≤ 255) (hr : dd % 11 = 3) :
    Calls Tryd.prog 8 #[tP b, tP c, .agg #[.int .u8 dd, .int .i64 k, v, .int .i64 m, .int .u8 st]] w fun e w' => e = .returned (.bool true) ∧ DoR w w' base b c room H Y := by
  obtain ⟨hd0, hd1⟩ := hdd
  have HPB := Lib.hid h
  have HREL := Lib.hid hrel
  have HBIG := Lib.hid hbig
  obtain ⟨PA, PC, rfl, _, _, _, _⟩ := id hv
  have hbs := h.p.size
  obtain ⟨W0, hW0⟩ : ∃ W, W = w.alloc (.cells #[.int .u8 dd, .int .i64 k, .slice PA p.length PC, .int .i64 m, .int .u8 st] 36) := ⟨_, rfl⟩
  have hB0 : Below w.heap.size w W0 := by rw [hW0]; exact (Below.refl _ _).alloc (Nat.le_refl _) _
  have hK0 : Blk W0 w.heap.size [.int .u8 dd, .int .i64 k, .slice PA p.length PC, .int .i64 m, .int .u8 st] := by rw [hW0]; exact Blk.newA w #[.int .u8 dd, .int .i64 k, .slice PA p.length PC, .int .i64 m, .int .u8 st] _
  have hz0 : W0.heap.size = w.heap.size + 1 := by rw [hW0]; simp
  obtain ⟨L, hL⟩ : ∃ L, L = p.take 300 := ⟨_, rfl⟩
  have hL3 : L.length ≤ 300 := by rw [hL, List.length_take]; omega
  have HCut := Lib.hid (cut_any Bv (.slice PA p.length PC) p 300 W0 (hv.below hB0 (by omega)) (by omega) (by omega) (by omega))
  rw [show p.take (300 : Int).toNat = L from hL.symm] at HCut
  have HB0 := Lib.hid hB0
  have HK0 := Lib.hid hK0
  have HP0 := Lib.hid (h.below hB0)
  clear hL hB0 hK0 h hrel hbig hv
  go_enter Tryd.func8, Tryd.ntmps8
  go_wp2_with fail
  rw [← hW0]
  clear hW0
  refine HCut.out.mono ?_
  rintro e w1 ⟨v1, rfl, hO1, hB1⟩
  have hz1 := hB1.size
  have HB1 := Lib.hid (HB0.out.trans (hB1.mono (by omega)))
  have HK1 := Lib.hid (HK0.out.below hB1 (by omega))
  have HP1 := Lib.hid (HP0.out.below hB1)
  have HO1 := Lib.hid hO1
  obtain ⟨A1, C1, rfl, _, _, _, _⟩ := hO1.sl
  clear hO1 hB1 HCut HP0 HK0
  go_wp2_with fail
  refine (copy_any w1.heap.size _ L w1 HO1.out.sl (Nat.le_refl _) (by omega)).mono ?_
  rintro e w2 ⟨v2, rfl, hO2, hB2⟩
  have hz2 := hB2.size
  have HB2 := Lib.hid (HB1.out.trans (hB2.mono (by omega)))
  have HK2 := Lib.hid (HK1.out.below hB2 (by omega))
  have HP2 := Lib.hid (HP1.out.below hB2)
  have HO2 := Lib.hid hO2
  have HO12 := Lib.hid (HO1.out.below hB2)
  obtain ⟨A2, C2, rfl, _, _, _, _⟩ := hO2.sl
  have d0 := HK2.out.at (o := 0) rfl
  have d1 := HK2.out.at (o := 1) rfl
  have d3 := HK2.out.at (o := 3) rfl
  have d4 := HK2.out.at (o := 4) rfl
  clear hO2 hB2 HP1 HK1 HO1
  go_wp2_with fail
  refine (pwrite_k HP2.out.p k _ _ L HO2.out.sl).mono ?_
  rintro e w3 ⟨V3, rfl, hP3, hT3, hs3⟩
  have hz3 := hT3.size
  have HB3 := Lib.hid ((HB2.out.mono hbs).trans (HP2.out.toBelowP hT3))
  have HK3 := Lib.hid (hT3.blk HK2.out (fun hm => by have := (HPB.out.p.inS _ hm).2; omega))
  have HP3 := Lib.hid (HP2.out.onP hP3 hT3 hs3)
  have HO23 := Lib.hid (HO2.out.trs hT3 (fun j hj hm => by have := (HO2.out.lt j hj).1; have := (HPB.out.p.inS _ hm).2; omega))
  have HO13 := Lib.hid (HO12.out.trs hT3 (fun j hj hm => by have := (HO12.out.lt j hj).1; have := (HPB.out.p.inS _ hm).2; omega))
  have Hs3 := Lib.hid hs3
  have e1 := HK3.out.at (o := 1) rfl
  have Hn := Lib.hid (show valK Y k (fun y => rkN room y L) 0 = valK X k (fun x => wkN room x L) 0 from (HREL.out.valK k 0 (fun x y hxy => rel_wkN room L x y hxy)).symm)
  have He := Lib.hid (show valK Y k rkE 1 = valK X k wkE 1 from (HREL.out.valK k 1 rel_wkE).symm)
  obtain ⟨N, hN⟩ : ∃ N, N = valK X k (fun x => wkN room x L) 0 := ⟨_, rfl⟩
  obtain ⟨E, hE⟩ : ∃ E, E = valK X k wkE 1 := ⟨_, rfl⟩
  rw [← hN] at Hn ⊢
  rw [← hE] at He ⊢
  have hnn : (N == N) = true := beq_self_eq_true _
  have hee : (E == E) = true := beq_self_eq_true _
  clear hP3 hT3 hs3 HK2 d0 d1 d3 d4 hN hE
  go_wp2_with fail
  refine (rwrite_k HP3.out.x k _ _ L HO13.out.sl (Nat.le_refl _) (fun i hi => by have := HBIG.out i hi; omega)).mono ?_
  rw [Hn.out, He.out]
  rintro e w4 ⟨A4, rfl, hP4, hT4, hs4⟩
  have hz4 := hT4.size
  have hcS : c < w.heap.size := HPB.out.x.blk.lt
  have HB4 := Lib.hid (HB3.out.trans (HP3.out.x.toBelow hT4))
  have HP4 := Lib.hid (HP3.out.onX hP4 hT4 hs4)
  have HO24 := Lib.hid (HO23.out.trs hT4 (fun j hj hm => by rw [List.mem_singleton] at hm; have := (HO23.out.lt j hj).1; omega))
  have HO14 := Lib.hid (HO13.out.trs hT4 (fun j hj hm => by rw [List.mem_singleton] at hm; have := (HO13.out.lt j hj).1; omega))
  have Hs4 := Lib.hid hs4
  have HSm := Lib.hid (same_true w4.heap.size w4.heap.size _ _ L w4 HO24.out.sl HO14.out.sl)
  clear hP4 hT4 hs4 HK3 e1
  go_wp2_with fail
  refine HSm.out.mono ?_
  rintro e w5 ⟨rfl, hw5⟩
  subst hw5
  go_wp2_with fail
  refine (flip_any w1.heap.size (.slice A2 L.length C2) L w4 HO24.out (by omega)).mono ?_
  rintro e w6 ⟨rfl, hg6⟩
  have ht6 := Trs.ofGrown hg6
  have hoff : ∀ j ∈ (Value.slice A2 L.length C2).ownBlock.toList, j ∉ ppS b V3 H ∧ j ∉ pxS c A4 ∧ base ≤ j := by
    intro j hj
    have hj' : (Value.slice A2 L.length C2).ownBlock = some j := by simpa using hj
    have hj1 := (HO2.out.lt j hj')
    refine ⟨fun hm => ?_, fun hm => ?_, by omega⟩
    · rcases Hs3.out j hm with h1 | h1
      · have := (HPB.out.p.inS _ h1).2; omega
      · omega
    · rcases Hs4.out j hm with h1 | h1
      · have := (HPB.out.x.inS _ h1).2; omega
      · omega
  have HF := Lib.hid (show DoR w w6 base b c room H Y from ⟨V3, _, A4, _, HP4.out.off ht6 hoff, HREL.out.atK k (fun x y hxy => rel_wk room L x y hxy), atK_all (fun y => by
      unfold rkR
      split
      · omega
      · show (y.all ++ L.take _).length ≤ _
        rw [List.length_append, List.length_take]; omega), HB4.out.trans (ht6.toBelow (by have := HB4.out.size; have := HP4.out.p.size; omega) (fun j hj => (hoff j hj).2.2))⟩)
  clear ht6 hg6 hoff
  go_wp2_with fail
  go_ret
  exact ⟨rfl, HF.out⟩
end
end Go.Proofs.YtlobmffcnobgeaaDoor
set_option maxRecDepth 100000
namespace Go.Proofs.YtlobmffcnobgeaaDoor
open Go.RowKit Go.Shelf
attribute [local go_sem] Oper.semAt_some
/-- The closure of Chunks. -/
abbrev gCh : Nat := 47
/-- A piece: its slice and its bytes. -/
abbrev Piece : Type := Value × List UInt8
set_option maxHeartbeats 2000000 in
theorem chunks_in (d : Nat) (hd : 3 ≤ d) (l bx b : Nat) (ptr : Value) (k m : Int) (I : List Piece → World → Prop) (Iy : List Piece → Piece → World → Prop) (Id : List Piece → World → Prop) (ms : World → Nat) (μ : List Piece → Nat) (R : World → Prop) (Jx : List Piece → World → Prop)
    (hbx : ∀ pre W, I pre W → W.cell? ⟨bx, 0, none⟩ = some ptr ∧ W.cell? ⟨bx + 1, 0, none⟩ = some (.int .i64 k) ∧ W.cell? ⟨bx + 2, 0, none⟩ = some (.int .i64 m))
    (hms : ∀ pre W, I pre W → ms W = μ pre)
    (hN : ∀ pre W, I pre W → Calls Tryd.prog 19 #[ptr, .int .i64 k, .int .i64 m] W fun e W' => KeepsAt b W W' ∧ ∃ x : Piece, ∃ er : Int, (∃ A c, x.1 = .slice A x.2.length c) ∧ e = .returned (.tuple #[x.1, .int .i64 er]) ∧ ((x.2 = [] ∧ Id pre W') ∨ (0 < x.2.length ∧ Iy pre x W' ∧ μ (pre ++ [x]) < μ pre)))
    (hR : ∀ A B, R A → KeepsAt b A B → R B)
    (hY : ∀ pre x W1, Iy pre x W1 → R W1 → YieldAt Fence.wide (d - 1) Tryd.prog l #[x.1] W1 fun e W' => (e = .returned (.bool true) ∧ I (pre ++ [x]) W' ∧ R W') ∨ (e = .returned (.bool false) ∧ Jx (pre ++ [x]) W'))
    (W : World) (h0 : I [] W) (hR0 : R W) :
    CallsIn Fence.wide d Tryd.prog gCh #[.func (.yield l) #[] #[], .pointer (some ⟨bx, 0, none⟩), .pointer (some ⟨bx + 1, 0, none⟩), .pointer (some ⟨bx + 2, 0, none⟩)] W fun e W' => (∃ v, e = .returned v) ∧ ((∃ xs, Id xs W' ∧ R W') ∨ (∃ pre, Jx pre W')) := by
  have h1 : 1 ≤ d := by omega
  have h1' : 1 ≤ d - 1 := by omega
  refine callsIn_of_wp Tryd.func47 rfl trivial ?_ rfl
  simp only [Tryd.ntmps47, List.size_toArray, List.length_cons, List.length_nil, Nat.reduceAdd, Nat.reduceSub, Array.replicate_succ, Array.replicate_zero, List.push_toArray, List.append_toArray, List.nil_append, List.cons_append]
  gi_wp2
  gi_loopw [5, 6] (fun _ _ wr => ∃ pre, I pre wr ∧ R wr) (fun _ _ wr => ms wr)
  case atStart => exact ⟨[], h0, hR0⟩
  case round =>
    obtain ⟨pre, hI, hRr⟩ := hrel
    obtain ⟨hc, hc2, hc3⟩ := hbx pre wr hI
    have hm := Lib.hid (hms pre wr hI)
    have hn := Lib.hid (hN pre wr hI)
    gi_wp2
    refine ⟨trivial, (callsIn_wide.2 hn.out).mono ?_⟩
    clear hn
    rintro e w2 ⟨hka, ⟨v, bd⟩, er, ⟨A, cp, hxv⟩, rfl, ⟨hbd, hid⟩ | ⟨hpos, hiy, hlt⟩⟩
    · simp only at hxv hbd
      subst hbd
      subst hxv
      have hR2 := hR _ _ hRr hka
      clear hY hN hka
      gi_wp2
      refine ⟨fun _ h => (by cases h), ?_⟩
      gi_wp2
      refine bodyPost_ret (results_none rfl _ _ _) rfl ?_
      exact ⟨⟨_, rfl⟩, .inl ⟨pre, hid, hR2⟩⟩
    · simp only at hxv hpos
      subst hxv
      have hR2 := hR _ _ hRr hka
      obtain ⟨fn, tmps, assign, body, hy, hRr2⟩ := hY pre (.slice A bd.length cp, bd) _ hiy hR2
      have HY := Lib.hid hY
      have HN := Lib.hid hN
      have HL := Lib.hid hlt
      obtain ⟨N, hNl⟩ : ∃ N, N = bd.length := ⟨_, rfl⟩
      have hp : ((N : Int) == 0) = false := beq_eq_false_iff_ne.2 (by omega)
      clear hY hN hka hlt hiy
      simp only at hy hRr2
      rw [← hNl] at hy hRr2 HL ⊢
      clear hpos hNl
      gi_wp2
      refine hRr2.mono ?_
      rintro e W3 (⟨rfl, hI3, hR3⟩ | ⟨rfl, hJx3⟩)
      · have hm3 := Lib.hid (hms _ _ hI3)
        gi_wp2
        go_roundw
        case rel => exact ⟨_, hI3, hR3⟩
        case measure => rw [hm.out, hm3.out]; exact HL.out
      · gi_wp2
        refine bodyPost_ret (results_none rfl _ _ _) rfl ?_
        exact ⟨⟨_, rfl⟩, .inr ⟨_, hJx3⟩⟩
/-- pipe.Chunks: the closure over what it was handed, boxed. -/
theorem chunks_any (p : Value) (k m : Int) (w : World) (hp : p = .pointer none ∨ ∃ g, p = .pointer (some ⟨g, 0, none⟩)) : Calls Tryd.prog 40 #[p, .int .i64 k, .int .i64 m] w fun e w' => e = .returned (.func (.func gCh) #[] #[.pointer (some ⟨w.heap.size, 0, none⟩), .pointer (some ⟨w.heap.size + 1, 0, none⟩), .pointer (some ⟨w.heap.size + 2, 0, none⟩)]) ∧ ((w.alloc (.cells #[p] 24)).alloc (.cells #[.int .i64 k] 3)).alloc (.cells #[.int .i64 m] 3) = w' := by
  rcases hp with rfl | ⟨g, rfl⟩
  all_goals
    go_enter Tryd.func40, Tryd.ntmps40
    go_wp2_with fail
    go_ret
    exact ⟨rfl, rfl⟩
end Go.Proofs.YtlobmffcnobgeaaDoor
set_option maxRecDepth 100000
namespace Go.Proofs.YtlobmffcnobgeaaDoor
open Go.RowKit Go.Shelf
attribute [local go_sem] Oper.semAt_some
theorem info_sl : (Tryd.prog.info? 29).map (fun i => (i.zero, i.size, i.bytes)) = some (some (.slice none 0 0), 1, 24) := by kernel_rfl
theorem OwnB.keep2 {W w1 : World} {b B : Nat} {t e : TypeId} {size n : Nat} {v v' y : Value} {xs : List Value} {l : List UInt8} {tmp : Obj} (h : OwnB W b y l) (hv : Boxed W B t v) (hr : W.ownsRow b e size v n xs) (he : 5 ≠ e) (ht : 5 ≠ t) (hg : (W.alloc tmp).grownBy w1 v.ownBlock) : OwnB (w1.setCell ⟨B, 0, none⟩ v') b y l := by
  have h1 := (h.below ((Below.refl _ W).alloc (Nat.le_refl _) tmp)).kept hg (apart_rows h hr he)
  exact h1.kept (grown_set w1 ⟨B, 0, none⟩ v') (.inr (apart_box h hv ht))
def pcells (pre : List Piece) : List Value := pre.map (·.1)
theorem pcells_snoc (pre : List Piece) (x : Piece) : pcells (pre ++ [x]) = pcells pre ++ [x.1] := by unfold pcells; simp
/-- What chunks keeps in memory: its boxes from block b on, the pieces so far. -/
structure Cap (b : Nat) (most : Nat) (ptr : Value) (k m : Int) (pre : List Piece) (W : World) : Prop where
  bm : Boxed W b 3 (.int .i64 (most : Int))
  out : ∃ v, Boxed W (b + 1) 69 v ∧ W.ownsRow b 29 1 v pre.length (pcells pre)
  bds : ∀ x ∈ pre, OwnB W b x.1 x.2
  bx : Boxed W (b + 2) 24 ptr
  bk : Boxed W (b + 3) 3 (.int .i64 k)
  bz : Boxed W (b + 4) 3 (.int .i64 m)
theorem Cap.kc {b most : Nat} {ptr : Value} {k m : Int} {pre : List Piece} {A B : World} (h : Cap b most ptr k m pre A) (hk : KC b A B) : Cap b most ptr k m pre B := by
  obtain ⟨v, hv, hr⟩ := h.out
  exact ⟨hk _ _ _ _ (Nat.le_refl _) h.bm, ⟨v, hk _ _ _ _ (by omega) hv, ownsRow_kc hr (Nat.le_refl _) hk⟩, fun x hx => ownsRow_kc (h.bds x hx) (Nat.le_refl _) hk, hk _ _ _ _ (by omega) h.bx, hk _ _ _ _ (by omega) h.bk, hk _ _ _ _ (by omega) h.bz⟩
set_option maxHeartbeats 4000000 in
theorem chunks_core (ptr : Value) (hp : ptr = .pointer none ∨ ∃ g, ptr = .pointer (some ⟨g, 0, none⟩)) (k m : Int) (most : Nat) (hm0 : 1 ≤ most) (hm1 : most ≤ 1000) (w : World) (RS RSd : List Piece → World → Prop) (ms : World → Nat) (μ : List Piece → Nat)
    (hRS : ∀ pre A B, RS pre A → Below w.heap.size A B → RS pre B) (hRSd : ∀ pre A B, RSd pre A → Below w.heap.size A B → RSd pre B)
    (hsz : ∀ pre A, RS pre A → w.heap.size ≤ A.heap.size) (hszd : ∀ pre A, RSd pre A → w.heap.size ≤ A.heap.size)
    (hms : ∀ pre W, RS pre W → ms W = μ pre)
    (hN : ∀ pre W, RS pre W → Calls Tryd.prog 19 #[ptr, .int .i64 k, .int .i64 m] W fun e W' => KeepsAt w.heap.size W W' ∧ ∃ x : Piece, ∃ er : Int, (∃ A c, x.1 = .slice A x.2.length c) ∧ e = .returned (.tuple #[x.1, .int .i64 er]) ∧ ((x.2 = [] ∧ RSd pre W') ∨ (0 < x.2.length ∧ RS (pre ++ [x]) W' ∧ OwnB W' w.heap.size x.1 x.2 ∧ μ (pre ++ [x]) < μ pre)))
    (h0 : RS [] w) :
    Calls Tryd.prog 26 #[ptr, .int .i64 k, .int .i64 m, .int .i64 (most : Int)] w fun e W' => ∃ v xs, e = .returned v ∧ W'.ownsRow w.heap.size 29 1 v xs.length (pcells xs) ∧ (∀ x ∈ xs, OwnB W' w.heap.size x.1 x.2) ∧ ((RSd xs W' ∧ xs.length < most) ∨ (RS xs W' ∧ xs.length = most)) := by
  obtain ⟨i0, hi, hz0, hz1, hz2⟩ := info_parts info_sl
  have hFA := Lib.hid (fun W => chunks_any ptr k m W hp)
  refine (callsIn_wide (n := 8)).1 ?_
  refine callsIn_of_wp_marks Tryd.func26 rfl trivial ?_ rfl
  simp only [Tryd.ntmps26, List.size_toArray, List.length_cons, List.length_nil, Nat.reduceAdd, Nat.reduceSub, Array.replicate_succ, Array.replicate_zero, List.push_toArray, List.append_toArray, List.nil_append, List.cons_append]
  gi_wp2
  refine ⟨trivial, (callsIn_wide.2 (hFA.out _)).mono ?_⟩
  rintro e w' ⟨rfl, rfl⟩
  gi_wp2
  have hW01 : (w.alloc (.cells #[.int .i64 (most : Int)] 3)).heap.size = w.heap.size + 1 := by simp
  have hW02 : ((w.alloc (.cells #[.int .i64 (most : Int)] 3)).alloc (.cells #[.slice none 0 0] 69)).heap.size = w.heap.size + 2 := by simp
  have bM := ((((Boxed.new w 3 (.int .i64 (most : Int))).alloc (.cells #[.slice none 0 0] 69)).alloc (.cells #[ptr] 24)).alloc (.cells #[.int .i64 k] 3)).alloc (.cells #[.int .i64 m] 3)
  have bO := (((Boxed.new (w.alloc (.cells #[.int .i64 (most : Int)] 3)) 69 (.slice none 0 0)).alloc (.cells #[ptr] 24)).alloc (.cells #[.int .i64 k] 3)).alloc (.cells #[.int .i64 m] 3)
  have bX := ((Boxed.new ((w.alloc (.cells #[.int .i64 (most : Int)] 3)).alloc (.cells #[.slice none 0 0] 69)) 24 ptr).alloc (.cells #[.int .i64 k] 3)).alloc (.cells #[.int .i64 m] 3)
  have bK := (Boxed.new (((w.alloc (.cells #[.int .i64 (most : Int)] 3)).alloc (.cells #[.slice none 0 0] 69)).alloc (.cells #[ptr] 24)) 3 (.int .i64 k)).alloc (.cells #[.int .i64 m] 3)
  have bZ := Boxed.new ((((w.alloc (.cells #[.int .i64 (most : Int)] 3)).alloc (.cells #[.slice none 0 0] 69)).alloc (.cells #[ptr] 24)).alloc (.cells #[.int .i64 k] 3)) 3 (.int .i64 m)
  simp only [World.size_alloc] at bO bX bK bZ
  have hB0 : Below w.heap.size w (((((w.alloc (.cells #[.int .i64 (most : Int)] 3)).alloc (.cells #[.slice none 0 0] 69)).alloc (.cells #[ptr] 24)).alloc (.cells #[.int .i64 k] 3)).alloc (.cells #[.int .i64 m] 3)) :=
    (((((Below.refl _ w).alloc (Nat.le_refl _) _).alloc (by simp) _).alloc (by simp; omega) _).alloc (by simp; omega) _).alloc (by simp; omega) _
  clear hW01 hW02
  generalize hW0 : World.alloc _ _ = W0 at bM bO bX bK bZ hB0 ⊢
  have hsz0 : W0.heap.size = w.heap.size + 5 := by rw [← hW0]; simp
  clear hW0
  refine wpIn_rangeFunc_st rfl (by omega) (gf := gCh) (lb := #[.pointer (some ⟨w.heap.size + 1 + 1, 0, none⟩), .pointer (some ⟨w.heap.size + 1 + 1 + 1, 0, none⟩), .pointer (some ⟨w.heap.size + 1 + 1 + 2, 0, none⟩)]) rfl trivial (enters_of Tryd.func47 (by kernel_rfl) rfl) (encs := fun x : Piece => #[x.1])
    (fun pre W => RS pre W ∧ Cap w.heap.size most ptr k m pre W ∧ pre.length < most)
    (fun pre x W => RS (pre ++ [x]) W ∧ Cap w.heap.size most ptr k m pre W ∧ OwnB W w.heap.size x.1 x.2 ∧ pre.length < most ∧ (∃ A n c, x.1 = .slice A n c))
    (fun xs W => RSd xs W ∧ Cap w.heap.size most ptr k m xs W ∧ xs.length < most)
    (fun c pre W => RS pre W ∧ Cap w.heap.size most ptr k m pre W ∧ c = .exit 0 ∧ pre.length = most)
    ?seq (fun _ => rfl)
    (fun pre A B row hs hg hr => ⟨hRS _ _ _ hs.1 (below_own (by omega) (hsz _ _ hs.1) hg hr), hs.2.1.kc (kc_own hg hr), hs.2.2⟩)
    (fun pre x _ A B row hs hg hr => ⟨hRS _ _ _ hs.1 (below_own (by omega) (hsz _ _ hs.1) hg hr), hs.2.1.kc (kc_own hg hr), ownsRow_kc hs.2.2.1 (Nat.le_refl _) (kc_own hg hr), hs.2.2.2⟩)
    (fun pre A B row hs hg hr => ⟨hRSd _ _ _ hs.1 (below_own (by omega) (hszd _ _ hs.1) hg hr), hs.2.1.kc (kc_own hg hr), hs.2.2⟩)
    (fun c pre A B row hs hg hr => ⟨hRS _ _ _ hs.1 (below_own (by omega) (hsz _ _ hs.1) hg hr), hs.2.1.kc (kc_own hg hr), hs.2.2⟩)
    ⟨hRS _ _ _ h0 hB0, ⟨bM, ⟨_, bO, World.ownsRow_nil _ _ _ _⟩, (fun _ h => by cases h), bX, bK, bZ⟩, by show 0 < most; omega⟩
    (fun x a' W => a' = { tmps := #[ptr, .int .i64 k, .int .i64 m, .int .i64 (most : Int), undef, undef, undef, .pointer (some ⟨w.heap.size, 0, none⟩), .slice none 0 0, .pointer (some ⟨w.heap.size + 1, 0, none⟩), x.1, ptr, .int .i64 k, .int .i64 m, .func (.func gCh) #[] #[.pointer (some ⟨w.heap.size + 1 + 1, 0, none⟩), .pointer (some ⟨w.heap.size + 1 + 1 + 1, 0, none⟩), .pointer (some ⟨w.heap.size + 1 + 1 + 2, 0, none⟩)], x.1, undef, undef, undef, undef, undef, undef, undef, undef, undef], defers := [] })
    (fun x a' _ A B row hs hg hr => hs)
    ?assign ?body ?done ?stop
  case seq =>
    intro l R Jx W hRk hY hI hR hsW
    refine chunks_in _ (by omega) l (w.heap.size + 1 + 1) W0.heap.size ptr k m (fun pre W => RS pre W ∧ Cap w.heap.size most ptr k m pre W ∧ pre.length < most)
      (fun pre x W => RS (pre ++ [x]) W ∧ Cap w.heap.size most ptr k m pre W ∧ OwnB W w.heap.size x.1 x.2 ∧ pre.length < most ∧ (∃ A n c, x.1 = .slice A n c))
      (fun xs W => RSd xs W ∧ Cap w.heap.size most ptr k m xs W ∧ xs.length < most) ms μ R Jx ?_ ?_ ?_ hRk hY W hI hR
    · exact fun pre W h => ⟨h.2.1.bx.cell, h.2.1.bk.cell, h.2.1.bz.cell⟩
    · exact fun pre W h => hms pre W h.1
    · rintro pre W ⟨h1, h2, h3⟩
      refine (hN pre W h1).mono ?_
      rintro e W' ⟨hk, x, er, ⟨A, c, hx⟩, he, ⟨hl, hd⟩ | ⟨hl, hd, ho, hlt⟩⟩
      · exact ⟨⟨hk.1, fun j hj hl => hk.2 j (by omega) hl⟩, x, er, ⟨A, c, hx⟩, he, .inl ⟨hl, hd, h2.kc hk.kc, h3⟩⟩
      · exact ⟨⟨hk.1, fun j hj hl => hk.2 j (by omega) hl⟩, x, er, ⟨A, c, hx⟩, he, .inr ⟨hl, ⟨hd, h2.kc hk.kc, ho, h3, A, _, c, hx⟩, hlt⟩⟩
  case assign =>
    rintro l pre ⟨v, bd⟩ W K ⟨h1, h2, h3, h4, A, n, c, h5⟩ hK
    simp only at h5
    subst h5
    gi_wp2
    exact hK _ _ (KeepsFrom.refl _ _) ⟨h1, h2, h3, h4, _, _, _, rfl⟩ rfl
  case body =>
    rintro l pre ⟨v, bd⟩ a' W ⟨h1, h2, h3, h4, A, n, c, h5⟩ rfl
    simp only at h5
    subst h5
    have hs := hsz _ _ h1
    obtain ⟨v, hv, hr⟩ := h2.out
    have hc := hv.cell
    have hcm := h2.bm.cell
    gi_wp2_with (gi_at_builtin; refine wpListIn_append_own _ rfl _ _ 69 rfl w.heap.size 29 i0 (.slice none 0 0) 1 24 Tryd.underlying69 hi hz0 hz1 hz2 rfl (by decide) _ _ _ rfl (hr.alloc _) ⟨W.heap.size, 0, none⟩ 1 1 [.slice A n c] rfl rfl (World.news_of_block (heap_alloc_new W _)) (by simp [Value.oneCell']) (by unfold maxLen; omega) (by omega) (by simp; omega) ?_; intro v' w1 hown' hgrow _; obtain ⟨g', cap', rfl⟩ := ownsRow_succ hown'; obtain ⟨hv1, hv2, hr2, hk2, hb2⟩ := hv.appended (by decide) hr hs (by omega) hown' hgrow; have hc1' := hv1.cell; have hf1' := hv1.frozen; have hcv2 := hv2.cell; have hM2 := ((h2.bm.alloc _).kept hgrow (h2.bm.not_row (by decide) hr)).other (show w.heap.size ≠ w.heap.size + 1 by omega) (.slice (some ⟨g', 0, none⟩) (pre.length + 1) cap'); have hX2 := ((h2.bx.alloc _).kept hgrow (h2.bx.not_row (by decide) hr)).other (show w.heap.size + 2 ≠ w.heap.size + 1 by omega) (.slice (some ⟨g', 0, none⟩) (pre.length + 1) cap'); have hk3 := ((h2.bk.alloc _).kept hgrow (h2.bk.not_row (by decide) hr)).other (show w.heap.size + 3 ≠ w.heap.size + 1 by omega) (.slice (some ⟨g', 0, none⟩) (pre.length + 1) cap'); have hz3 := ((h2.bz.alloc _).kept hgrow (h2.bz.not_row (by decide) hr)).other (show w.heap.size + 4 ≠ w.heap.size + 1 by omega) (.slice (some ⟨g', 0, none⟩) (pre.length + 1) cap'); have hcm2 := hM2.cell; have hK2 := fun (y : Value) (l' : List UInt8) (h : OwnB W w.heap.size y l') => OwnB.keep2 (v' := .slice (some ⟨g', 0, none⟩) (pre.length + 1) cap') h hv hr (by decide) (by decide) hgrow; have hCal : Cap w.heap.size most ptr k m (pre ++ [(.slice A n c, bd)]) (w1.setCell ⟨w.heap.size + 1, 0, none⟩ (.slice (some ⟨g', 0, none⟩) (pre.length + 1) cap')) := ⟨hM2, ⟨_, hv2, by rw [pcells_snoc, List.length_append]; exact hr2⟩, (fun y hy => by rcases List.mem_append.1 hy with h | h; exact hK2 _ _ (h2.bds y h); rw [List.mem_singleton] at h; subst h; exact hK2 _ _ h3), hX2, hk3, hz3⟩)
    · have he : pre.length + 1 = most := by
        have h : ((pre.length : Int) + 1 == (most : Int)) = true := by assumption
        have := beq_iff_eq.1 h
        omega
      exact ⟨hk2.from _, hRS _ _ _ h1 hb2, hCal, rfl, by simpa using he⟩
    · have he : pre.length + 1 ≠ most := by
        intro e
        have h : ((pre.length : Int) + 1 == (most : Int)) = false := by assumption
        have := beq_eq_false_iff_ne.1 h
        omega
      exact ⟨hk2.from _, hRS _ _ _ h1 hb2, hCal, by simp; omega⟩
  case done =>
    rintro D xs W hD ⟨h1, h2, h3⟩ hK
    obtain ⟨v, hv, hr⟩ := h2.out
    have hc := hv.cell
    have hs := hszd _ _ h1
    gi_wp2
    refine ⟨by simp, .inl ⟨_, _, rfl, run_takeDeferred hK, ?_⟩⟩
    have hko : KC w.heap.size W (W.putObj D (.deferred none)) := kc_own (B := 0) (grownBy_putObj' W D _) (fun r e => by cases e; exact ⟨Nat.zero_le _, _, hK, rfl⟩)
    have hbo : Below w.heap.size W (W.putObj D (.deferred none)) := below_own (B := W0.heap.size) (by omega) hs (grownBy_putObj' W D _) (fun r e => by cases e; exact ⟨hD, _, hK, rfl⟩)
    exact ⟨_, results_tmp rfl _ _ _, v, xs, rfl, ownsRow_kc hr (Nat.le_refl _) hko, fun x hx => ownsRow_kc (h2.bds x hx) (Nat.le_refl _) hko, .inl ⟨hRSd _ _ _ h1 hbo, h3⟩⟩
  case stop =>
    rintro D c pre W hD ⟨h1, h2, rfl, h3⟩ hK
    obtain ⟨v, hv, hr⟩ := h2.out
    have hc := hv.cell
    have hs := hsz _ _ h1
    gi_wp2
    refine ⟨by simp, .inl ⟨_, _, rfl, run_takeDeferred hK, ?_⟩⟩
    have hko : KC w.heap.size W (W.putObj D (.deferred none)) := kc_own (B := 0) (grownBy_putObj' W D _) (fun r e => by cases e; exact ⟨Nat.zero_le _, _, hK, rfl⟩)
    have hbo : Below w.heap.size W (W.putObj D (.deferred none)) := below_own (B := W0.heap.size) (by omega) hs (grownBy_putObj' W D _) (fun r e => by cases e; exact ⟨hD, _, hK, rfl⟩)
    exact ⟨_, results_tmp rfl _ _ _, v, pre, rfl, ownsRow_kc hr (Nat.le_refl _) hko, fun x hx => ownsRow_kc (h2.bds x hx) (Nat.le_refl _) hko, .inr ⟨hRS _ _ _ h1 hbo, h3⟩⟩
end Go.Proofs.YtlobmffcnobgeaaDoor
set_option maxRecDepth 100000
namespace Go.Proofs.YtlobmffcnobgeaaDoor
open Go.RowKit Go.Shelf
/-- Behind so many Reads. -/
def rdX_n (X : Nat → WayL) (k m : Int) : Nat → Nat → WayL
  | 0 => X
  | n + 1 => atK (rdX_n X k m n) k (fun x => rdX x m)
def rrY_n (Y : Nat → WayR) (k m : Int) : Nat → Nat → WayR
  | 0 => Y
  | n + 1 => atK (rrY_n Y k m n) k (fun y => rrR y m)
/-- What the Read behind n ones tells. -/
def pcX (X : Nat → WayL) (k m : Int) (n : Nat) : List UInt8 := valK (rdX_n X k m n) k (fun x => x.buf.take (rdN x m)) []
theorem rel_n {X : Nat → WayL} {Y : Nat → WayR} (h : RelA X Y) (k m : Int) : ∀ n, RelA (rdX_n X k m n) (rrY_n Y k m n)
  | 0 => h
  | n + 1 => (rel_n h k m n).atK k (rel_read m)
theorem pcX_rel {X : Nat → WayL} {Y : Nat → WayR} (h : RelA X Y) (k m : Int) (n : Nat) : valK (rrY_n Y k m n) k (fun y => (y.all.drop y.rd).take (rrN y m)) [] = pcX X k m n :=
  ((rel_n h k m n).valK k [] (fun _ _ hxy => rel_out hxy m)).symm
theorem rrY_all (Y : Nat → WayR) (k m : Int) : ∀ n i, (rrY_n Y k m n i).all = (Y i).all
  | 0, _ => rfl
  | n + 1, i => by
    show (atK (rrY_n Y k m n) k (fun y => rrR y m) i).all = _
    rw [← rrY_all Y k m n i]
    unfold atK
    split
    · unfold upd; split
      · next h => rw [h]; rfl
      · rfl
    · split
      · unfold upd; split
        · next h => rw [h]; rfl
        · rfl
      · rfl
def bufN (X : Nat → WayL) (k : Int) : Nat := valK X k (fun x => x.buf.length) 0
theorem bufN_less (X : Nat → WayL) (k m : Int) (n : Nat) (h : 0 < (pcX X k m n).length) : bufN (rdX_n X k m (n + 1)) k < bufN (rdX_n X k m n) k := by
  unfold pcX at h
  unfold bufN
  show valK (atK (rdX_n X k m n) k (fun x => rdX x m)) k _ 0 < _
  rcases three_k k with rfl | rfl | hk
  · rw [valK0] at h
    rw [atK0, valK0, valK0, upd_same]
    show ((rdX_n X 0 m n 0).buf.drop _).length < _
    rw [List.length_drop]; rw [List.length_take] at h; omega
  · rw [valK1] at h
    rw [atK1, valK1, valK1, upd_same]
    show ((rdX_n X 1 m n 1).buf.drop _).length < _
    rw [List.length_drop]; rw [List.length_take] at h; omega
  · rw [valKn _ _ _ hk] at h; simp at h
theorem pcX_err (X : Nat → WayL) (k m : Int) (n : Nat) (h : 0 < (pcX X k m n).length) : errK k = 0 := by
  unfold pcX at h
  rcases three_k k with rfl | rfl | hk
  · rfl
  · rfl
  · rw [valKn _ _ _ hk] at h; simp at h
/-- The lengths of what waits, as memory has them. -/
def lenAt (w : World) (b o : Nat) : Nat := match w.cell? ⟨b, o, none⟩ with
  | some (.slice _ n _) => n
  | _ => 0
def msK (b : Nat) (k : Int) (w : World) : Nat := if k = 0 then lenAt w b 1 else if k = 1 then lenAt w b 5 else 0
section
variable {w w' : World} {base b c room : Nat} {V : Nat → Value} {H : Nat → Nat} {X : Nat → WayL} {A : Nat → Value} {Y : Nat → WayR}
theorem PP.msK (h : PP w base b room V H X) (k : Int) : msK b k w = bufN X k := by
  have h0 : lenAt w b 1 = (X 0).buf.length := by
    obtain ⟨A, C, hV, _, _, _, _⟩ := (h.own 0 (by omega)).sl
    have hc : w.cell? ⟨b, 1, none⟩ = some (V 0) := h.blk.at (o := 1) rfl
    unfold lenAt; rw [hc, hV]
  have h1 : lenAt w b 5 = (X 1).buf.length := by
    obtain ⟨A, C, hV, _, _, _, _⟩ := (h.own 1 (by omega)).sl
    have hc : w.cell? ⟨b, 5, none⟩ = some (V 1) := h.blk.at (o := 5) rfl
    unfold lenAt; rw [hc, hV]
  unfold Go.Proofs.YtlobmffcnobgeaaDoor.msK bufN valK
  rw [h0, h1]
theorem Trs.ofLow {B : Nat} {A B' : World} (h : Below B A B') : Trs ((List.range A.heap.size).filter (fun k => decide (B ≤ k))) A B' :=
  ⟨h.os, h.tape, h.output, h.size, fun k hk hn => h.block k (by
    rcases Nat.lt_or_ge k B with h1 | h1
    · exact h1
    · exact absurd (List.mem_filter.2 ⟨List.mem_range.2 hk, by simpa using h1⟩) hn)⟩
theorem PP.low {B : Nat} (h : PP w base b room V H X) (hS : ∀ k ∈ ppS b V H, k < B) (hb : Below B w w') : PP w' base b room V H X := by
  refine h.trs (Trs.ofLow hb) (fun k hk hm => ?_) (fun hm => ?_)
  · have := hS k hk
    have := (List.mem_filter.1 hm).2
    simp at this; omega
  · have h1 := hS b (by simp [ppS])
    have h2 := h.geb
    have h3 := h.glob
    have := (List.mem_filter.1 hm).2
    simp at this; omega
/-- Pieces: the first ones of the Pipe's, none of them empty. -/
def pcs (X : Nat → WayL) (k m : Int) (pre : List Piece) : Prop := pre.map (·.2) = (List.range pre.length).map (pcX X k m) ∧ ∀ j, j < pre.length → 0 < (pcX X k m j).length
theorem chunks_pp (h : PP w base b room V H X) (k m : Int) (most : Nat) (hm0 : 1 ≤ most) (hm1 : most ≤ 1000) :
    Calls Tryd.prog 26 #[tP b, .int .i64 k, .int .i64 m, .int .i64 (most : Int)] w fun e W' => ∃ v xs V', e = .returned v ∧ W'.ownsRow w.heap.size 29 1 v xs.length (pcells xs) ∧ (∀ x ∈ xs, OwnB W' w.heap.size x.1 x.2) ∧ pcs X k m xs ∧ ppS b V' H = ppS b V H ∧ Trs (ppS b V H) w W' ∧ ((xs.length < most ∧ pcX X k m xs.length = [] ∧ PP W' base b room V' H (rdX_n X k m (xs.length + 1))) ∨ (xs.length = most ∧ PP W' base b room V' H (rdX_n X k m xs.length))) := by
  have hin := h.inS
  have hsz : ∀ A, Trs (ppS b V H) w A → w.heap.size ≤ A.heap.size := fun A ht => ht.size
  have hlow : ∀ A B, Trs (ppS b V H) w A → Below w.heap.size A B → Trs (ppS b V H) w B := fun A B ht hb =>
    ⟨hb.os.trans ht.os, hb.tape.trans ht.tape, hb.output.trans ht.output, Nat.le_trans ht.size hb.size, fun j hj hn => (hb.block j hj).trans (ht.block j hj hn)⟩
  refine (chunks_core (tP b) (.inr ⟨b, rfl⟩) k m most hm0 hm1 w
    (fun pre W => pcs X k m pre ∧ Trs (ppS b V H) w W ∧ ∃ V', ppS b V' H = ppS b V H ∧ PP W base b room V' H (rdX_n X k m pre.length))
    (fun pre W => pcs X k m pre ∧ Trs (ppS b V H) w W ∧ pcX X k m pre.length = [] ∧ ∃ V', ppS b V' H = ppS b V H ∧ PP W base b room V' H (rdX_n X k m (pre.length + 1)))
    (fun W => msK b k W) (fun pre => bufN (rdX_n X k m pre.length) k)
    (fun pre A B ⟨h1, h2, V', h3, h4⟩ hb => ⟨h1, hlow _ _ h2 hb, V', h3, h4.low (fun j hj => (hin j (by rw [← h3]; exact hj)).2) hb⟩)
    (fun pre A B ⟨h1, h2, h0, V', h3, h4⟩ hb => ⟨h1, hlow _ _ h2 hb, h0, V', h3, h4.low (fun j hj => (hin j (by rw [← h3]; exact hj)).2) hb⟩)
    (fun pre A h => hsz A h.2.1) (fun pre A h => hsz A h.2.1)
    (fun pre W ⟨_, _, V', _, h4⟩ => h4.msK k) ?_ ⟨⟨rfl, fun j hj => by simp at hj⟩, Trs.refl _ _, V, rfl, h⟩).mono ?_
  · rintro pre W ⟨hp, ht, V', hs, hpp⟩
    refine (pread_k hpp k m).mono ?_
    rintro e W' ⟨v, V2, rfl, hO, hP2, hT2, hs2⟩
    refine ⟨⟨hT2.size, fun j hj hl => hT2.block j hl (fun hm => by rw [hs] at hm; have := (hin j hm).2; omega)⟩, (v, pcX X k m pre.length), errK k, ?_, rfl, ?_⟩
    · obtain ⟨A, C, hv, _, _, _, _⟩ := hO.sl
      exact ⟨A, C, hv⟩
    · have hT : Trs (ppS b V H) w W' := ht.trans (by rw [← hs]; exact hT2)
      by_cases h0 : (pcX X k m pre.length).length = 0
      · left
        have h0' := List.eq_nil_of_length_eq_zero h0
        exact ⟨h0', hp, hT, h0', V2, hs2.trans hs, hP2⟩
      · right
        have hpos : 0 < (pcX X k m pre.length).length := by omega
        have hl : (pre ++ [(v, pcX X k m pre.length)]).length = pre.length + 1 := by simp
        refine ⟨hpos, ⟨⟨?_, fun j hj => ?_⟩, hT, V2, hs2.trans hs, by rw [hl]; exact hP2⟩, hO.lower ht.size, ?_⟩
        · rw [hl, List.range_succ, List.map_append, List.map_append, hp.1]; rfl
        · rw [hl] at hj
          by_cases hj2 : j < pre.length
          · exact hp.2 j hj2
          · obtain rfl : j = pre.length := by omega
            exact hpos
        · rw [hl]; exact bufN_less X k m pre.length hpos
  · rintro e W' ⟨v, xs, rfl, h1, h2, ⟨⟨h3, h4, h5, V', h6, h7⟩, h8⟩ | ⟨⟨h3, h4, V', h6, h7⟩, h8⟩⟩
    · exact ⟨v, xs, V', rfl, h1, h2, h3, h6, h4, .inl ⟨h8, h5, h7⟩⟩
    · exact ⟨v, xs, V', rfl, h1, h2, h3, h6, h4, .inr ⟨h8, h7⟩⟩
end
end Go.Proofs.YtlobmffcnobgeaaDoor
set_option maxRecDepth 100000
namespace Go.Proofs.YtlobmffcnobgeaaDoor
open Go.RowKit Go.Shelf
attribute [local go_sem] Oper.semAt_some
theorem ownsRow_trs {S : List Nat} {w w' : World} {base n size : Nat} {e : TypeId} {v : Value} {xs : List Value} (h : w.ownsRow base e size v n xs) (ht : Trs S w w') (hS : ∀ k, base ≤ k → k ∉ S) : w'.ownsRow base e size v n xs := by
  obtain ⟨h1, h2 | ⟨g, cap, cur, rfl, hb, hg, h3⟩⟩ := h
  · exact ⟨h1, .inl h2⟩
  · exact ⟨h1, .inr ⟨g, cap, cur, rfl, hb, (ht.block g (Array.getElem?_eq_some_iff.1 hg).1 (hS g hb)).trans hg, h3⟩⟩
theorem row_form {w : World} {base : Nat} {v : Value} {xs : List Piece} (h : w.ownsRow base 29 1 v xs.length (pcells xs)) :
    ∃ A C, v = .slice A xs.length C ∧ xs.length ≤ C ∧ C ≤ 9223372036854775807 := by
  obtain ⟨_, ⟨rfl, h2⟩ | ⟨g, cap, cur, rfl, _, _, hc, hm, _⟩⟩ := h
  · exact ⟨none, 0, by rw [h2], by omega, by omega⟩
  · exact ⟨_, cap, rfl, hc, by unfold maxLen at hm; omega⟩
theorem row_cell {w : World} {base : Nat} {A : Option Addr} {n C : Nat} {xs : List Piece} (h : w.ownsRow base 29 1 (.slice A n C) xs.length (pcells xs)) (j : Nat) (hj : j < xs.length) : ∃ g, A = some ⟨g, 0, none⟩ ∧ w.cell? ⟨g, j, none⟩ = some xs[j].1 := by
  obtain ⟨_, ⟨_, h2⟩ | ⟨g, cap, cur, e, _, hg, hc, hm, hs, ht⟩⟩ := h
  · omega
  · injection e with e1
    refine ⟨g, e1, ?_⟩
    have := congrArg (fun x : List Value => x[j]?) ht
    simp only [pcells, Nat.mul_one, List.getElem?_map, List.getElem?_eq_getElem hj, List.getElem?_take, Option.map_some] at this
    rw [if_pos (by omega)] at this
    simp [World.cell?, hg]
    simpa using this
section
variable {w w' : World} {base b c room : Nat} {V : Nat → Value} {H : Nat → Nat} {X : Nat → WayL} {A : Nat → Value} {Y : Nat → WayR}
set_option maxHeartbeats 4000000 in
theorem do_chunks9 (h : PB w base b c room V H X A Y) (hrel : RelA X Y) (hbig : ∀ i, i < 2 → (Y i).all.length ≤ 20000) (dd k m st : Int) (Bv : Nat) (v : Value) (p : List UInt8) (hv : Sl w Bv v p) (hBv : Bv ≤ base) (hdd : 0 ≤ dd ∧ dd ≤ 255) (hr : dd % 11 = 9) (hst : 0 ≤ st ∧ st ≤ 255) :
    Calls Tryd.prog 8 #[tP b, tP c, .agg #[.int .u8 dd, .int .i64 k, v, .int .i64 m, .int .u8 st]] w fun e w' => e = .returned (.bool true) ∧ DoR w w' base b c room H Y := by
  obtain ⟨hd0, hd1⟩ := hdd
  have HPB := Lib.hid h
  have HREL := Lib.hid hrel
  have HBIG := Lib.hid hbig
  obtain ⟨PA, PC, rfl, _, _, _, _⟩ := id hv
  have hbs := h.p.size
  obtain ⟨W0, hW0⟩ : ∃ W, W = w.alloc (.cells #[.int .u8 dd, .int .i64 k, .slice PA p.length PC, .int .i64 m, .int .u8 st] 36) := ⟨_, rfl⟩
  have hB0 : Below w.heap.size w W0 := by rw [hW0]; exact (Below.refl _ _).alloc (Nat.le_refl _) _
  have hK0 : Blk W0 w.heap.size [.int .u8 dd, .int .i64 k, .slice PA p.length PC, .int .i64 m, .int .u8 st] := by rw [hW0]; exact Blk.newA w #[.int .u8 dd, .int .i64 k, .slice PA p.length PC, .int .i64 m, .int .u8 st] _
  have hz0 : W0.heap.size = w.heap.size + 1 := by rw [hW0]; simp
  obtain ⟨L, hL⟩ : ∃ L, L = p.take 300 := ⟨_, rfl⟩
  have hL3 : L.length ≤ 300 := by rw [hL, List.length_take]; omega
  have HCut := Lib.hid (cut_any Bv (.slice PA p.length PC) p 300 W0 (hv.below hB0 (by omega)) (by omega) (by omega) (by omega))
  rw [show p.take (300 : Int).toNat = L from hL.symm] at HCut
  have HB0 := Lib.hid hB0
  have HK0 := Lib.hid hK0
  have HP0 := Lib.hid (h.below hB0)
  clear hL hB0 hK0 h hrel hbig hv
  go_enter Tryd.func8, Tryd.ntmps8
  go_wp2_with fail
  rw [← hW0]
  clear hW0
  refine HCut.out.mono ?_
  rintro e w1 ⟨v1, rfl, hO1, hB1⟩
  have hz1 := hB1.size
  have HB1 := Lib.hid (HB0.out.trans (hB1.mono (by omega)))
  have HK1 := Lib.hid (HK0.out.below hB1 (by omega))
  have HP1 := Lib.hid (HP0.out.below hB1)
  have HO1 := Lib.hid hO1
  obtain ⟨A1, C1, rfl, _, _, _, _⟩ := hO1.sl
  clear hO1 hB1 HCut HP0 HK0
  go_wp2_with fail
  refine (copy_any w1.heap.size _ L w1 HO1.out.sl (Nat.le_refl _) (by omega)).mono ?_
  rintro e w2 ⟨v2, rfl, hO2, hB2⟩
  have hz2 := hB2.size
  have HB2 := Lib.hid (HB1.out.trans (hB2.mono (by omega)))
  have HK2 := Lib.hid (HK1.out.below hB2 (by omega))
  have HP2 := Lib.hid (HP1.out.below hB2)
  have HO2 := Lib.hid hO2
  have HO12 := Lib.hid (HO1.out.below hB2)
  obtain ⟨A2, C2, rfl, _, _, _, _⟩ := hO2.sl
  have d0 := HK2.out.at (o := 0) rfl
  have d1 := HK2.out.at (o := 1) rfl
  have d3 := HK2.out.at (o := 3) rfl
  have d4 := HK2.out.at (o := 4) rfl
  clear hO2 hB2 HP1 HK1 HO1
  obtain ⟨q, hq⟩ : ∃ q, st % 5 = q := ⟨_, rfl⟩
  have hq0 : 0 ≤ q ∧ q ≤ 4 := by omega
  obtain ⟨M, hM⟩ : ∃ M : Nat, 1 + q = (M : Int) := ⟨(1 + q).toNat, by omega⟩
  have hM1 : 1 ≤ M ∧ M ≤ 5 := by omega
  obtain ⟨hq0, hq1⟩ := hq0
  obtain ⟨hM0, hM1⟩ := hM1
  go_wp2_with fail
  refine (chunks_pp HP2.out.p k m M hM0 (by omega)).mono ?_
  rintro e w3 ⟨v3, xs, V3, rfl, hrow, hbds, hpcs, hs3, hT3, hend⟩
  obtain ⟨RA, RC, rfl, hrc1, hrc2⟩ := row_form hrow
  have hz3 := hT3.size
  have hcS : c < w.heap.size := HPB.out.x.blk.lt
  have HB3 := Lib.hid ((HB2.out.mono hbs).trans (HP2.out.toBelowP hT3))
  have HK3 := Lib.hid (hT3.blk HK2.out (fun hm => by have := (HPB.out.p.inS _ hm).2; omega))
  have hPa : ∀ X', PP w3 base b room V3 H X' → PB w3 base b c room V3 H X' A Y := fun X' hp => HP2.out.onP hp hT3 (fun j hj => .inl (by rw [← hs3]; exact hj))
  have HPa := Lib.hid hPa
  have HX3 := Lib.hid (show PX w3 base c room A Y from HP2.out.x.trs hT3 (fun j hj hm => HP2.out.ap j hm hj))
  have HROW := Lib.hid hrow
  have HBDS := Lib.hid hbds
  have HPCS := Lib.hid hpcs
  have HEND := Lib.hid hend
  clear hrow hbds hpcs hs3 hT3 hend hPa HK2 d0 d1 d3 d4 hq hM
  go_wp2_with fail
  go_loopw [16, 17, 18, 98] (fun _ _ _ i wr => ∃ j : Nat, j ≤ M ∧ j ≤ xs.length ∧ i = .int .i64 (j : Int) ∧ PX wr base c room A (rrY_n Y k m j) ∧ Trs [c] w3 wr) (fun _ _ _ i _ => M - (intOf i).toNat)
  case atStart => exact ⟨0, by omega, by omega, rfl, HX3.out, Trs.refl _ _⟩
  case round =>
    obtain ⟨j, hjM, hjx, rfl, hpx, htr⟩ := hrel
    have HPX := Lib.hid hpx
    have HTR := Lib.hid htr
    have hszr := htr.size
    have hk := htr.blk HK3.out (fun hm => by rw [List.mem_singleton] at hm; omega)
    have d1 := hk.at (o := 1) rfl
    have d3 := hk.at (o := 3) rfl
    clear hpx htr hk
    by_cases hlt : j < M
    · have hlt' : (j : Int) < (M : Int) := by omega
      have hread := rread_k HPX.out k m
      rw [pcX_rel HREL.out k m j] at hread
      have HRD := Lib.hid hread
      clear hread
      go_wp2_with fail
      refine HRD.out.mono ?_
      rintro e w5 ⟨v5, rfl, hO5, hP5, hT5⟩
      have HT5 := Lib.hid (HTR.out.trans hT5)
      have HP5 := Lib.hid (show PX w5 base c room A (rrY_n Y k m (j + 1)) from hP5)
      have HO5 := Lib.hid hO5
      obtain ⟨A5, C5, rfl, _, _, _, _⟩ := hO5.sl
      by_cases hjl : j < xs.length
      · have hpos := HPCS.out.2 j hjl
        have hE := pcX_err X k m j hpos
        rw [hE]
        have hcond : ¬ (xs.length : Int) ≤ (j : Int) := by omega
        obtain ⟨l5, hl5⟩ : ∃ l, l = pcX X k m j := ⟨_, rfl⟩
        rw [← hl5] at HO5 hpos ⊢
        have hN5 : ((l5.length : Int) == 0) = false := beq_eq_false_iff_ne.2 (by omega)
        have hrw5 := ownsRow_trs HROW.out HT5.out (fun k hk hm => by rw [List.mem_singleton] at hm; omega)
        obtain ⟨g, rfl, hcell⟩ := row_cell hrw5 j hjl
        have hb5 := (HBDS.out xs[j] (List.getElem_mem hjl)).trs HT5.out (fun i hi hm => by rw [List.mem_singleton] at hm; have := ((HBDS.out xs[j] (List.getElem_mem hjl)).lt i hi).1; omega)
        have hx2 : xs[j].2 = l5 := by
          rw [hl5]
          have := congrArg (fun l : List (List UInt8) => l[j]?) HPCS.out.1
          simp only [List.getElem?_map, List.getElem?_eq_getElem hjl, Option.map_some] at this
          rw [List.getElem?_eq_getElem (by simpa using hjl), List.getElem_range, Option.map_some] at this
          exact Option.some.inj this
        rw [hx2] at hb5
        obtain ⟨u, hu⟩ : ∃ u, u = xs[j].1 := ⟨_, rfl⟩
        rw [← hu] at hcell hb5
        have HSm := Lib.hid (same_true w5.heap.size w5.heap.size u (.slice A5 l5.length C5) l5 w5 hb5.sl HO5.out.sl)
        obtain ⟨uA, uC, rfl, _, _, _, _⟩ := hb5.sl
        clear hO5 hP5 hT5 hb5 hrw5 hl5 hE hx2 hu hpos d1 d3
        go_wp2_with fail
        refine HSm.out.mono ?_
        rintro e w6 ⟨rfl, hw6⟩
        subst hw6
        go_wp2_with fail
        exact ⟨⟨j + 1, by omega, by omega, by go_num, HP5.out, HT5.out⟩, by simp [intOf]; omega⟩
      · obtain rfl : j = xs.length := by omega
        have hpc : pcX X k m xs.length = [] := by
          rcases HEND.out with ⟨_, h2, _⟩ | ⟨h1, _⟩
          · exact h2
          · omega
        have HF := Lib.hid (show DoR w w5 base b c room H Y from by
          rcases HEND.out with ⟨_, _, h3⟩ | ⟨h1, _⟩
          · exact ⟨V3, _, A, _, (HPa.out _ h3).onX HP5.out HT5.out (fun i hi => .inl hi), rel_n HREL.out k m _, (fun i _ => by rw [rrY_all]; omega), HB3.out.trans (HX3.out.toBelow HT5.out)⟩
          · omega)
        rw [hpc] at HO5 ⊢
        have hsn : ((xs.length : Int) == (xs.length : Int)) = true := beq_self_eq_true _
        clear hO5 hP5 hT5 hpc d1 d3 hjl
        rcases three_k k with rfl | rfl | hkn
        · rw [errK0]
          go_wp2_with fail
          go_ret
          exact ⟨rfl, HF.out⟩
        · rw [errK1]
          go_wp2_with fail
          go_ret
          exact ⟨rfl, HF.out⟩
        · rw [errKn hkn]
          clear hkn
          go_wp2_with fail
          go_ret
          exact ⟨rfl, HF.out⟩
    · obtain rfl : j = M := by omega
      have hxl : xs.length = j := by
        rcases HEND.out with ⟨h1, _⟩ | ⟨h1, _⟩ <;> omega
      have HF := Lib.hid (show DoR w wr base b c room H Y from by
        rcases HEND.out with ⟨h1, _⟩ | ⟨h1, h2⟩
        · omega
        · rw [hxl] at h2
          exact ⟨V3, _, A, _, (HPa.out _ h2).onX HPX.out HTR.out (fun i hi => .inl hi), rel_n HREL.out k m _, (fun i _ => by rw [rrY_all]; omega), HB3.out.trans (HX3.out.toBelow HTR.out)⟩)
      have hxl' : ((xs.length : Int) == (j : Int)) = true := by rw [hxl]; exact beq_self_eq_true _
      clear hxl hjx
      go_wp2_with fail
      go_ret
      exact ⟨by first | rfl | simp_all, HF.out⟩
set_option maxHeartbeats 4000000 in
theorem do_chunks10 (h : PB w base b c room V H X A Y) (hrel : RelA X Y) (hbig : ∀ i, i < 2 → (Y i).all.length ≤ 20000) (dd k m st : Int) (Bv : Nat) (v : Value) (p : List UInt8) (hv : Sl w Bv v p) (hBv : Bv ≤ base) (hdd : 0 ≤ dd ∧ dd ≤ 255) (hr : dd % 11 = 10) (hst : 0 ≤ st ∧ st ≤ 255) :
    Calls Tryd.prog 8 #[tP b, tP c, .agg #[.int .u8 dd, .int .i64 k, v, .int .i64 m, .int .u8 st]] w fun e w' => e = .returned (.bool true) ∧ DoR w w' base b c room H Y := by
  obtain ⟨hd0, hd1⟩ := hdd
  have HPB := Lib.hid h
  have HREL := Lib.hid hrel
  have HBIG := Lib.hid hbig
  obtain ⟨PA, PC, rfl, _, _, _, _⟩ := id hv
  have hbs := h.p.size
  obtain ⟨W0, hW0⟩ : ∃ W, W = w.alloc (.cells #[.int .u8 dd, .int .i64 k, .slice PA p.length PC, .int .i64 m, .int .u8 st] 36) := ⟨_, rfl⟩
  have hB0 : Below w.heap.size w W0 := by rw [hW0]; exact (Below.refl _ _).alloc (Nat.le_refl _) _
  have hK0 : Blk W0 w.heap.size [.int .u8 dd, .int .i64 k, .slice PA p.length PC, .int .i64 m, .int .u8 st] := by rw [hW0]; exact Blk.newA w #[.int .u8 dd, .int .i64 k, .slice PA p.length PC, .int .i64 m, .int .u8 st] _
  have hz0 : W0.heap.size = w.heap.size + 1 := by rw [hW0]; simp
  obtain ⟨L, hL⟩ : ∃ L, L = p.take 300 := ⟨_, rfl⟩
  have hL3 : L.length ≤ 300 := by rw [hL, List.length_take]; omega
  have HCut := Lib.hid (cut_any Bv (.slice PA p.length PC) p 300 W0 (hv.below hB0 (by omega)) (by omega) (by omega) (by omega))
  rw [show p.take (300 : Int).toNat = L from hL.symm] at HCut
  have HB0 := Lib.hid hB0
  have HK0 := Lib.hid hK0
  have HP0 := Lib.hid (h.below hB0)
  clear hL hB0 hK0 h hrel hbig hv
  go_enter Tryd.func8, Tryd.ntmps8
  go_wp2_with fail
  rw [← hW0]
  clear hW0
  refine HCut.out.mono ?_
  rintro e w1 ⟨v1, rfl, hO1, hB1⟩
  have hz1 := hB1.size
  have HB1 := Lib.hid (HB0.out.trans (hB1.mono (by omega)))
  have HK1 := Lib.hid (HK0.out.below hB1 (by omega))
  have HP1 := Lib.hid (HP0.out.below hB1)
  have HO1 := Lib.hid hO1
  obtain ⟨A1, C1, rfl, _, _, _, _⟩ := hO1.sl
  clear hO1 hB1 HCut HP0 HK0
  go_wp2_with fail
  refine (copy_any w1.heap.size _ L w1 HO1.out.sl (Nat.le_refl _) (by omega)).mono ?_
  rintro e w2 ⟨v2, rfl, hO2, hB2⟩
  have hz2 := hB2.size
  have HB2 := Lib.hid (HB1.out.trans (hB2.mono (by omega)))
  have HK2 := Lib.hid (HK1.out.below hB2 (by omega))
  have HP2 := Lib.hid (HP1.out.below hB2)
  have HO2 := Lib.hid hO2
  have HO12 := Lib.hid (HO1.out.below hB2)
  obtain ⟨A2, C2, rfl, _, _, _, _⟩ := hO2.sl
  have d0 := HK2.out.at (o := 0) rfl
  have d1 := HK2.out.at (o := 1) rfl
  have d3 := HK2.out.at (o := 3) rfl
  have d4 := HK2.out.at (o := 4) rfl
  clear hO2 hB2 HP1 HK1 HO1
  obtain ⟨q, hq⟩ : ∃ q, st % 5 = q := ⟨_, rfl⟩
  have hq0 : 0 ≤ q ∧ q ≤ 4 := by omega
  obtain ⟨M, hM⟩ : ∃ M : Nat, 1 + q = (M : Int) := ⟨(1 + q).toNat, by omega⟩
  have hM1 : 1 ≤ M ∧ M ≤ 5 := by omega
  obtain ⟨hq0, hq1⟩ := hq0
  obtain ⟨hM0, hM1⟩ := hM1
  go_wp2_with fail
  refine (chunks_pp HP2.out.p k m M hM0 (by omega)).mono ?_
  rintro e w3 ⟨v3, xs, V3, rfl, hrow, hbds, hpcs, hs3, hT3, hend⟩
  obtain ⟨RA, RC, rfl, hrc1, hrc2⟩ := row_form hrow
  have hz3 := hT3.size
  have hcS : c < w.heap.size := HPB.out.x.blk.lt
  have HB3 := Lib.hid ((HB2.out.mono hbs).trans (HP2.out.toBelowP hT3))
  have HK3 := Lib.hid (hT3.blk HK2.out (fun hm => by have := (HPB.out.p.inS _ hm).2; omega))
  have hPa : ∀ X', PP w3 base b room V3 H X' → PB w3 base b c room V3 H X' A Y := fun X' hp => HP2.out.onP hp hT3 (fun j hj => .inl (by rw [← hs3]; exact hj))
  have HPa := Lib.hid hPa
  have HX3 := Lib.hid (show PX w3 base c room A Y from HP2.out.x.trs hT3 (fun j hj hm => HP2.out.ap j hm hj))
  have HROW := Lib.hid hrow
  have HBDS := Lib.hid hbds
  have HPCS := Lib.hid hpcs
  have HEND := Lib.hid hend
  clear hrow hbds hpcs hs3 hT3 hend hPa HK2 d0 d1 d3 d4 hq hM
  go_wp2_with fail
  go_loopw [16, 17, 18, 98] (fun _ _ _ i wr => ∃ j : Nat, j ≤ M ∧ j ≤ xs.length ∧ i = .int .i64 (j : Int) ∧ PX wr base c room A (rrY_n Y k m j) ∧ Trs [c] w3 wr) (fun _ _ _ i _ => M - (intOf i).toNat)
  case atStart => exact ⟨0, by omega, by omega, rfl, HX3.out, Trs.refl _ _⟩
  case round =>
    obtain ⟨j, hjM, hjx, rfl, hpx, htr⟩ := hrel
    have HPX := Lib.hid hpx
    have HTR := Lib.hid htr
    have hszr := htr.size
    have hk := htr.blk HK3.out (fun hm => by rw [List.mem_singleton] at hm; omega)
    have d1 := hk.at (o := 1) rfl
    have d3 := hk.at (o := 3) rfl
    clear hpx htr hk
    by_cases hlt : j < M
    · have hlt' : (j : Int) < (M : Int) := by omega
      have hread := rread_k HPX.out k m
      rw [pcX_rel HREL.out k m j] at hread
      have HRD := Lib.hid hread
      clear hread
      go_wp2_with fail
      refine HRD.out.mono ?_
      rintro e w5 ⟨v5, rfl, hO5, hP5, hT5⟩
      have HT5 := Lib.hid (HTR.out.trans hT5)
      have HP5 := Lib.hid (show PX w5 base c room A (rrY_n Y k m (j + 1)) from hP5)
      have HO5 := Lib.hid hO5
      obtain ⟨A5, C5, rfl, _, _, _, _⟩ := hO5.sl
      by_cases hjl : j < xs.length
      · have hpos := HPCS.out.2 j hjl
        have hE := pcX_err X k m j hpos
        rw [hE]
        have hcond : ¬ (xs.length : Int) ≤ (j : Int) := by omega
        obtain ⟨l5, hl5⟩ : ∃ l, l = pcX X k m j := ⟨_, rfl⟩
        rw [← hl5] at HO5 hpos ⊢
        have hN5 : ((l5.length : Int) == 0) = false := beq_eq_false_iff_ne.2 (by omega)
        have hrw5 := ownsRow_trs HROW.out HT5.out (fun k hk hm => by rw [List.mem_singleton] at hm; omega)
        obtain ⟨g, rfl, hcell⟩ := row_cell hrw5 j hjl
        have hb5 := (HBDS.out xs[j] (List.getElem_mem hjl)).trs HT5.out (fun i hi hm => by rw [List.mem_singleton] at hm; have := ((HBDS.out xs[j] (List.getElem_mem hjl)).lt i hi).1; omega)
        have hx2 : xs[j].2 = l5 := by
          rw [hl5]
          have := congrArg (fun l : List (List UInt8) => l[j]?) HPCS.out.1
          simp only [List.getElem?_map, List.getElem?_eq_getElem hjl, Option.map_some] at this
          rw [List.getElem?_eq_getElem (by simpa using hjl), List.getElem_range, Option.map_some] at this
          exact Option.some.inj this
        rw [hx2] at hb5
        obtain ⟨u, hu⟩ : ∃ u, u = xs[j].1 := ⟨_, rfl⟩
        rw [← hu] at hcell hb5
        have HSm := Lib.hid (same_true w5.heap.size w5.heap.size u (.slice A5 l5.length C5) l5 w5 hb5.sl HO5.out.sl)
        obtain ⟨uA, uC, rfl, _, _, _, _⟩ := hb5.sl
        clear hO5 hP5 hT5 hb5 hrw5 hl5 hE hx2 hu hpos d1 d3
        go_wp2_with fail
        refine HSm.out.mono ?_
        rintro e w6 ⟨rfl, hw6⟩
        subst hw6
        go_wp2_with fail
        exact ⟨⟨j + 1, by omega, by omega, by go_num, HP5.out, HT5.out⟩, by simp [intOf]; omega⟩
      · obtain rfl : j = xs.length := by omega
        have hpc : pcX X k m xs.length = [] := by
          rcases HEND.out with ⟨_, h2, _⟩ | ⟨h1, _⟩
          · exact h2
          · omega
        have HF := Lib.hid (show DoR w w5 base b c room H Y from by
          rcases HEND.out with ⟨_, _, h3⟩ | ⟨h1, _⟩
          · exact ⟨V3, _, A, _, (HPa.out _ h3).onX HP5.out HT5.out (fun i hi => .inl hi), rel_n HREL.out k m _, (fun i _ => by rw [rrY_all]; omega), HB3.out.trans (HX3.out.toBelow HT5.out)⟩
          · omega)
        rw [hpc] at HO5 ⊢
        have hsn : ((xs.length : Int) == (xs.length : Int)) = true := beq_self_eq_true _
        clear hO5 hP5 hT5 hpc d1 d3 hjl
        rcases three_k k with rfl | rfl | hkn
        · rw [errK0]
          go_wp2_with fail
          go_ret
          exact ⟨rfl, HF.out⟩
        · rw [errK1]
          go_wp2_with fail
          go_ret
          exact ⟨rfl, HF.out⟩
        · rw [errKn hkn]
          clear hkn
          go_wp2_with fail
          go_ret
          exact ⟨rfl, HF.out⟩
    · obtain rfl : j = M := by omega
      have hxl : xs.length = j := by
        rcases HEND.out with ⟨h1, _⟩ | ⟨h1, _⟩ <;> omega
      have HF := Lib.hid (show DoR w wr base b c room H Y from by
        rcases HEND.out with ⟨h1, _⟩ | ⟨h1, h2⟩
        · omega
        · rw [hxl] at h2
          exact ⟨V3, _, A, _, (HPa.out _ h2).onX HPX.out HTR.out (fun i hi => .inl hi), rel_n HREL.out k m _, (fun i _ => by rw [rrY_all]; omega), HB3.out.trans (HX3.out.toBelow HTR.out)⟩)
      have hxl' : ((xs.length : Int) == (j : Int)) = true := by rw [hxl]; exact beq_self_eq_true _
      clear hxl hjx
      go_wp2_with fail
      go_ret
      exact ⟨by first | rfl | simp_all, HF.out⟩
end
end Go.Proofs.YtlobmffcnobgeaaDoor
namespace Go.Proofs.YtlobmffcnobgeaaDoor
open Go.RowKit
section
variable {w : World} {base b c room : Nat} {V : Nat → Value} {H : Nat → Nat} {X : Nat → WayL} {A : Nat → Value} {Y : Nat → WayR}
theorem do_pb (h : PB w base b c room V H X A Y) (hrel : RelA X Y) (hbig : ∀ i, i < 2 → (Y i).all.length ≤ 20000) (dd k m st : Int) (Bv : Nat) (v : Value) (p : List UInt8) (hv : Sl w Bv v p) (hBv : Bv ≤ base) (hdd : 0 ≤ dd ∧ dd ≤ 255) (hst : 0 ≤ st ∧ st ≤ 255) :
    Calls Tryd.prog 8 #[tP b, tP c, .agg #[.int .u8 dd, .int .i64 k, v, .int .i64 m, .int .u8 st]] w fun e w' => e = .returned (.bool true) ∧ DoR w w' base b c room H Y := by
  rcases (show dd % 11 = 0 ∨ dd % 11 = 1 ∨ dd % 11 = 2 ∨ dd % 11 = 3 ∨ dd % 11 = 4 ∨ dd % 11 = 5 ∨ dd % 11 = 6 ∨ dd % 11 = 7 ∨ dd % 11 = 8 ∨ dd % 11 = 9 ∨ dd % 11 = 10 by omega) with hr | hr | hr | hr | hr | hr | hr | hr | hr | hr | hr
  · exact do_write0 h hrel hbig dd k m st Bv v p hv hBv hdd hr
  · exact do_write1 h hrel hbig dd k m st Bv v p hv hBv hdd hr
  · exact do_write2 h hrel hbig dd k m st Bv v p hv hBv hdd hr
  · exact do_write3 h hrel hbig dd k m st Bv v p hv hBv hdd hr
  · exact do_read4 h hrel hbig dd k m st Bv v p hv hBv hdd hr
  · exact do_read5 h hrel hbig dd k m st Bv v p hv hBv hdd hr
  · exact do_read6 h hrel hbig dd k m st Bv v p hv hBv hdd hr
  · exact do_shut h hrel hbig dd k m st Bv v p hv hBv hdd hr
  · exact do_cut h hrel hbig dd k m st Bv v p hv hBv hdd hr
  · exact do_chunks9 h hrel hbig dd k m st Bv v p hv hBv hdd hr hst
  · exact do_chunks10 h hrel hbig dd k m st Bv v p hv hBv hdd hr hst
end
end Go.Proofs.YtlobmffcnobgeaaDoor
set_option maxRecDepth 100000
namespace Go.Proofs.YtlobmffcnobgeaaDoor
open Go.ChangeShapes Go.WideShapes Go.ChangeAt Go.RowKit
theorem choose_g {α : Type} (n : Nat) (p : Nat → α → Prop) (h : ∀ i, i < n → ∃ x, p i x) : ∃ l : List α, l.length = n ∧ ∀ i (hi : i < l.length), p i l[i] := by
  induction n with
  | zero => exact ⟨[], rfl, fun i hi => by simp at hi⟩
  | succ k ih =>
    obtain ⟨l, hl, hp⟩ := ih (fun i hi => h i (by omega))
    obtain ⟨x, hx⟩ := h k (by omega)
    refine ⟨l ++ [x], by rw [List.length_append, hl]; rfl, fun i hi => ?_⟩
    by_cases hik : i < l.length
    · rw [List.getElem_append_left hik]; exact hp i hik
    · have : i = k := by rw [List.length_append] at hi; simp at hi; omega
      subst this
      rw [List.getElem_append_right (by omega)]
      simpa [hl] using hx
/-- An Op: what to do, which way, bytes and where they lie, how many, where to stop. -/
structure OpP where
  d : Int
  k : Int
  v : Value
  p : List UInt8
  m : Int
  st : Int
def opC (o : OpP) : List Value := [.int .u8 o.d, .int .i64 o.k, o.v, .int .i64 o.m, .int .u8 o.st]
structure OpP.ok (o : OpP) : Prop where
  d : 0 ≤ o.d ∧ o.d ≤ 255
  st : 0 ≤ o.st ∧ o.st ≤ 255
/-- The slice v, nil or not, holds the Ops ls, all of them below block B. -/
def POps (w : World) (B : Nat) (v : Value) (ls : List OpP) : Prop :=
  ∃ A c, v = .slice A ls.length c ∧ ls.length ≤ c ∧ c ≤ 9223372036854775807 ∧ (0 < ls.length → ∃ b o, A = some ⟨b, o, none⟩ ∧ b < B ∧ ∀ j (h : j < ls.length), (∀ k v, (opC ls[j])[k]? = some v → w.cell? ⟨b, o + j * 5 + k, none⟩ = some v) ∧ ls[j].ok ∧ Sl w B ls[j].v ls[j].p)
theorem POps.below {w w' : World} {B B' : Nat} {v : Value} {ls : List OpP} (h : POps w B v ls) (hb : Below B' w w') (hB : B ≤ B') : POps w' B v ls := by
  obtain ⟨A, c, rfl, h1, h2, h3⟩ := h
  refine ⟨A, c, rfl, h1, h2, fun hp => ?_⟩
  obtain ⟨b, o, rfl, hlt, hx⟩ := h3 hp
  refine ⟨b, o, rfl, hlt, fun j hj => ?_⟩
  obtain ⟨x1, x2, x3⟩ := hx j hj
  exact ⟨fun k v hv => (hb.cell (p := ⟨b, o + j * 5 + k, none⟩) (by show b < B'; omega)).trans (x1 k v hv), x2, x3.below hb hB⟩
section
variable {H : Type} {enc : TypeId × Value → H}
theorem cells_op5 : Tryd.prog.cellsOf 36 = 5 := by kernel_rfl
theorem u8_of_trod {W : World} {base fuel : Nat} {v : Value} {x : DataW H × List MemPlace} (hf : DataW.trod enc Tryd.prog W base (fun _ => true) true fuel 5 [v] = some x) : ∃ k : Int, v = .int .u8 k ∧ 0 ≤ k ∧ k ≤ 255 := by
  obtain ⟨n, hv, _, hw⟩ := DataW.trod_int Tryd.underlying5 hf
  simp only [List.cons.injEq, and_true] at hv
  subst hv
  simp [Lit.wf, IntKind.min, IntKind.max, IntKind.bits, IntKind.signed] at hw
  exact ⟨n, rfl, by omega, by omega⟩
theorem i64_of_trod {W : World} {base fuel : Nat} {v : Value} {x : DataW H × List MemPlace} (hf : DataW.trod enc Tryd.prog W base (fun _ => true) true fuel 3 [v] = some x) : ∃ k : Int, v = .int .i64 k := by
  obtain ⟨n, hv, _, hw⟩ := DataW.trod_int Tryd.underlying3 hf
  simp only [List.cons.injEq, and_true] at hv
  exact ⟨n, hv⟩
theorem trod_struct5 {P : Program} {w : World} {base : Nat} {spare : Nat → Bool} {held : Bool} {t : TypeId} {f0 f1 f2 f3 f4 : Field} {fuel : Nat} {cs : List Value} {x : DataW H × List MemPlace} (ht : P.underlying t = some (.struct #[f0, f1, f2, f3, f4])) (h : DataW.trod enc P w base spare held fuel t cs = some x) :
    ∃ y0 y1 y2 y3 y4 n, DataW.trod enc P w base spare held n f0.type ((cs.drop f0.offset).take (P.cellsOf f0.type)) = some y0 ∧
      DataW.trod enc P w base spare held n f1.type ((cs.drop f1.offset).take (P.cellsOf f1.type)) = some y1 ∧ DataW.trod enc P w base spare held n f2.type ((cs.drop f2.offset).take (P.cellsOf f2.type)) = some y2 ∧
      DataW.trod enc P w base spare held n f3.type ((cs.drop f3.offset).take (P.cellsOf f3.type)) = some y3 ∧ DataW.trod enc P w base spare held n f4.type ((cs.drop f4.offset).take (P.cellsOf f4.type)) = some y4 := by
  obtain ⟨xs, n, _, rfl, hl, hlen, hf⟩ := DataW.trod_struct ht h
  match xs, hlen with
  | [y0, y1, y2, y3, y4], _ => exact ⟨y0, y1, y2, y3, y4, n, by simpa using hf 0 f0 rfl, by simpa using hf 1 f1 rfl, by simpa using hf 2 f2 rfl, by simpa using hf 3 f3 rfl, by simpa using hf 4 f4 rfl⟩
theorem open_gops {W : World} {base : Nat} {v : Value} {d : DataW H} {ps : List MemPlace} (hval : Value.okWide Tryd.prog W .any base 22 v) (h : DataW.Trod enc Tryd.prog W 0 (fun _ => true) true 22 v d ps) :
    ∃ ls, POps W W.heap.size v ls := by
  obtain ⟨a1, len, cap, rfl⟩ := okWide_slice Tryd.underlying22 hval
  obtain ⟨fuel, hf⟩ := h
  rcases Go.Deep.open_slice Tryd.underlying22 hf with ⟨hcs, _⟩ | ⟨a, len', cap', m, n, D, Pl, hcs, _, hl, hm, hmm, _, hx⟩
  · simp [Value.cells] at hcs
    obtain ⟨rfl, rfl, rfl⟩ := hcs
    exact ⟨[], none, 0, rfl, by simp, by omega, fun h => by simp at h⟩
  · simp [Value.cells] at hcs
    obtain ⟨rfl, rfl, rfl⟩ := hcs
    simp only [if_true] at hmm
    subst hmm
    rw [cells_op5] at hx
    obtain ⟨ab, ao, spot⟩ := a
    have hs0 : 0 < len → spot = none := by
      intro h0
      obtain ⟨cs, hc, _⟩ := hx 0 (by omega)
      have k0 := (World.cells?_some hc).2.2 0 (by omega)
      have hl0 : cs.length = 5 := (World.cells?_some hc).2.1
      rw [List.getElem?_eq_getElem (by omega)] at k0
      simpa [Addr.add] using World.cell?_spot k0
    have key : ∀ i, i < len → ∃ x : OpP, (∀ k v, (opC x)[k]? = some v → W.cell? ⟨ab, ao + i * 5 + k, none⟩ = some v) ∧ x.ok ∧ Sl W W.heap.size x.v x.p := by
      intro i hi
      obtain ⟨cs, hc, ht⟩ := hx i (by omega)
      obtain ⟨_, hcl, hat⟩ := World.cells?_some hc
      obtain ⟨c0, c1, c2, c3, c4, rfl⟩ : ∃ c0 c1 c2 c3 c4, cs = [c0, c1, c2, c3, c4] := by
        match cs, hcl with
        | [c0, c1, c2, c3, c4], _ => exact ⟨c0, c1, c2, c3, c4, rfl⟩
      obtain ⟨y0, y1, y2, y3, y4, n', h0, h1, h2, h3, h4⟩ := trod_struct5 Tryd.underlying36 ht
      have hspot : spot = none := hs0 (by omega)
      subst hspot
      obtain ⟨n0, rfl, b01, b02⟩ := u8_of_trod (v := c0) h0
      obtain ⟨n1, rfl⟩ := i64_of_trod (v := c1) h1
      obtain ⟨l2, hl2⟩ := open_sl_trod (v := c2) h2
      obtain ⟨n3, rfl⟩ := i64_of_trod (v := c3) h3
      obtain ⟨n4, rfl, b41, b42⟩ := u8_of_trod (v := c4) h4
      refine ⟨⟨n0, n1, c2, l2, n3, n4⟩, fun k v hv => ?_, ⟨⟨b01, b02⟩, ⟨b41, b42⟩⟩, hl2⟩
      have hk : k < 5 := (List.getElem?_eq_some_iff.1 hv).1
      have kk := hat k hk
      rw [Go.Deep.add_add, Addr.add_lit] at kk
      rw [Nat.add_assoc, kk]
      exact hv
    obtain ⟨ls, hls, hp⟩ := choose_g len _ key
    refine ⟨ls, some ⟨ab, ao, spot⟩, m, by rw [hls], by rw [hls]; exact hl, by unfold maxLen at hm; omega, fun h0 => ?_⟩
    have hs := hs0 (by omega)
    subst hs
    have hlt : ab < W.heap.size := World.block_lt_of_cell? W ⟨ab, ao + 0 * 5 + 0, none⟩ ((hp 0 h0).1 0 _ rfl)
    exact ⟨ab, ao, rfl, hlt, fun j hj => hp j hj⟩
end
end Go.Proofs.YtlobmffcnobgeaaDoor
