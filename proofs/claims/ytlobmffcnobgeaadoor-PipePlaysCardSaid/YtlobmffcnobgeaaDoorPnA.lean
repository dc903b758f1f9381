/- The law's do and same, on nil Pipes. -/
import Derived.Test.YtlobmffcnobgeaaDoorPbA
import Derived.Test.YtlobmffcnobgeaaDoorFlip
import Derived.Test.YtlobmffcnobgeaaDoorPdY
set_option maxRecDepth 100000
namespace Go.Proofs.YtlobmffcnobgeaaDoor
open Go.RowKit Go.Shelf
attribute [local go_sem] Oper.semAt_some
abbrev nP : Value := .pointer none
section
variable {w w' : World}
set_option maxHeartbeats 4000000 in
theorem nil_read4 (dd k m st : Int) (Bv : Nat) (v : Value) (p : List UInt8) (hv : Sl w Bv v p) (hBv : Bv ≤ w.heap.size) (hdd : 0 ≤ dd ∧ dd ≤ 255) (hr : dd % 11 = 4) :
    Calls Tryd.prog 8 #[nP, nP, .agg #[.int .u8 dd, .int .i64 k, v, .int .i64 m, .int .u8 st]] w fun e w' => e = .returned (.bool true) ∧ Below w.heap.size w w' := by
  obtain ⟨hd0, hd1⟩ := hdd
  obtain ⟨PA, PC, rfl, _, _, _, _⟩ := id hv
  obtain ⟨W0, hW0⟩ : ∃ W, W = w.alloc (.cells #[.int .u8 dd, .int .i64 k, .slice PA p.length PC, .int .i64 m, .int .u8 st] 36) := ⟨_, rfl⟩
  have hB0 : Below w.heap.size w W0 := by rw [hW0]; exact (Below.refl _ _).alloc (Nat.le_refl _) _
  have hK0 : Blk W0 w.heap.size [.int .u8 dd, .int .i64 k, .slice PA p.length PC, .int .i64 m, .int .u8 st] := by rw [hW0]; exact Blk.newA w #[.int .u8 dd, .int .i64 k, .slice PA p.length PC, .int .i64 m, .int .u8 st] _
  have hz0 : W0.heap.size = w.heap.size + 1 := by rw [hW0]; simp
  obtain ⟨L, hL⟩ : ∃ L, L = p.take 300 := ⟨_, rfl⟩
  have hL3 : L.length ≤ 300 := by rw [hL, List.length_take]; omega
  have HCut := Lib.hid (cut_any Bv (.slice PA p.length PC) p 300 W0 (hv.below hB0 (by omega)) (by omega) (by omega) (by omega))
  rw [show p.take (300 : Int).toNat = L from hL.symm] at HCut
  have HB0 := Lib.hid hB0
  have HK0 := Lib.hid hK0
  clear hL hB0 hK0 hv
  go_enter Tryd.func8, Tryd.ntmps8
  go_wp2_with fail
  rw [← hW0]
  clear hW0
  refine HCut.out.mono ?_
  rintro e w1 ⟨v1, rfl, hO1, hB1⟩
  have hz1 := hB1.size
  have HB1 := Lib.hid (HB0.out.trans (hB1.mono (by omega)))
  have HK1 := Lib.hid (HK0.out.below hB1 (by omega))
  have HO1 := Lib.hid hO1
  obtain ⟨A1, C1, rfl, _, _, _, _⟩ := hO1.sl
  clear hO1 hB1 HCut HK0
  go_wp2_with fail
  refine (copy_any w1.heap.size _ L w1 HO1.out.sl (Nat.le_refl _) (by omega)).mono ?_
  rintro e w2 ⟨v2, rfl, hO2, hB2⟩
  have hz2 := hB2.size
  have HB2 := Lib.hid (HB1.out.trans (hB2.mono (by omega)))
  have HK2 := Lib.hid (HK1.out.below hB2 (by omega))
  have HO2 := Lib.hid hO2
  have HO12 := Lib.hid (HO1.out.below hB2)
  obtain ⟨A2, C2, rfl, _, _, _, _⟩ := hO2.sl
  have d0 := HK2.out.at (o := 0) rfl
  have d1 := HK2.out.at (o := 1) rfl
  have d3 := HK2.out.at (o := 3) rfl
  have d4 := HK2.out.at (o := 4) rfl
  clear hO2 hB2 HK1 HO1
  have HR1 := Lib.hid (fun W => read_nil k m W)
  have HR2 := Lib.hid (fun W => rRead_nil k m W)
  have HSm := Lib.hid (same_true w2.heap.size w2.heap.size (.slice none 0 0) (.slice none 0 0) [] w2 (OwnB.nil w2 0).sl (OwnB.nil w2 0).sl)
  have HFl := Lib.hid (flip_any 0 (.slice none 0 0) [] w2 (OwnB.nil w2 0) (by simp))
  go_wp2_with fail
  refine (HR1.out _).mono ?_
  rintro e w3 ⟨rfl, rfl⟩
  go_wp2_with fail
  refine (HR2.out _).mono ?_
  rintro e w4 ⟨rfl, rfl⟩
  go_wp2_with fail
  refine HSm.out.mono ?_
  rintro e w5 ⟨rfl, hw5⟩
  subst hw5
  go_wp2_with fail
  refine HFl.out.mono ?_
  rintro e w6 ⟨rfl, hg6⟩
  have HF := Lib.hid (HB2.out.trans ((below_of_grown (by simpa [Value.ownBlock] using hg6)).mono HB2.out.size))
  clear hg6
  go_wp2_with fail
  go_ret
  exact ⟨rfl, HF.out⟩
set_option maxHeartbeats 4000000 in
theorem nil_read5 (dd k m st : Int) (Bv : Nat) (v : Value) (p : List UInt8) (hv : Sl w Bv v p) (hBv : Bv ≤ w.heap.size) (hdd : 0 ≤ dd ∧ dd ≤ 255) (hr : dd % 11 = 5) :
    Calls Tryd.prog 8 #[nP, nP, .agg #[.int .u8 dd, .int .i64 k, v, .int .i64 m, .int .u8 st]] w fun e w' => e = .returned (.bool true) ∧ Below w.heap.size w w' := by
  obtain ⟨hd0, hd1⟩ := hdd
  obtain ⟨PA, PC, rfl, _, _, _, _⟩ := id hv
  obtain ⟨W0, hW0⟩ : ∃ W, W = w.alloc (.cells #[.int .u8 dd, .int .i64 k, .slice PA p.length PC, .int .i64 m, .int .u8 st] 36) := ⟨_, rfl⟩
  have hB0 : Below w.heap.size w W0 := by rw [hW0]; exact (Below.refl _ _).alloc (Nat.le_refl _) _
  have hK0 : Blk W0 w.heap.size [.int .u8 dd, .int .i64 k, .slice PA p.length PC, .int .i64 m, .int .u8 st] := by rw [hW0]; exact Blk.newA w #[.int .u8 dd, .int .i64 k, .slice PA p.length PC, .int .i64 m, .int .u8 st] _
  have hz0 : W0.heap.size = w.heap.size + 1 := by rw [hW0]; simp
  obtain ⟨L, hL⟩ : ∃ L, L = p.take 300 := ⟨_, rfl⟩
  have hL3 : L.length ≤ 300 := by rw [hL, List.length_take]; omega
  have HCut := Lib.hid (cut_any Bv (.slice PA p.length PC) p 300 W0 (hv.below hB0 (by omega)) (by omega) (by omega) (by omega))
  rw [show p.take (300 : Int).toNat = L from hL.symm] at HCut
  have HB0 := Lib.hid hB0
  have HK0 := Lib.hid hK0
  clear hL hB0 hK0 hv
  go_enter Tryd.func8, Tryd.ntmps8
  go_wp2_with fail
  rw [← hW0]
  clear hW0
  refine HCut.out.mono ?_
  rintro e w1 ⟨v1, rfl, hO1, hB1⟩
  have hz1 := hB1.size
  have HB1 := Lib.hid (HB0.out.trans (hB1.mono (by omega)))
  have HK1 := Lib.hid (HK0.out.below hB1 (by omega))
  have HO1 := Lib.hid hO1
  obtain ⟨A1, C1, rfl, _, _, _, _⟩ := hO1.sl
  clear hO1 hB1 HCut HK0
  go_wp2_with fail
  refine (copy_any w1.heap.size _ L w1 HO1.out.sl (Nat.le_refl _) (by omega)).mono ?_
  rintro e w2 ⟨v2, rfl, hO2, hB2⟩
  have hz2 := hB2.size
  have HB2 := Lib.hid (HB1.out.trans (hB2.mono (by omega)))
  have HK2 := Lib.hid (HK1.out.below hB2 (by omega))
  have HO2 := Lib.hid hO2
  have HO12 := Lib.hid (HO1.out.below hB2)
  obtain ⟨A2, C2, rfl, _, _, _, _⟩ := hO2.sl
  have d0 := HK2.out.at (o := 0) rfl
  have d1 := HK2.out.at (o := 1) rfl
  have d3 := HK2.out.at (o := 3) rfl
  have d4 := HK2.out.at (o := 4) rfl
  clear hO2 hB2 HK1 HO1
  have HR1 := Lib.hid (fun W => read_nil k m W)
  have HR2 := Lib.hid (fun W => rRead_nil k m W)
  have HSm := Lib.hid (same_true w2.heap.size w2.heap.size (.slice none 0 0) (.slice none 0 0) [] w2 (OwnB.nil w2 0).sl (OwnB.nil w2 0).sl)
  have HFl := Lib.hid (flip_any 0 (.slice none 0 0) [] w2 (OwnB.nil w2 0) (by simp))
  go_wp2_with fail
  refine (HR1.out _).mono ?_
  rintro e w3 ⟨rfl, rfl⟩
  go_wp2_with fail
  refine (HR2.out _).mono ?_
  rintro e w4 ⟨rfl, rfl⟩
  go_wp2_with fail
  refine HSm.out.mono ?_
  rintro e w5 ⟨rfl, hw5⟩
  subst hw5
  go_wp2_with fail
  refine HFl.out.mono ?_
  rintro e w6 ⟨rfl, hg6⟩
  have HF := Lib.hid (HB2.out.trans ((below_of_grown (by simpa [Value.ownBlock] using hg6)).mono HB2.out.size))
  clear hg6
  go_wp2_with fail
  go_ret
  exact ⟨rfl, HF.out⟩
set_option maxHeartbeats 4000000 in
theorem nil_read6 (dd k m st : Int) (Bv : Nat) (v : Value) (p : List UInt8) (hv : Sl w Bv v p) (hBv : Bv ≤ w.heap.size) (hdd : 0 ≤ dd ∧ dd ≤ 255) (hr : dd % 11 = 6) :
    Calls Tryd.prog 8 #[nP, nP, .agg #[.int .u8 dd, .int .i64 k, v, .int .i64 m, .int .u8 st]] w fun e w' => e = .returned (.bool true) ∧ Below w.heap.size w w' := by
  obtain ⟨hd0, hd1⟩ := hdd
  obtain ⟨PA, PC, rfl, _, _, _, _⟩ := id hv
  obtain ⟨W0, hW0⟩ : ∃ W, W = w.alloc (.cells #[.int .u8 dd, .int .i64 k, .slice PA p.length PC, .int .i64 m, .int .u8 st] 36) := ⟨_, rfl⟩
  have hB0 : Below w.heap.size w W0 := by rw [hW0]; exact (Below.refl _ _).alloc (Nat.le_refl _) _
  have hK0 : Blk W0 w.heap.size [.int .u8 dd, .int .i64 k, .slice PA p.length PC, .int .i64 m, .int .u8 st] := by rw [hW0]; exact Blk.newA w #[.int .u8 dd, .int .i64 k, .slice PA p.length PC, .int .i64 m, .int .u8 st] _
  have hz0 : W0.heap.size = w.heap.size + 1 := by rw [hW0]; simp
  obtain ⟨L, hL⟩ : ∃ L, L = p.take 300 := ⟨_, rfl⟩
  have hL3 : L.length ≤ 300 := by rw [hL, List.length_take]; omega
  have HCut := Lib.hid (cut_any Bv (.slice PA p.length PC) p 300 W0 (hv.below hB0 (by omega)) (by omega) (by omega) (by omega))
  rw [show p.take (300 : Int).toNat = L from hL.symm] at HCut
  have HB0 := Lib.hid hB0
  have HK0 := Lib.hid hK0
  clear hL hB0 hK0 hv
  go_enter Tryd.func8, Tryd.ntmps8
  go_wp2_with fail
  rw [← hW0]
  clear hW0
  refine HCut.out.mono ?_
  rintro e w1 ⟨v1, rfl, hO1, hB1⟩
  have hz1 := hB1.size
  have HB1 := Lib.hid (HB0.out.trans (hB1.mono (by omega)))
  have HK1 := Lib.hid (HK0.out.below hB1 (by omega))
  have HO1 := Lib.hid hO1
  obtain ⟨A1, C1, rfl, _, _, _, _⟩ := hO1.sl
  clear hO1 hB1 HCut HK0
  go_wp2_with fail
  refine (copy_any w1.heap.size _ L w1 HO1.out.sl (Nat.le_refl _) (by omega)).mono ?_
  rintro e w2 ⟨v2, rfl, hO2, hB2⟩
  have hz2 := hB2.size
  have HB2 := Lib.hid (HB1.out.trans (hB2.mono (by omega)))
  have HK2 := Lib.hid (HK1.out.below hB2 (by omega))
  have HO2 := Lib.hid hO2
  have HO12 := Lib.hid (HO1.out.below hB2)
  obtain ⟨A2, C2, rfl, _, _, _, _⟩ := hO2.sl
  have d0 := HK2.out.at (o := 0) rfl
  have d1 := HK2.out.at (o := 1) rfl
  have d3 := HK2.out.at (o := 3) rfl
  have d4 := HK2.out.at (o := 4) rfl
  clear hO2 hB2 HK1 HO1
  have HR1 := Lib.hid (fun W => read_nil k m W)
  have HR2 := Lib.hid (fun W => rRead_nil k m W)
  have HSm := Lib.hid (same_true w2.heap.size w2.heap.size (.slice none 0 0) (.slice none 0 0) [] w2 (OwnB.nil w2 0).sl (OwnB.nil w2 0).sl)
  have HFl := Lib.hid (flip_any 0 (.slice none 0 0) [] w2 (OwnB.nil w2 0) (by simp))
  go_wp2_with fail
  refine (HR1.out _).mono ?_
  rintro e w3 ⟨rfl, rfl⟩
  go_wp2_with fail
  refine (HR2.out _).mono ?_
  rintro e w4 ⟨rfl, rfl⟩
  go_wp2_with fail
  refine HSm.out.mono ?_
  rintro e w5 ⟨rfl, hw5⟩
  subst hw5
  go_wp2_with fail
  refine HFl.out.mono ?_
  rintro e w6 ⟨rfl, hg6⟩
  have HF := Lib.hid (HB2.out.trans ((below_of_grown (by simpa [Value.ownBlock] using hg6)).mono HB2.out.size))
  clear hg6
  go_wp2_with fail
  go_ret
  exact ⟨rfl, HF.out⟩
set_option maxHeartbeats 4000000 in
theorem nil_shut (dd k m st : Int) (Bv : Nat) (v : Value) (p : List UInt8) (hv : Sl w Bv v p) (hBv : Bv ≤ w.heap.size) (hdd : 0 ≤ dd ∧ dd ≤ 255) (hr : dd % 11 = 7) :
    Calls Tryd.prog 8 #[nP, nP, .agg #[.int .u8 dd, .int .i64 k, v, .int .i64 m, .int .u8 st]] w fun e w' => e = .returned (.bool true) ∧ Below w.heap.size w w' := by
  obtain ⟨hd0, hd1⟩ := hdd
  obtain ⟨PA, PC, rfl, _, _, _, _⟩ := id hv
  obtain ⟨W0, hW0⟩ : ∃ W, W = w.alloc (.cells #[.int .u8 dd, .int .i64 k, .slice PA p.length PC, .int .i64 m, .int .u8 st] 36) := ⟨_, rfl⟩
  have hB0 : Below w.heap.size w W0 := by rw [hW0]; exact (Below.refl _ _).alloc (Nat.le_refl _) _
  have hK0 : Blk W0 w.heap.size [.int .u8 dd, .int .i64 k, .slice PA p.length PC, .int .i64 m, .int .u8 st] := by rw [hW0]; exact Blk.newA w #[.int .u8 dd, .int .i64 k, .slice PA p.length PC, .int .i64 m, .int .u8 st] _
  have hz0 : W0.heap.size = w.heap.size + 1 := by rw [hW0]; simp
  obtain ⟨L, hL⟩ : ∃ L, L = p.take 300 := ⟨_, rfl⟩
  have hL3 : L.length ≤ 300 := by rw [hL, List.length_take]; omega
  have HCut := Lib.hid (cut_any Bv (.slice PA p.length PC) p 300 W0 (hv.below hB0 (by omega)) (by omega) (by omega) (by omega))
  rw [show p.take (300 : Int).toNat = L from hL.symm] at HCut
  have HB0 := Lib.hid hB0
  have HK0 := Lib.hid hK0
  clear hL hB0 hK0 hv
  go_enter Tryd.func8, Tryd.ntmps8
  go_wp2_with fail
  rw [← hW0]
  clear hW0
  refine HCut.out.mono ?_
  rintro e w1 ⟨v1, rfl, hO1, hB1⟩
  have hz1 := hB1.size
  have HB1 := Lib.hid (HB0.out.trans (hB1.mono (by omega)))
  have HK1 := Lib.hid (HK0.out.below hB1 (by omega))
  have HO1 := Lib.hid hO1
  obtain ⟨A1, C1, rfl, _, _, _, _⟩ := hO1.sl
  clear hO1 hB1 HCut HK0
  go_wp2_with fail
  refine (copy_any w1.heap.size _ L w1 HO1.out.sl (Nat.le_refl _) (by omega)).mono ?_
  rintro e w2 ⟨v2, rfl, hO2, hB2⟩
  have hz2 := hB2.size
  have HB2 := Lib.hid (HB1.out.trans (hB2.mono (by omega)))
  have HK2 := Lib.hid (HK1.out.below hB2 (by omega))
  have HO2 := Lib.hid hO2
  have HO12 := Lib.hid (HO1.out.below hB2)
  obtain ⟨A2, C2, rfl, _, _, _, _⟩ := hO2.sl
  have d0 := HK2.out.at (o := 0) rfl
  have d1 := HK2.out.at (o := 1) rfl
  have d3 := HK2.out.at (o := 3) rfl
  have d4 := HK2.out.at (o := 4) rfl
  clear hO2 hB2 HK1 HO1
  have HR1 := Lib.hid (fun W => shut_nil k W)
  have HR2 := Lib.hid (fun W => rShut_nil k W)
  go_wp2_with fail
  refine wp_region_noPanic ?_
  refine wp_region_held (S := fun W => W.cell? ⟨w.heap.size, 1, none⟩ = some (.int .i64 k)) (by kernel_rfl) ?_
  change wpAnyH _ _ _ _ _ _ _ _ w2.drew
  have HS := Lib.hid (show w2.drew.cell? ⟨w.heap.size, 1, none⟩ = some (.int .i64 k) from d1)
  refine takeH 0 67 (nP) rfl rfl (by kernel_rfl) (by kernel_rfl) (by kernel_rfl) (fun _ _ _ h => h) rfl (fun w' h => by go_simp) HS.out ?_
  go_frame
  refine takeH 1 68 (.pointer (some ⟨w.heap.size, 1, none⟩)) rfl rfl (by kernel_rfl) (by kernel_rfl) (by kernel_rfl) (fun _ _ _ h => h) rfl (fun w' h => by go_simp) HS.out ?_
  go_frame
  refine takeH 2 69 (.int .i64 k) rfl rfl (by kernel_rfl) (by kernel_rfl) (by kernel_rfl) (fun _ _ _ h => h) rfl (fun w' h => by go_simp) HS.out ?_
  go_frame
  refine takeH 4 71 (nP) rfl rfl (by kernel_rfl) (by kernel_rfl) (by kernel_rfl) (fun _ _ _ h => h) rfl (fun w' h => by go_simp) HS.out ?_
  go_frame
  refine takeH 5 72 (.pointer (some ⟨w.heap.size, 1, none⟩)) rfl rfl (by kernel_rfl) (by kernel_rfl) (by kernel_rfl) (fun _ _ _ h => h) rfl (fun w' h => by go_simp) HS.out ?_
  go_frame
  refine takeH 6 73 (.int .i64 k) rfl rfl (by kernel_rfl) (by kernel_rfl) (by kernel_rfl) (fun _ _ _ h => h) rfl (fun w' h => by go_simp) HS.out ?_
  go_frame
  refine wpAnyH_all (rs := [3]) (by kernel_rfl) (by simp) ?_
  simp only [List.mem_singleton, forall_eq]
  refine wpOp_callD 70 rfl rfl rfl 15 #[nP, .int .i64 k] (by go_simp) ?_
  refine (HR1.out _).mono ?_
  rintro e w3 ⟨rfl, rfl⟩
  refine ⟨_, rfl, HS.out, ?_⟩
  go_frame
  refine wpAnyH_all (rs := [7]) (by kernel_rfl) (by simp) ?_
  simp only [List.mem_singleton, forall_eq]
  refine wpOp_callD 74 rfl rfl rfl 24 #[nP, .int .i64 k] (by go_simp) ?_
  refine (HR2.out _).mono ?_
  rintro e w4 ⟨rfl, rfl⟩
  refine ⟨_, rfl, HS.out, ?_⟩
  go_frame
  refine takeH 8 75 (.bool true) rfl rfl (by kernel_rfl) (by kernel_rfl) (by kernel_rfl) (fun _ _ _ h => h) rfl (fun w' h => by go_simp) HS.out ?_
  go_frame
  refine takeH 9 6 (.bool true) rfl rfl (by kernel_rfl) (by kernel_rfl) (by kernel_rfl) (fun _ _ _ h => h) rfl (fun w' h => by go_simp) HS.out ?_
  go_frame
  refine wpAnyH_done (by kernel_rfl) ?_ _
  refine NoPanic.normal ?_
  go_wp2_with fail
  go_ret
  exact ⟨rfl, HB2.out.drew⟩
set_option maxHeartbeats 4000000 in
theorem nil_cut (dd k m st : Int) (Bv : Nat) (v : Value) (p : List UInt8) (hv : Sl w Bv v p) (hBv : Bv ≤ w.heap.size) (hdd : 0 ≤ dd ∧ dd ≤ 255) (hr : dd % 11 = 8) :
    Calls Tryd.prog 8 #[nP, nP, .agg #[.int .u8 dd, .int .i64 k, v, .int .i64 m, .int .u8 st]] w fun e w' => e = .returned (.bool true) ∧ Below w.heap.size w w' := by
  obtain ⟨hd0, hd1⟩ := hdd
  obtain ⟨PA, PC, rfl, _, _, _, _⟩ := id hv
  obtain ⟨W0, hW0⟩ : ∃ W, W = w.alloc (.cells #[.int .u8 dd, .int .i64 k, .slice PA p.length PC, .int .i64 m, .int .u8 st] 36) := ⟨_, rfl⟩
  have hB0 : Below w.heap.size w W0 := by rw [hW0]; exact (Below.refl _ _).alloc (Nat.le_refl _) _
  have hK0 : Blk W0 w.heap.size [.int .u8 dd, .int .i64 k, .slice PA p.length PC, .int .i64 m, .int .u8 st] := by rw [hW0]; exact Blk.newA w #[.int .u8 dd, .int .i64 k, .slice PA p.length PC, .int .i64 m, .int .u8 st] _
  have hz0 : W0.heap.size = w.heap.size + 1 := by rw [hW0]; simp
  obtain ⟨L, hL⟩ : ∃ L, L = p.take 300 := ⟨_, rfl⟩
  have hL3 : L.length ≤ 300 := by rw [hL, List.length_take]; omega
  have HCut := Lib.hid (cut_any Bv (.slice PA p.length PC) p 300 W0 (hv.below hB0 (by omega)) (by omega) (by omega) (by omega))
  rw [show p.take (300 : Int).toNat = L from hL.symm] at HCut
  have HB0 := Lib.hid hB0
  have HK0 := Lib.hid hK0
  clear hL hB0 hK0 hv
  go_enter Tryd.func8, Tryd.ntmps8
  go_wp2_with fail
  rw [← hW0]
  clear hW0
  refine HCut.out.mono ?_
  rintro e w1 ⟨v1, rfl, hO1, hB1⟩
  have hz1 := hB1.size
  have HB1 := Lib.hid (HB0.out.trans (hB1.mono (by omega)))
  have HK1 := Lib.hid (HK0.out.below hB1 (by omega))
  have HO1 := Lib.hid hO1
  obtain ⟨A1, C1, rfl, _, _, _, _⟩ := hO1.sl
  clear hO1 hB1 HCut HK0
  go_wp2_with fail
  refine (copy_any w1.heap.size _ L w1 HO1.out.sl (Nat.le_refl _) (by omega)).mono ?_
  rintro e w2 ⟨v2, rfl, hO2, hB2⟩
  have hz2 := hB2.size
  have HB2 := Lib.hid (HB1.out.trans (hB2.mono (by omega)))
  have HK2 := Lib.hid (HK1.out.below hB2 (by omega))
  have HO2 := Lib.hid hO2
  have HO12 := Lib.hid (HO1.out.below hB2)
  obtain ⟨A2, C2, rfl, _, _, _, _⟩ := hO2.sl
  have d0 := HK2.out.at (o := 0) rfl
  have d1 := HK2.out.at (o := 1) rfl
  have d3 := HK2.out.at (o := 3) rfl
  have d4 := HK2.out.at (o := 4) rfl
  clear hO2 hB2 HK1 HO1
  have HR1 := Lib.hid (fun W => cut_nil W)
  have HR2 := Lib.hid (fun W => rCut_nil W)
  go_wp2_with fail
  refine (HR1.out _).mono ?_
  rintro e w3 ⟨rfl, rfl⟩
  go_wp2_with fail
  refine (HR2.out _).mono ?_
  rintro e w4 ⟨rfl, rfl⟩
  go_wp2_with fail
  go_ret
  exact ⟨rfl, HB2.out⟩
set_option maxHeartbeats 4000000 in
theorem nil_write0 (dd k m st : Int) (Bv : Nat) (v : Value) (p : List UInt8) (hv : Sl w Bv v p) (hBv : Bv ≤ w.heap.size) (hdd : 0 ≤ dd ∧ dd ≤ 255) (hr : dd % 11 = 0) :
    Calls Tryd.prog 8 #[nP, nP, .agg #[.int .u8 dd, .int .i64 k, v, .int .i64 m, .int .u8 st]] w fun e w' => e = .returned (.bool true) ∧ Below w.heap.size w w' := by
  obtain ⟨hd0, hd1⟩ := hdd
  obtain ⟨PA, PC, rfl, _, _, _, _⟩ := id hv
  obtain ⟨W0, hW0⟩ : ∃ W, W = w.alloc (.cells #[.int .u8 dd, .int .i64 k, .slice PA p.length PC, .int .i64 m, .int .u8 st] 36) := ⟨_, rfl⟩
  have hB0 : Below w.heap.size w W0 := by rw [hW0]; exact (Below.refl _ _).alloc (Nat.le_refl _) _
  have hK0 : Blk W0 w.heap.size [.int .u8 dd, .int .i64 k, .slice PA p.length PC, .int .i64 m, .int .u8 st] := by rw [hW0]; exact Blk.newA w #[.int .u8 dd, .int .i64 k, .slice PA p.length PC, .int .i64 m, .int .u8 st] _
  have hz0 : W0.heap.size = w.heap.size + 1 := by rw [hW0]; simp
  obtain ⟨L, hL⟩ : ∃ L, L = p.take 300 := ⟨_, rfl⟩
  have hL3 : L.length ≤ 300 := by rw [hL, List.length_take]; omega
  have HCut := Lib.hid (cut_any Bv (.slice PA p.length PC) p 300 W0 (hv.below hB0 (by omega)) (by omega) (by omega) (by omega))
  rw [show p.take (300 : Int).toNat = L from hL.symm] at HCut
  have HB0 := Lib.hid hB0
  have HK0 := Lib.hid hK0
  clear hL hB0 hK0 hv
  go_enter Tryd.func8, Tryd.ntmps8
  go_wp2_with fail
  rw [← hW0]
  clear hW0
  refine HCut.out.mono ?_
  rintro e w1 ⟨v1, rfl, hO1, hB1⟩
  have hz1 := hB1.size
  have HB1 := Lib.hid (HB0.out.trans (hB1.mono (by omega)))
  have HK1 := Lib.hid (HK0.out.below hB1 (by omega))
  have HO1 := Lib.hid hO1
  obtain ⟨A1, C1, rfl, _, _, _, _⟩ := hO1.sl
  clear hO1 hB1 HCut HK0
  go_wp2_with fail
  refine (copy_any w1.heap.size _ L w1 HO1.out.sl (Nat.le_refl _) (by omega)).mono ?_
  rintro e w2 ⟨v2, rfl, hO2, hB2⟩
  have hz2 := hB2.size
  have HB2 := Lib.hid (HB1.out.trans (hB2.mono (by omega)))
  have HK2 := Lib.hid (HK1.out.below hB2 (by omega))
  have HO2 := Lib.hid hO2
  have HO12 := Lib.hid (HO1.out.below hB2)
  obtain ⟨A2, C2, rfl, _, _, _, _⟩ := hO2.sl
  have d0 := HK2.out.at (o := 0) rfl
  have d1 := HK2.out.at (o := 1) rfl
  have d3 := HK2.out.at (o := 3) rfl
  have d4 := HK2.out.at (o := 4) rfl
  clear hO2 hB2 HK1 HO1
  have HR1 := Lib.hid (fun W => write_nil k (.slice A2 L.length C2) W)
  have HR2 := Lib.hid (fun W => rWrite_nil k (.slice A1 L.length C1) W)
  have HSm := Lib.hid (same_true w2.heap.size w2.heap.size _ _ L w2 HO2.out.sl HO12.out.sl)
  have HFl := Lib.hid (flip_any w1.heap.size (.slice A2 L.length C2) L w2 HO2.out (by omega))
  go_wp2_with fail
  refine (HR1.out _).mono ?_
  rintro e w3 ⟨rfl, rfl⟩
  go_wp2_with fail
  refine (HR2.out _).mono ?_
  rintro e w4 ⟨rfl, rfl⟩
  go_wp2_with fail
  refine HSm.out.mono ?_
  rintro e w5 ⟨rfl, hw5⟩
  subst hw5
  go_wp2_with fail
  refine HFl.out.mono ?_
  rintro e w6 ⟨rfl, hg6⟩
  have HF := Lib.hid (show Below w.heap.size w w6 from HB2.out.grown hg6 HB2.out.size (fun j e => by have := (HO2.out.lt j e).1; omega))
  clear hg6
  go_wp2_with fail
  go_ret
  exact ⟨rfl, HF.out⟩
set_option maxHeartbeats 4000000 in
theorem nil_write1 (dd k m st : Int) (Bv : Nat) (v : Value) (p : List UInt8) (hv : Sl w Bv v p) (hBv : Bv ≤ w.heap.size) (hdd : 0 ≤ dd ∧ dd ≤ 255) (hr : dd % 11 = 1) :
    Calls Tryd.prog 8 #[nP, nP, .agg #[.int .u8 dd, .int .i64 k, v, .int .i64 m, .int .u8 st]] w fun e w' => e = .returned (.bool true) ∧ Below w.heap.size w w' := by
  obtain ⟨hd0, hd1⟩ := hdd
  obtain ⟨PA, PC, rfl, _, _, _, _⟩ := id hv
  obtain ⟨W0, hW0⟩ : ∃ W, W = w.alloc (.cells #[.int .u8 dd, .int .i64 k, .slice PA p.length PC, .int .i64 m, .int .u8 st] 36) := ⟨_, rfl⟩
  have hB0 : Below w.heap.size w W0 := by rw [hW0]; exact (Below.refl _ _).alloc (Nat.le_refl _) _
  have hK0 : Blk W0 w.heap.size [.int .u8 dd, .int .i64 k, .slice PA p.length PC, .int .i64 m, .int .u8 st] := by rw [hW0]; exact Blk.newA w #[.int .u8 dd, .int .i64 k, .slice PA p.length PC, .int .i64 m, .int .u8 st] _
  have hz0 : W0.heap.size = w.heap.size + 1 := by rw [hW0]; simp
  obtain ⟨L, hL⟩ : ∃ L, L = p.take 300 := ⟨_, rfl⟩
  have hL3 : L.length ≤ 300 := by rw [hL, List.length_take]; omega
  have HCut := Lib.hid (cut_any Bv (.slice PA p.length PC) p 300 W0 (hv.below hB0 (by omega)) (by omega) (by omega) (by omega))
  rw [show p.take (300 : Int).toNat = L from hL.symm] at HCut
  have HB0 := Lib.hid hB0
  have HK0 := Lib.hid hK0
  clear hL hB0 hK0 hv
  go_enter Tryd.func8, Tryd.ntmps8
  go_wp2_with fail
  rw [← hW0]
  clear hW0
  refine HCut.out.mono ?_
  rintro e w1 ⟨v1, rfl, hO1, hB1⟩
  have hz1 := hB1.size
  have HB1 := Lib.hid (HB0.out.trans (hB1.mono (by omega)))
  have HK1 := Lib.hid (HK0.out.below hB1 (by omega))
  have HO1 := Lib.hid hO1
  obtain ⟨A1, C1, rfl, _, _, _, _⟩ := hO1.sl
  clear hO1 hB1 HCut HK0
  go_wp2_with fail
  refine (copy_any w1.heap.size _ L w1 HO1.out.sl (Nat.le_refl _) (by omega)).mono ?_
  rintro e w2 ⟨v2, rfl, hO2, hB2⟩
  have hz2 := hB2.size
  have HB2 := Lib.hid (HB1.out.trans (hB2.mono (by omega)))
  have HK2 := Lib.hid (HK1.out.below hB2 (by omega))
  have HO2 := Lib.hid hO2
  have HO12 := Lib.hid (HO1.out.below hB2)
  obtain ⟨A2, C2, rfl, _, _, _, _⟩ := hO2.sl
  have d0 := HK2.out.at (o := 0) rfl
  have d1 := HK2.out.at (o := 1) rfl
  have d3 := HK2.out.at (o := 3) rfl
  have d4 := HK2.out.at (o := 4) rfl
  clear hO2 hB2 HK1 HO1
  have HR1 := Lib.hid (fun W => write_nil k (.slice A2 L.length C2) W)
  have HR2 := Lib.hid (fun W => rWrite_nil k (.slice A1 L.length C1) W)
  have HSm := Lib.hid (same_true w2.heap.size w2.heap.size _ _ L w2 HO2.out.sl HO12.out.sl)
  have HFl := Lib.hid (flip_any w1.heap.size (.slice A2 L.length C2) L w2 HO2.out (by omega))
  go_wp2_with fail
  refine (HR1.out _).mono ?_
  rintro e w3 ⟨rfl, rfl⟩
  go_wp2_with fail
  refine (HR2.out _).mono ?_
  rintro e w4 ⟨rfl, rfl⟩
  go_wp2_with fail
  refine HSm.out.mono ?_
  rintro e w5 ⟨rfl, hw5⟩
  subst hw5
  go_wp2_with fail
  refine HFl.out.mono ?_
  rintro e w6 ⟨rfl, hg6⟩
  have HF := Lib.hid (show Below w.heap.size w w6 from HB2.out.grown hg6 HB2.out.size (fun j e => by have := (HO2.out.lt j e).1; omega))
  clear hg6
  go_wp2_with fail
  go_ret
  exact ⟨rfl, HF.out⟩
set_option maxHeartbeats 4000000 in
theorem nil_write2 (dd k m st : Int) (Bv : Nat) (v : Value) (p : List UInt8) (hv : Sl w Bv v p) (hBv : Bv ≤ w.heap.size) (hdd : 0 ≤ dd ∧ dd ≤ 255) (hr : dd % 11 = 2) :
    Calls Tryd.prog 8 #[nP, nP, .agg #[.int .u8 dd, .int .i64 k, v, .int .i64 m, .int .u8 st]] w fun e w' => e = .returned (.bool true) ∧ Below w.heap.size w w' := by
  obtain ⟨hd0, hd1⟩ := hdd
  obtain ⟨PA, PC, rfl, _, _, _, _⟩ := id hv
  obtain ⟨W0, hW0⟩ : ∃ W, W = w.alloc (.cells #[.int .u8 dd, .int .i64 k, .slice PA p.length PC, .int .i64 m, .int .u8 st] 36) := ⟨_, rfl⟩
  have hB0 : Below w.heap.size w W0 := by rw [hW0]; exact (Below.refl _ _).alloc (Nat.le_refl _) _
  have hK0 : Blk W0 w.heap.size [.int .u8 dd, .int .i64 k, .slice PA p.length PC, .int .i64 m, .int .u8 st] := by rw [hW0]; exact Blk.newA w #[.int .u8 dd, .int .i64 k, .slice PA p.length PC, .int .i64 m, .int .u8 st] _
  have hz0 : W0.heap.size = w.heap.size + 1 := by rw [hW0]; simp
  obtain ⟨L, hL⟩ : ∃ L, L = p.take 300 := ⟨_, rfl⟩
  have hL3 : L.length ≤ 300 := by rw [hL, List.length_take]; omega
  have HCut := Lib.hid (cut_any Bv (.slice PA p.length PC) p 300 W0 (hv.below hB0 (by omega)) (by omega) (by omega) (by omega))
  rw [show p.take (300 : Int).toNat = L from hL.symm] at HCut
  have HB0 := Lib.hid hB0
  have HK0 := Lib.hid hK0
  clear hL hB0 hK0 hv
  go_enter Tryd.func8, Tryd.ntmps8
  go_wp2_with fail
  rw [← hW0]
  clear hW0
  refine HCut.out.mono ?_
  rintro e w1 ⟨v1, rfl, hO1, hB1⟩
  have hz1 := hB1.size
  have HB1 := Lib.hid (HB0.out.trans (hB1.mono (by omega)))
  have HK1 := Lib.hid (HK0.out.below hB1 (by omega))
  have HO1 := Lib.hid hO1
  obtain ⟨A1, C1, rfl, _, _, _, _⟩ := hO1.sl
  clear hO1 hB1 HCut HK0
  go_wp2_with fail
  refine (copy_any w1.heap.size _ L w1 HO1.out.sl (Nat.le_refl _) (by omega)).mono ?_
  rintro e w2 ⟨v2, rfl, hO2, hB2⟩
  have hz2 := hB2.size
  have HB2 := Lib.hid (HB1.out.trans (hB2.mono (by omega)))
  have HK2 := Lib.hid (HK1.out.below hB2 (by omega))
  have HO2 := Lib.hid hO2
  have HO12 := Lib.hid (HO1.out.below hB2)
  obtain ⟨A2, C2, rfl, _, _, _, _⟩ := hO2.sl
  have d0 := HK2.out.at (o := 0) rfl
  have d1 := HK2.out.at (o := 1) rfl
  have d3 := HK2.out.at (o := 3) rfl
  have d4 := HK2.out.at (o := 4) rfl
  clear hO2 hB2 HK1 HO1
  have HR1 := Lib.hid (fun W => write_nil k (.slice A2 L.length C2) W)
  have HR2 := Lib.hid (fun W => rWrite_nil k (.slice A1 L.length C1) W)
  have HSm := Lib.hid (same_true w2.heap.size w2.heap.size _ _ L w2 HO2.out.sl HO12.out.sl)
  have HFl := Lib.hid (flip_any w1.heap.size (.slice A2 L.length C2) L w2 HO2.out (by omega))
  go_wp2_with fail
  refine (HR1.out _).mono ?_
  rintro e w3 ⟨rfl, rfl⟩
  go_wp2_with fail
  refine (HR2.out _).mono ?_
  rintro e w4 ⟨rfl, rfl⟩
  go_wp2_with fail
  refine HSm.out.mono ?_
  rintro e w5 ⟨rfl, hw5⟩
  subst hw5
  go_wp2_with fail
  refine HFl.out.mono ?_
  rintro e w6 ⟨rfl, hg6⟩
  have HF := Lib.hid (show Below w.heap.size w w6 from HB2.out.grown hg6 HB2.out.size (fun j e => by have := (HO2.out.lt j e).1; omega))
  clear hg6
  go_wp2_with fail
  go_ret
  exact ⟨rfl, HF.out⟩
set_option maxHeartbeats 4000000 in
theorem nil_write3 (dd k m st : Int) (Bv : Nat) (v : Value) (p : List UInt8) (hv : Sl w Bv v p) (hBv : Bv ≤ w.heap.size) (hdd : 0 ≤ dd ∧ dd ≤ 255) (hr : dd % 11 = 3) :
    Calls Tryd.prog 8 #[nP, nP, .agg #[.int .u8 dd, .int .i64 k, v, .int .i64 m, .int .u8 st]] w fun e w' => e = .returned (.bool true) ∧ Below w.heap.size w w' := by
  obtain ⟨hd0, hd1⟩ := hdd
  obtain ⟨PA, PC, rfl, _, _, _, _⟩ := id hv
  obtain ⟨W0, hW0⟩ : ∃ W, W = w.alloc (.cells #[.int .u8 dd, .int .i64 k, .slice PA p.length PC, .int .i64 m, .int .u8 st] 36) := ⟨_, rfl⟩
  have hB0 : Below w.heap.size w W0 := by rw [hW0]; exact (Below.refl _ _).alloc (Nat.le_refl _) _
  have hK0 : Blk W0 w.heap.size [.int .u8 dd, .int .i64 k, .slice PA p.length PC, .int .i64 m, .int .u8 st] := by rw [hW0]; exact Blk.newA w #[.int .u8 dd, .int .i64 k, .slice PA p.length PC, .int .i64 m, .int .u8 st] _
  have hz0 : W0.heap.size = w.heap.size + 1 := by rw [hW0]; simp
  obtain ⟨L, hL⟩ : ∃ L, L = p.take 300 := ⟨_, rfl⟩
  have hL3 : L.length ≤ 300 := by rw [hL, List.length_take]; omega
  have HCut := Lib.hid (cut_any Bv (.slice PA p.length PC) p 300 W0 (hv.below hB0 (by omega)) (by omega) (by omega) (by omega))
  rw [show p.take (300 : Int).toNat = L from hL.symm] at HCut
  have HB0 := Lib.hid hB0
  have HK0 := Lib.hid hK0
  clear hL hB0 hK0 hv
  go_enter Tryd.func8, Tryd.ntmps8
  go_wp2_with fail
  rw [← hW0]
  clear hW0
  refine HCut.out.mono ?_
  rintro e w1 ⟨v1, rfl, hO1, hB1⟩
  have hz1 := hB1.size
  have HB1 := Lib.hid (HB0.out.trans (hB1.mono (by omega)))
  have HK1 := Lib.hid (HK0.out.below hB1 (by omega))
  have HO1 := Lib.hid hO1
  obtain ⟨A1, C1, rfl, _, _, _, _⟩ := hO1.sl
  clear hO1 hB1 HCut HK0
  go_wp2_with fail
  refine (copy_any w1.heap.size _ L w1 HO1.out.sl (Nat.le_refl _) (by omega)).mono ?_
  rintro e w2 ⟨v2, rfl, hO2, hB2⟩
  have hz2 := hB2.size
  have HB2 := Lib.hid (HB1.out.trans (hB2.mono (by omega)))
  have HK2 := Lib.hid (HK1.out.below hB2 (by omega))
  have HO2 := Lib.hid hO2
  have HO12 := Lib.hid (HO1.out.below hB2)
  obtain ⟨A2, C2, rfl, _, _, _, _⟩ := hO2.sl
  have d0 := HK2.out.at (o := 0) rfl
  have d1 := HK2.out.at (o := 1) rfl
  have d3 := HK2.out.at (o := 3) rfl
  have d4 := HK2.out.at (o := 4) rfl
  clear hO2 hB2 HK1 HO1
  have HR1 := Lib.hid (fun W => write_nil k (.slice A2 L.length C2) W)
  have HR2 := Lib.hid (fun W => rWrite_nil k (.slice A1 L.length C1) W)
  have HSm := Lib.hid (same_true w2.heap.size w2.heap.size _ _ L w2 HO2.out.sl HO12.out.sl)
  have HFl := Lib.hid (flip_any w1.heap.size (.slice A2 L.length C2) L w2 HO2.out (by omega))
  go_wp2_with fail
  refine (HR1.out _).mono ?_
  rintro e w3 ⟨rfl, rfl⟩
  go_wp2_with fail
  refine (HR2.out _).mono ?_
  rintro e w4 ⟨rfl, rfl⟩
  go_wp2_with fail
  refine HSm.out.mono ?_
  rintro e w5 ⟨rfl, hw5⟩
  subst hw5
  go_wp2_with fail
  refine HFl.out.mono ?_
  rintro e w6 ⟨rfl, hg6⟩
  have HF := Lib.hid (show Below w.heap.size w w6 from HB2.out.grown hg6 HB2.out.size (fun j e => by have := (HO2.out.lt j e).1; omega))
  clear hg6
  go_wp2_with fail
  go_ret
  exact ⟨rfl, HF.out⟩
theorem chunks_nil (k m : Int) (most : Nat) (hm0 : 1 ≤ most) (hm1 : most ≤ 1000) (w : World) :
    Calls Tryd.prog 26 #[nP, .int .i64 k, .int .i64 m, .int .i64 (most : Int)] w fun e W' => ∃ A C, e = .returned (.slice A 0 C) ∧ Below w.heap.size w W' := by
  refine (chunks_core nP (.inl rfl) k m most hm0 hm1 w (fun pre W => pre = [] ∧ Below w.heap.size w W) (fun pre W => pre = [] ∧ Below w.heap.size w W) (fun _ => 0) (fun _ => 0)
    (fun pre A B h hb => ⟨h.1, h.2.trans hb⟩) (fun pre A B h hb => ⟨h.1, h.2.trans hb⟩) (fun pre A h => h.2.size) (fun pre A h => h.2.size) (fun _ _ _ => rfl) ?_ ⟨rfl, Below.refl _ _⟩).mono ?_
  · rintro pre W ⟨h1, h2⟩
    refine (read_nil k m W).mono ?_
    rintro e W' ⟨rfl, rfl⟩
    exact ⟨⟨Nat.le_refl _, fun _ _ _ => rfl⟩, (.slice none 0 0, []), 6, ⟨none, 0, rfl⟩, rfl, .inl ⟨rfl, h1, h2⟩⟩
  · rintro e W' ⟨v, xs, rfl, h1, _, h3⟩
    have hx : xs = [] ∧ Below w.heap.size w W' := by rcases h3 with ⟨h, _⟩ | ⟨h, _⟩ <;> exact h
    obtain ⟨rfl, hb⟩ := hx
    obtain ⟨_, ⟨rfl, _⟩ | ⟨g, cap, cur, rfl, _⟩⟩ := h1
    · exact ⟨_, _, rfl, hb⟩
    · exact ⟨_, _, rfl, hb⟩
set_option maxHeartbeats 4000000 in
theorem nil_chunks9 (dd k m st : Int) (Bv : Nat) (v : Value) (p : List UInt8) (hv : Sl w Bv v p) (hBv : Bv ≤ w.heap.size) (hdd : 0 ≤ dd ∧ dd ≤ 255) (hr : dd % 11 = 9) (hst : 0 ≤ st ∧ st ≤ 255) :
    Calls Tryd.prog 8 #[nP, nP, .agg #[.int .u8 dd, .int .i64 k, v, .int .i64 m, .int .u8 st]] w fun e w' => e = .returned (.bool true) ∧ Below w.heap.size w w' := by
  obtain ⟨hd0, hd1⟩ := hdd
  obtain ⟨PA, PC, rfl, _, _, _, _⟩ := id hv
  obtain ⟨W0, hW0⟩ : ∃ W, W = w.alloc (.cells #[.int .u8 dd, .int .i64 k, .slice PA p.length PC, .int .i64 m, .int .u8 st] 36) := ⟨_, rfl⟩
  have hB0 : Below w.heap.size w W0 := by rw [hW0]; exact (Below.refl _ _).alloc (Nat.le_refl _) _
  have hK0 : Blk W0 w.heap.size [.int .u8 dd, .int .i64 k, .slice PA p.length PC, .int .i64 m, .int .u8 st] := by rw [hW0]; exact Blk.newA w #[.int .u8 dd, .int .i64 k, .slice PA p.length PC, .int .i64 m, .int .u8 st] _
  have hz0 : W0.heap.size = w.heap.size + 1 := by rw [hW0]; simp
  obtain ⟨L, hL⟩ : ∃ L, L = p.take 300 := ⟨_, rfl⟩
  have hL3 : L.length ≤ 300 := by rw [hL, List.length_take]; omega
  have HCut := Lib.hid (cut_any Bv (.slice PA p.length PC) p 300 W0 (hv.below hB0 (by omega)) (by omega) (by omega) (by omega))
  rw [show p.take (300 : Int).toNat = L from hL.symm] at HCut
  have HB0 := Lib.hid hB0
  have HK0 := Lib.hid hK0
  clear hL hB0 hK0 hv
  go_enter Tryd.func8, Tryd.ntmps8
  go_wp2_with fail
  rw [← hW0]
  clear hW0
  refine HCut.out.mono ?_
  rintro e w1 ⟨v1, rfl, hO1, hB1⟩
  have hz1 := hB1.size
  have HB1 := Lib.hid (HB0.out.trans (hB1.mono (by omega)))
  have HK1 := Lib.hid (HK0.out.below hB1 (by omega))
  have HO1 := Lib.hid hO1
  obtain ⟨A1, C1, rfl, _, _, _, _⟩ := hO1.sl
  clear hO1 hB1 HCut HK0
  go_wp2_with fail
  refine (copy_any w1.heap.size _ L w1 HO1.out.sl (Nat.le_refl _) (by omega)).mono ?_
  rintro e w2 ⟨v2, rfl, hO2, hB2⟩
  have hz2 := hB2.size
  have HB2 := Lib.hid (HB1.out.trans (hB2.mono (by omega)))
  have HK2 := Lib.hid (HK1.out.below hB2 (by omega))
  have HO2 := Lib.hid hO2
  have HO12 := Lib.hid (HO1.out.below hB2)
  obtain ⟨A2, C2, rfl, _, _, _, _⟩ := hO2.sl
  have d0 := HK2.out.at (o := 0) rfl
  have d1 := HK2.out.at (o := 1) rfl
  have d3 := HK2.out.at (o := 3) rfl
  have d4 := HK2.out.at (o := 4) rfl
  clear hO2 hB2 HK1 HO1
  obtain ⟨q, hq⟩ : ∃ q, st % 5 = q := ⟨_, rfl⟩
  have hq0 : 0 ≤ q ∧ q ≤ 4 := by omega
  obtain ⟨M, hM⟩ : ∃ M : Nat, 1 + q = (M : Int) := ⟨(1 + q).toNat, by omega⟩
  have hM1 : 1 ≤ M ∧ M ≤ 5 := by omega
  obtain ⟨hq0, hq1⟩ := hq0
  obtain ⟨hM0, hM1⟩ := hM1
  have HCh := Lib.hid (chunks_nil k m M hM0 (by omega) w2)
  have HR2 := Lib.hid (fun W => rRead_nil k m W)
  go_wp2_with fail
  refine HCh.out.mono ?_
  rintro e w3 ⟨RA, RC, rfl, hB3⟩
  have HB3 := Lib.hid (HB2.out.trans (hB3.mono HB2.out.size))
  have HK3 := Lib.hid (HK2.out.below hB3 (by omega))
  have e1 := HK3.out.at (o := 1) rfl
  have e3 := HK3.out.at (o := 3) rfl
  clear hB3 HK2 d0 d1 d3 d4 hq hM
  go_wp2_with fail
  go_loopw [16, 17, 18, 98] (fun _ _ _ i wr => i = .int .i64 0 ∧ wr = w3) (fun _ _ _ _ _ => 0)
  case atStart => exact ⟨rfl, rfl⟩
  case round =>
    obtain ⟨rfl, rfl⟩ := hrel
    have hlt : (0 : Int) < (M : Int) := by omega
    go_wp2_with fail
    refine (HR2.out _).mono ?_
    rintro e w5 ⟨rfl, rfl⟩
    go_wp2_with fail
    go_ret
    exact ⟨rfl, HB3.out⟩
set_option maxHeartbeats 4000000 in
theorem nil_chunks10 (dd k m st : Int) (Bv : Nat) (v : Value) (p : List UInt8) (hv : Sl w Bv v p) (hBv : Bv ≤ w.heap.size) (hdd : 0 ≤ dd ∧ dd ≤ 255) (hr : dd % 11 = 10) (hst : 0 ≤ st ∧ st ≤ 255) :
    Calls Tryd.prog 8 #[nP, nP, .agg #[.int .u8 dd, .int .i64 k, v, .int .i64 m, .int .u8 st]] w fun e w' => e = .returned (.bool true) ∧ Below w.heap.size w w' := by
  obtain ⟨hd0, hd1⟩ := hdd
  obtain ⟨PA, PC, rfl, _, _, _, _⟩ := id hv
  obtain ⟨W0, hW0⟩ : ∃ W, W = w.alloc (.cells #[.int .u8 dd, .int .i64 k, .slice PA p.length PC, .int .i64 m, .int .u8 st] 36) := ⟨_, rfl⟩
  have hB0 : Below w.heap.size w W0 := by rw [hW0]; exact (Below.refl _ _).alloc (Nat.le_refl _) _
  have hK0 : Blk W0 w.heap.size [.int .u8 dd, .int .i64 k, .slice PA p.length PC, .int .i64 m, .int .u8 st] := by rw [hW0]; exact Blk.newA w #[.int .u8 dd, .int .i64 k, .slice PA p.length PC, .int .i64 m, .int .u8 st] _
  have hz0 : W0.heap.size = w.heap.size + 1 := by rw [hW0]; simp
  obtain ⟨L, hL⟩ : ∃ L, L = p.take 300 := ⟨_, rfl⟩
  have hL3 : L.length ≤ 300 := by rw [hL, List.length_take]; omega
  have HCut := Lib.hid (cut_any Bv (.slice PA p.length PC) p 300 W0 (hv.below hB0 (by omega)) (by omega) (by omega) (by omega))
  rw [show p.take (300 : Int).toNat = L from hL.symm] at HCut
  have HB0 := Lib.hid hB0
  have HK0 := Lib.hid hK0
  clear hL hB0 hK0 hv
  go_enter Tryd.func8, Tryd.ntmps8
  go_wp2_with fail
  rw [← hW0]
  clear hW0
  refine HCut.out.mono ?_
  rintro e w1 ⟨v1, rfl, hO1, hB1⟩
  have hz1 := hB1.size
  have HB1 := Lib.hid (HB0.out.trans (hB1.mono (by omega)))
  have HK1 := Lib.hid (HK0.out.below hB1 (by omega))
  have HO1 := Lib.hid hO1
  obtain ⟨A1, C1, rfl, _, _, _, _⟩ := hO1.sl
  clear hO1 hB1 HCut HK0
  go_wp2_with fail
  refine (copy_any w1.heap.size _ L w1 HO1.out.sl (Nat.le_refl _) (by omega)).mono ?_
  rintro e w2 ⟨v2, rfl, hO2, hB2⟩
  have hz2 := hB2.size
  have HB2 := Lib.hid (HB1.out.trans (hB2.mono (by omega)))
  have HK2 := Lib.hid (HK1.out.below hB2 (by omega))
  have HO2 := Lib.hid hO2
  have HO12 := Lib.hid (HO1.out.below hB2)
  obtain ⟨A2, C2, rfl, _, _, _, _⟩ := hO2.sl
  have d0 := HK2.out.at (o := 0) rfl
  have d1 := HK2.out.at (o := 1) rfl
  have d3 := HK2.out.at (o := 3) rfl
  have d4 := HK2.out.at (o := 4) rfl
  clear hO2 hB2 HK1 HO1
  obtain ⟨q, hq⟩ : ∃ q, st % 5 = q := ⟨_, rfl⟩
  have hq0 : 0 ≤ q ∧ q ≤ 4 := by omega
  obtain ⟨M, hM⟩ : ∃ M : Nat, 1 + q = (M : Int) := ⟨(1 + q).toNat, by omega⟩
  have hM1 : 1 ≤ M ∧ M ≤ 5 := by omega
  obtain ⟨hq0, hq1⟩ := hq0
  obtain ⟨hM0, hM1⟩ := hM1
  have HCh := Lib.hid (chunks_nil k m M hM0 (by omega) w2)
  have HR2 := Lib.hid (fun W => rRead_nil k m W)
  go_wp2_with fail
  refine HCh.out.mono ?_
  rintro e w3 ⟨RA, RC, rfl, hB3⟩
  have HB3 := Lib.hid (HB2.out.trans (hB3.mono HB2.out.size))
  have HK3 := Lib.hid (HK2.out.below hB3 (by omega))
  have e1 := HK3.out.at (o := 1) rfl
  have e3 := HK3.out.at (o := 3) rfl
  clear hB3 HK2 d0 d1 d3 d4 hq hM
  go_wp2_with fail
  go_loopw [16, 17, 18, 98] (fun _ _ _ i wr => i = .int .i64 0 ∧ wr = w3) (fun _ _ _ _ _ => 0)
  case atStart => exact ⟨rfl, rfl⟩
  case round =>
    obtain ⟨rfl, rfl⟩ := hrel
    have hlt : (0 : Int) < (M : Int) := by omega
    go_wp2_with fail
    refine (HR2.out _).mono ?_
    rintro e w5 ⟨rfl, rfl⟩
    go_wp2_with fail
    go_ret
    exact ⟨rfl, HB3.out⟩
theorem same_nil (w : World) : Calls Tryd.prog 9 #[nP, nP] w fun e w' => e = .returned (.bool true) ∧ Below w.heap.size w w' := by
  have HR1 := Lib.hid (fun W => over_nil W)
  have HR2 := Lib.hid (fun W => rOver_nil W)
  have HLk := Lib.hid (fun k W => look_nil k W)
  have HRm := Lib.hid (fun k W => room_nil k W)
  go_enter Tryd.func9, Tryd.ntmps9
  go_wp2_with fail
  refine (HR1.out _).mono ?_
  rintro e w1 ⟨rfl, rfl⟩
  go_wp2_with fail
  refine (HR2.out _).mono ?_
  rintro e w2 ⟨rfl, rfl⟩
  go_wp2_with fail
  go_loopw [5, 6, 7, 17] (fun _ _ _ i wr => ∃ j : Nat, j ≤ 2 ∧ i = .int .i64 (j : Int) ∧ Below w2.heap.size w2 wr) (fun _ _ _ i _ => 2 - (intOf i).toNat)
  case atStart => exact ⟨0, by omega, rfl, Below.refl _ _⟩
  case round =>
    obtain ⟨j, hj, rfl, hb⟩ := hrel
    have HB := Lib.hid hb
    clear hb
    by_cases hlt : j < 2
    · have hlt' : (j : Int) < 2 := by omega
      go_wp2_with fail
      refine (HLk.out _ _).mono ?_
      rintro e w3 ⟨rfl, hB3⟩
      have hbw3 := HB.out.trans (hB3.mono HB.out.size)
      have HBo := Lib.hid (fun (o : Obj) => hbw3.alloc hbw3.size o)
      clear hB3 hbw3
      unfold wzero
      go_wp2_with fail
      refine (HRm.out _ _).mono ?_
      rintro e w4 ⟨rfl, rfl⟩
      go_wp2_with fail
      exact ⟨⟨j + 1, by omega, by go_num, HBo.out _⟩, by simp [intOf]; omega⟩
    · obtain rfl : j = 2 := by omega
      go_wp2_with fail
      refine (HLk.out _ _).mono ?_
      rintro e w3 ⟨rfl, hB3⟩
      have hbw3 := HB.out.trans (hB3.mono HB.out.size)
      have HBo := Lib.hid (fun (o : Obj) => hbw3.alloc hbw3.size o)
      clear hB3 hbw3
      unfold wzero
      go_wp2_with fail
      refine (HRm.out _ _).mono ?_
      rintro e w4 ⟨rfl, rfl⟩
      go_wp2_with fail
      go_ret
      exact ⟨rfl, HBo.out _⟩
/-- do on nil ones, whatever is to be done. -/
theorem nil_do (dd k m st : Int) (Bv : Nat) (v : Value) (p : List UInt8) (hv : Sl w Bv v p) (hBv : Bv ≤ w.heap.size) (hdd : 0 ≤ dd ∧ dd ≤ 255) (hst : 0 ≤ st ∧ st ≤ 255) :
    Calls Tryd.prog 8 #[nP, nP, .agg #[.int .u8 dd, .int .i64 k, v, .int .i64 m, .int .u8 st]] w fun e w' => e = .returned (.bool true) ∧ Below w.heap.size w w' := by
  rcases (show dd % 11 = 0 ∨ dd % 11 = 1 ∨ dd % 11 = 2 ∨ dd % 11 = 3 ∨ dd % 11 = 4 ∨ dd % 11 = 5 ∨ dd % 11 = 6 ∨ dd % 11 = 7 ∨ dd % 11 = 8 ∨ dd % 11 = 9 ∨ dd % 11 = 10 by omega) with h | h | h | h | h | h | h | h | h | h | h
  · exact nil_write0 dd k m st Bv v p hv hBv hdd h
  · exact nil_write1 dd k m st Bv v p hv hBv hdd h
  · exact nil_write2 dd k m st Bv v p hv hBv hdd h
  · exact nil_write3 dd k m st Bv v p hv hBv hdd h
  · exact nil_read4 dd k m st Bv v p hv hBv hdd h
  · exact nil_read5 dd k m st Bv v p hv hBv hdd h
  · exact nil_read6 dd k m st Bv v p hv hBv hdd h
  · exact nil_shut dd k m st Bv v p hv hBv hdd h
  · exact nil_cut dd k m st Bv v p hv hBv hdd h
  · exact nil_chunks9 dd k m st Bv v p hv hBv hdd h hst
  · exact nil_chunks10 dd k m st Bv v p hv hBv hdd h hst
end
end Go.Proofs.YtlobmffcnobgeaaDoor
