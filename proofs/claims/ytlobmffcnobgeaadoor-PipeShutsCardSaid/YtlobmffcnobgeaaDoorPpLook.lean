/- pipe: Look. -/
import Derived.Test.YtlobmffcnobgeaaDoorPpNew
import Derived.Test.YtlobmffcnobgeaaDoorHashLen
set_option maxRecDepth 100000
namespace Go.Proofs.YtlobmffcnobgeaaDoor
open Go.RowKit
attribute [local go_sem] Oper.semAt_some
theorem sumM_any (hb : Nat) (m : List UInt8) (w : World) (h : HashM w hb m) (hT : TabA w) :
    Calls Tryd.prog 32 #[.pointer (some ⟨hb, 0, none⟩)] w fun e w' => ∃ v', e = .returned v' ∧ OwnB w' w.heap.size v' (sumL m) ∧ Below w.heap.size w w' := by
  refine (sumH_any hb _ _ _ w h hT).mono ?_
  rintro e w' ⟨v', he, hO, hB⟩
  rw [stOf_feed] at hO
  unfold sumL
  exact ⟨v', he, hO, hB⟩
theorem lenM_any (hb : Nat) (m : List UInt8) (w : World) (h : HashM w hb m) :
    Calls Tryd.prog 31 #[.pointer (some ⟨hb, 0, none⟩)] w fun e w' => e = .returned (.int .u64 (un m.length)) ∧ w = w' := by
  unfold HashM at h
  exact len_any hb _ _ _ w h
def wzero : Value := .agg #[.int .i64 0, .bool false, .int .u64 0, .int .u64 0, .slice none 0 0]
theorem look_nil (k : Int) (w : World) : Calls Tryd.prog 10 #[.pointer none, .int .i64 k] w fun e w' => e = .returned (.tuple #[wzero, .int .i64 6]) ∧ Below w.heap.size w w' := by
  have HD := Lib.hid (fun W => dir_nil k W)
  have HB := Lib.hid (fun (o : Obj) => (Below.refl w.heap.size w).alloc (Nat.le_refl _) o)
  go_enter Tryd.func10, Tryd.ntmps10
  go_wp2_with fail
  refine (HD.out _).mono ?_
  rintro e w' ⟨rfl, rfl⟩
  go_wp2_with fail
  refine bodyPost_ret (v := .tuple #[wzero, .int .i64 6]) (by simp [results, Tryd.results10, go_sem, wzero]) rfl ⟨rfl, HB.out _⟩
theorem look_bad (b : Nat) (k : Int) (hk : k ≠ 0 ∧ k ≠ 1) (w : World) : Calls Tryd.prog 10 #[tP b, .int .i64 k] w fun e w' => e = .returned (.tuple #[wzero, .int .i64 1]) ∧ Below w.heap.size w w' := by
  have HD := Lib.hid (fun W => dir_bad b k hk W)
  clear hk
  have HB := Lib.hid (fun (o : Obj) => (Below.refl w.heap.size w).alloc (Nat.le_refl _) o)
  go_enter Tryd.func10, Tryd.ntmps10
  go_wp2_with fail
  refine (HD.out _).mono ?_
  rintro e w' ⟨rfl, rfl⟩
  go_wp2_with fail
  refine bodyPost_ret (v := .tuple #[wzero, .int .i64 1]) (by simp [results, Tryd.results10, go_sem, wzero]) rfl ⟨rfl, HB.out _⟩
section
variable {w w' : World} {base b room : Nat} {V : Nat → Value} {H : Nat → Nat} {X : Nat → WayL}
/-- What Look tells of a direction; the sum lies at v. -/
def lookV (x : WayL) (v : Value) : Value := .agg #[.int .i64 (x.buf.length : Int), .bool x.shut, .int .u64 (un x.wrote), .int .u64 (un x.read.length), v]
set_option maxHeartbeats 2000000 in
theorem look_0 (h : PP w base b room V H X) :
    Calls Tryd.prog 10 #[tP b, .int .i64 0] w fun e w' => ∃ v, e = .returned (.tuple #[lookV (X 0) v, .int .i64 0]) ∧ OwnB w' w.heap.size v (sumL (X 0).read) ∧ Below w.heap.size w w' := by
  have HD := Lib.hid (fun W => dir_ok b 0 (by omega) W)
  obtain ⟨VA, VC, hV, _, _, _, _⟩ := (h.own 0 (by omega)).sl
  obtain ⟨W, hW⟩ : ∃ W, W = w.alloc (.cells #[.int .i64 0, .bool false, .int .u64 0, .int .u64 0, .slice none 0 0] 43) := ⟨_, rfl⟩
  have hB0 : Below w.heap.size w W := by rw [hW]; exact (Below.refl _ _).alloc (Nat.le_refl _) _
  have hR0 : Blk W w.heap.size [.int .i64 0, .bool false, .int .u64 0, .int .u64 0, .slice none 0 0] := by rw [hW]; exact Blk.newA w #[.int .i64 0, .bool false, .int .u64 0, .int .u64 0, .slice none 0 0] _
  have hz0 : W.heap.size = w.heap.size + 1 := by rw [hW]; simp
  have h1 := h.below hB0
  obtain ⟨N, hN⟩ : ∃ N, N = (X 0).buf.length := ⟨_, rfl⟩
  obtain ⟨sh, hsh⟩ : ∃ s, s = (X 0).shut := ⟨_, rfl⟩
  obtain ⟨T, hT⟩ : ∃ T, T = (X 0).wrote := ⟨_, rfl⟩
  obtain ⟨M, hM⟩ : ∃ M, M = (X 0).read := ⟨_, rfl⟩
  unfold lookV
  rw [← hN, ← hsh, ← hT, ← hM]
  rw [← hN] at hV
  have hblt := h.blk.lt
  have hhlt := (h.hash 0 (by omega)).lt
  obtain ⟨g, hg⟩ : ∃ g, g = H 0 := ⟨_, rfl⟩
  have hcells : W.cell? ⟨b, 1, none⟩ = some (.slice VA N VC) ∧ W.cell? ⟨b, 2, none⟩ = some (.bool sh) ∧ W.cell? ⟨b, 3, none⟩ = some (.int .u64 (un T)) ∧ W.cell? ⟨b, 4, none⟩ = some (tP g) := by
    refine ⟨?_, ?_, ?_, ?_⟩
    · rw [← hV]; exact h1.blk.at (o := 1) rfl
    · rw [hsh]; exact h1.blk.at (o := 2) rfl
    · rw [hT]; exact h1.blk.at (o := 3) rfl
    · rw [hg]; exact h1.blk.at (o := 4) rfl
  have HCC := Lib.hid hcells
  have hh1 : HashM W g M := by rw [hM, hg]; exact h1.hash 0 (by omega)
  have hh2 : HashM W.drew g M := hh1.below (Below.refl W.heap.size W).drew hh1.lt
  have HLen := Lib.hid (lenM_any g M W.drew hh2)
  have HSum := Lib.hid (sumM_any g M W.drew hh2 h1.tab)
  have HR := Lib.hid hR0; clear hR0
  have HB0 := Lib.hid hB0; clear hB0
  clear h h1 hcells hN hsh hT hM hg hV hh1 hh2
  go_enter Tryd.func10, Tryd.ntmps10
  go_wp2_with fail
  rw [← hW]
  refine (HD.out W).mono ?_
  rintro e w' ⟨rfl, rfl⟩
  clear hW
  go_wp2_with fail
  refine wp_region_noPanic ?_
  refine wp_region_held (S := fun W' => W'.cell? ⟨b, 1, none⟩ = some (.slice VA N VC) ∧ W'.cell? ⟨b, 2, none⟩ = some (.bool sh) ∧ W'.cell? ⟨b, 3, none⟩ = some (.int .u64 (un T)) ∧ W'.cell? ⟨b, 4, none⟩ = some (tP g)) (by kernel_rfl) ?_
  change wpAnyH _ _ _ _ _ _ _ _ w'.drew
  have HS := Lib.hid (show w'.drew.cell? ⟨b, 1, none⟩ = some (.slice VA N VC) ∧ w'.drew.cell? ⟨b, 2, none⟩ = some (.bool sh) ∧ w'.drew.cell? ⟨b, 3, none⟩ = some (.int .u64 (un T)) ∧ w'.drew.cell? ⟨b, 4, none⟩ = some (tP g) from HCC.out)
  refine takeH 0 18 (dirP b 0) rfl rfl (by kernel_rfl) (by kernel_rfl) (by kernel_rfl) (fun _ _ _ h => h) rfl (fun w' h => by obtain ⟨z0, z1, z2, z3⟩ := h; go_simp) HS.out ?_
  go_frame
  refine takeH 1 19 (.pointer (some ⟨b, 1, none⟩)) rfl rfl (by kernel_rfl) (by kernel_rfl) (by kernel_rfl) (fun _ _ _ h => h) rfl (fun w' h => by obtain ⟨z0, z1, z2, z3⟩ := h; go_simp) HS.out ?_
  go_frame
  refine takeH 2 20 (.pointer (some ⟨b, 1, none⟩)) rfl rfl (by kernel_rfl) (by kernel_rfl) (by kernel_rfl) (fun _ _ _ h => h) rfl (fun w' h => by obtain ⟨z0, z1, z2, z3⟩ := h; go_simp) HS.out ?_
  go_frame
  refine takeH 3 21 (.slice VA N VC) rfl rfl (by kernel_rfl) (by kernel_rfl) (by kernel_rfl) (fun _ _ _ h => h) rfl (fun w' h => by obtain ⟨z0, z1, z2, z3⟩ := h; go_simp) HS.out ?_
  go_frame
  refine takeH 4 22 (.int .i64 (N : Int)) rfl rfl (by kernel_rfl) (by kernel_rfl) (by kernel_rfl) (fun _ _ _ h => h) rfl (fun w' h => by obtain ⟨z0, z1, z2, z3⟩ := h; go_simp) HS.out ?_
  go_frame
  refine takeH 5 23 (dirP b 0) rfl rfl (by kernel_rfl) (by kernel_rfl) (by kernel_rfl) (fun _ _ _ h => h) rfl (fun w' h => by obtain ⟨z0, z1, z2, z3⟩ := h; go_simp) HS.out ?_
  go_frame
  refine takeH 6 24 (.pointer (some ⟨b, 1, none⟩)) rfl rfl (by kernel_rfl) (by kernel_rfl) (by kernel_rfl) (fun _ _ _ h => h) rfl (fun w' h => by obtain ⟨z0, z1, z2, z3⟩ := h; go_simp) HS.out ?_
  go_frame
  refine takeH 7 25 (.pointer (some ⟨b, 2, none⟩)) rfl rfl (by kernel_rfl) (by kernel_rfl) (by kernel_rfl) (fun _ _ _ h => h) rfl (fun w' h => by obtain ⟨z0, z1, z2, z3⟩ := h; go_simp) HS.out ?_
  go_frame
  refine takeH 8 26 (.bool sh) rfl rfl (by kernel_rfl) (by kernel_rfl) (by kernel_rfl) (fun _ _ _ h => h) rfl (fun w' h => by obtain ⟨z0, z1, z2, z3⟩ := h; go_simp) HS.out ?_
  go_frame
  refine takeH 9 27 (dirP b 0) rfl rfl (by kernel_rfl) (by kernel_rfl) (by kernel_rfl) (fun _ _ _ h => h) rfl (fun w' h => by obtain ⟨z0, z1, z2, z3⟩ := h; go_simp) HS.out ?_
  go_frame
  refine takeH 10 28 (.pointer (some ⟨b, 1, none⟩)) rfl rfl (by kernel_rfl) (by kernel_rfl) (by kernel_rfl) (fun _ _ _ h => h) rfl (fun w' h => by obtain ⟨z0, z1, z2, z3⟩ := h; go_simp) HS.out ?_
  go_frame
  refine takeH 11 29 (.pointer (some ⟨b, 3, none⟩)) rfl rfl (by kernel_rfl) (by kernel_rfl) (by kernel_rfl) (fun _ _ _ h => h) rfl (fun w' h => by obtain ⟨z0, z1, z2, z3⟩ := h; go_simp) HS.out ?_
  go_frame
  refine takeH 12 30 (.int .u64 (un T)) rfl rfl (by kernel_rfl) (by kernel_rfl) (by kernel_rfl) (fun _ _ _ h => h) rfl (fun w' h => by obtain ⟨z0, z1, z2, z3⟩ := h; go_simp) HS.out ?_
  go_frame
  refine takeH 13 31 (dirP b 0) rfl rfl (by kernel_rfl) (by kernel_rfl) (by kernel_rfl) (fun _ _ _ h => h) rfl (fun w' h => by obtain ⟨z0, z1, z2, z3⟩ := h; go_simp) HS.out ?_
  go_frame
  refine takeH 14 32 (.pointer (some ⟨b, 1, none⟩)) rfl rfl (by kernel_rfl) (by kernel_rfl) (by kernel_rfl) (fun _ _ _ h => h) rfl (fun w' h => by obtain ⟨z0, z1, z2, z3⟩ := h; go_simp) HS.out ?_
  go_frame
  refine takeH 15 33 (.pointer (some ⟨b, 4, none⟩)) rfl rfl (by kernel_rfl) (by kernel_rfl) (by kernel_rfl) (fun _ _ _ h => h) rfl (fun w' h => by obtain ⟨z0, z1, z2, z3⟩ := h; go_simp) HS.out ?_
  go_frame
  refine takeH 16 34 (tP g) rfl rfl (by kernel_rfl) (by kernel_rfl) (by kernel_rfl) (fun _ _ _ h => h) rfl (fun w' h => by obtain ⟨z0, z1, z2, z3⟩ := h; go_simp) HS.out ?_
  go_frame
  refine takeH 18 36 (dirP b 0) rfl rfl (by kernel_rfl) (by kernel_rfl) (by kernel_rfl) (fun _ _ _ h => h) rfl (fun w' h => by obtain ⟨z0, z1, z2, z3⟩ := h; go_simp) HS.out ?_
  go_frame
  refine takeH 19 37 (.pointer (some ⟨b, 1, none⟩)) rfl rfl (by kernel_rfl) (by kernel_rfl) (by kernel_rfl) (fun _ _ _ h => h) rfl (fun w' h => by obtain ⟨z0, z1, z2, z3⟩ := h; go_simp) HS.out ?_
  go_frame
  refine takeH 20 38 (.pointer (some ⟨b, 4, none⟩)) rfl rfl (by kernel_rfl) (by kernel_rfl) (by kernel_rfl) (fun _ _ _ h => h) rfl (fun w' h => by obtain ⟨z0, z1, z2, z3⟩ := h; go_simp) HS.out ?_
  go_frame
  refine takeH 21 39 (tP g) rfl rfl (by kernel_rfl) (by kernel_rfl) (by kernel_rfl) (fun _ _ _ h => h) rfl (fun w' h => by obtain ⟨z0, z1, z2, z3⟩ := h; go_simp) HS.out ?_
  go_frame
  refine wpAnyH_all (rs := [17]) (by kernel_rfl) (by simp) ?_
  simp only [List.mem_singleton, forall_eq]
  refine wpOp_callD 35 rfl rfl rfl 31 #[tP g] (by go_simp) ?_
  refine HLen.out.mono ?_
  rintro e w2 ⟨rfl, rfl⟩
  refine ⟨_, rfl, HS.out, ?_⟩
  go_frame
  refine wpAnyH_all (rs := [22]) (by kernel_rfl) (by simp) ?_
  simp only [List.mem_singleton, forall_eq]
  refine wpOp_callD 40 rfl rfl rfl 32 #[tP g] (by go_simp) ?_
  refine HSum.out.mono ?_
  rintro e w3 ⟨v3, rfl, hO3, hB3⟩
  obtain ⟨SA, SC, rfl, _, _, _, _⟩ := hO3.sl
  obtain ⟨SN, hSN⟩ : ∃ n, n = (sumL M).length := ⟨_, rfl⟩
  rw [← hSN] at hO3 ⊢
  clear hSN
  have hb3 : Below w'.heap.size w' w3 := ⟨hB3.os, hB3.tape, hB3.output, hB3.size, hB3.block⟩
  have HS3 := Lib.hid (show w3.cell? ⟨b, 1, none⟩ = some (.slice VA N VC) ∧ w3.cell? ⟨b, 2, none⟩ = some (.bool sh) ∧ w3.cell? ⟨b, 3, none⟩ = some (.int .u64 (un T)) ∧ w3.cell? ⟨b, 4, none⟩ = some (tP g) from by
    have hl : b < w'.heap.size := by omega
    exact ⟨(hb3.cell (p := ⟨b, 1, none⟩) hl).trans HCC.out.1, (hb3.cell (p := ⟨b, 2, none⟩) hl).trans HCC.out.2.1, (hb3.cell (p := ⟨b, 3, none⟩) hl).trans HCC.out.2.2.1, (hb3.cell (p := ⟨b, 4, none⟩) hl).trans HCC.out.2.2.2⟩)
  refine ⟨_, rfl, HS3.out, ?_⟩
  go_frame
  refine takeH 23 41 (.agg #[.int .i64 (N : Int), .bool sh, .int .u64 (un T), .int .u64 (un M.length), .slice SA SN SC]) rfl rfl (by kernel_rfl) (by kernel_rfl) (by kernel_rfl) (fun _ _ _ h => h) rfl (fun w' h => by go_simp) HS3.out ?_
  go_frame
  refine wpAnyH_all (rs := [24]) (by kernel_rfl) (by simp) ?_
  simp only [List.mem_singleton, forall_eq]
  obtain ⟨ws, hws⟩ : ∃ ws : List Value, ws = [.int .i64 (N : Int), .bool sh, .int .u64 (un T), .int .u64 (un M.length), .slice SA SN SC] := ⟨_, rfl⟩
  have hk3 : Blk w3 w.heap.size [.int .i64 0, .bool false, .int .u64 0, .int .u64 0, .slice none 0 0] := HR.out.below hb3 (by omega)
  have hgs := grown_setCells w.heap.size ws w3 0
  have HS4 := Lib.hid (show (w3.setCells w.heap.size 0 ws).cell? ⟨b, 1, none⟩ = some (.slice VA N VC) ∧ (w3.setCells w.heap.size 0 ws).cell? ⟨b, 2, none⟩ = some (.bool sh) ∧ (w3.setCells w.heap.size 0 ws).cell? ⟨b, 3, none⟩ = some (.int .u64 (un T)) ∧ (w3.setCells w.heap.size 0 ws).cell? ⟨b, 4, none⟩ = some (tP g) from by
    have hne : some b ≠ some w.heap.size := by intro e; have := Option.some.inj e; omega
    exact ⟨hgs.cell HS3.out.1 hne, hgs.cell HS3.out.2.1 hne, hgs.cell HS3.out.2.2.1 hne, hgs.cell HS3.out.2.2.2 hne⟩)
  have HK4 := Lib.hid (show Blk (w3.setCells w.heap.size 0 ws) w.heap.size ws from hk3.setAll (by rw [hws]; rfl))
  have HO4 := Lib.hid (show OwnB (w3.setCells w.heap.size 0 ws) w.heap.size (.slice SA SN SC) (sumL M) from by
    have h0 : w.heap.size < w'.drew.heap.size := by show w.heap.size < w'.heap.size; omega
    exact (hO3.lower (Nat.le_of_lt h0)).kept hgs (.inr (by intro e; have := (hO3.lt _ e).1; omega)))
  have HB4 := Lib.hid (show Below w.heap.size w (w3.setCells w.heap.size 0 ws) from below_setCells (Nat.le_refl _) _ (HB0.out.trans (hb3.mono (by omega))) 0)
  have hth := hk3.there 0 5 (by decide)
  refine wpOp_storeN rfl rfl rfl 43 (.tmp 4) (.tmp 41) rfl w.heap.size 0 #[.int .i64 (N : Int), .bool sh, .int .u64 (un T), .int .u64 (un M.length), .slice SA SN SC] rfl rfl hth (by kernel_rfl) (by simp [Value.oneCell']) ?_
  rw [show (#[.int .i64 (N : Int), .bool sh, .int .u64 (un T), .int .u64 (un M.length), .slice SA SN SC] : Array Value).toList = ws from hws.symm]
  refine ⟨HS4.out, ?_⟩
  refine takeH 25 5 (.int .i64 0) rfl rfl (by kernel_rfl) (by kernel_rfl) (by kernel_rfl) (fun _ _ _ h => h) rfl (fun w' h => by go_simp) HS4.out ?_
  go_frame
  refine wpAnyH_done (by kernel_rfl) ?_ _
  refine NoPanic.normal ?_
  obtain ⟨W5, hW5⟩ : ∃ W5, W5 = w3.setCells w.heap.size 0 ws := ⟨_, rfl⟩
  rw [← hW5] at HK4 HO4 HB4 ⊢
  have hk5 := HK4.out
  rw [hws] at hk5
  have i0 := hk5.at (o := 0) rfl
  have i1 := hk5.at (o := 1) rfl
  have i2 := hk5.at (o := 2) rfl
  have i3 := hk5.at (o := 3) rfl
  have i4 := hk5.at (o := 4) rfl
  clear hk5 hgs hth hW5 HS4 HS3 hk3 hO3 hB3 hb3 HS
  go_wp2_with fail
  refine bodyPost_ret (v := .tuple #[.agg #[.int .i64 (N : Int), .bool sh, .int .u64 (un T), .int .u64 (un M.length), .slice SA SN SC], .int .i64 0]) (by simp [results, Tryd.results10, go_sem, i0, i1, i2, i3, i4]) rfl ⟨_, rfl, HO4.out, HB4.out⟩
set_option maxHeartbeats 2000000 in
theorem look_1 (h : PP w base b room V H X) :
    Calls Tryd.prog 10 #[tP b, .int .i64 1] w fun e w' => ∃ v, e = .returned (.tuple #[lookV (X 1) v, .int .i64 0]) ∧ OwnB w' w.heap.size v (sumL (X 1).read) ∧ Below w.heap.size w w' := by
  have HD := Lib.hid (fun W => dir_ok b 1 (by omega) W)
  obtain ⟨VA, VC, hV, _, _, _, _⟩ := (h.own 1 (by omega)).sl
  obtain ⟨W, hW⟩ : ∃ W, W = w.alloc (.cells #[.int .i64 0, .bool false, .int .u64 0, .int .u64 0, .slice none 0 0] 43) := ⟨_, rfl⟩
  have hB0 : Below w.heap.size w W := by rw [hW]; exact (Below.refl _ _).alloc (Nat.le_refl _) _
  have hR0 : Blk W w.heap.size [.int .i64 0, .bool false, .int .u64 0, .int .u64 0, .slice none 0 0] := by rw [hW]; exact Blk.newA w #[.int .i64 0, .bool false, .int .u64 0, .int .u64 0, .slice none 0 0] _
  have hz0 : W.heap.size = w.heap.size + 1 := by rw [hW]; simp
  have h1 := h.below hB0
  obtain ⟨N, hN⟩ : ∃ N, N = (X 1).buf.length := ⟨_, rfl⟩
  obtain ⟨sh, hsh⟩ : ∃ s, s = (X 1).shut := ⟨_, rfl⟩
  obtain ⟨T, hT⟩ : ∃ T, T = (X 1).wrote := ⟨_, rfl⟩
  obtain ⟨M, hM⟩ : ∃ M, M = (X 1).read := ⟨_, rfl⟩
  unfold lookV
  rw [← hN, ← hsh, ← hT, ← hM]
  rw [← hN] at hV
  have hblt := h.blk.lt
  have hhlt := (h.hash 1 (by omega)).lt
  obtain ⟨g, hg⟩ : ∃ g, g = H 1 := ⟨_, rfl⟩
  have hcells : W.cell? ⟨b, 5, none⟩ = some (.slice VA N VC) ∧ W.cell? ⟨b, 6, none⟩ = some (.bool sh) ∧ W.cell? ⟨b, 7, none⟩ = some (.int .u64 (un T)) ∧ W.cell? ⟨b, 8, none⟩ = some (tP g) := by
    refine ⟨?_, ?_, ?_, ?_⟩
    · rw [← hV]; exact h1.blk.at (o := 5) rfl
    · rw [hsh]; exact h1.blk.at (o := 6) rfl
    · rw [hT]; exact h1.blk.at (o := 7) rfl
    · rw [hg]; exact h1.blk.at (o := 8) rfl
  have HCC := Lib.hid hcells
  have hh1 : HashM W g M := by rw [hM, hg]; exact h1.hash 1 (by omega)
  have hh2 : HashM W.drew g M := hh1.below (Below.refl W.heap.size W).drew hh1.lt
  have HLen := Lib.hid (lenM_any g M W.drew hh2)
  have HSum := Lib.hid (sumM_any g M W.drew hh2 h1.tab)
  have HR := Lib.hid hR0; clear hR0
  have HB0 := Lib.hid hB0; clear hB0
  clear h h1 hcells hN hsh hT hM hg hV hh1 hh2
  go_enter Tryd.func10, Tryd.ntmps10
  go_wp2_with fail
  rw [← hW]
  refine (HD.out W).mono ?_
  rintro e w' ⟨rfl, rfl⟩
  clear hW
  go_wp2_with fail
  refine wp_region_noPanic ?_
  refine wp_region_held (S := fun W' => W'.cell? ⟨b, 5, none⟩ = some (.slice VA N VC) ∧ W'.cell? ⟨b, 6, none⟩ = some (.bool sh) ∧ W'.cell? ⟨b, 7, none⟩ = some (.int .u64 (un T)) ∧ W'.cell? ⟨b, 8, none⟩ = some (tP g)) (by kernel_rfl) ?_
  change wpAnyH _ _ _ _ _ _ _ _ w'.drew
  have HS := Lib.hid (show w'.drew.cell? ⟨b, 5, none⟩ = some (.slice VA N VC) ∧ w'.drew.cell? ⟨b, 6, none⟩ = some (.bool sh) ∧ w'.drew.cell? ⟨b, 7, none⟩ = some (.int .u64 (un T)) ∧ w'.drew.cell? ⟨b, 8, none⟩ = some (tP g) from HCC.out)
  refine takeH 0 18 (dirP b 1) rfl rfl (by kernel_rfl) (by kernel_rfl) (by kernel_rfl) (fun _ _ _ h => h) rfl (fun w' h => by obtain ⟨z0, z1, z2, z3⟩ := h; go_simp) HS.out ?_
  go_frame
  refine takeH 1 19 (.pointer (some ⟨b, 5, none⟩)) rfl rfl (by kernel_rfl) (by kernel_rfl) (by kernel_rfl) (fun _ _ _ h => h) rfl (fun w' h => by obtain ⟨z0, z1, z2, z3⟩ := h; go_simp) HS.out ?_
  go_frame
  refine takeH 2 20 (.pointer (some ⟨b, 5, none⟩)) rfl rfl (by kernel_rfl) (by kernel_rfl) (by kernel_rfl) (fun _ _ _ h => h) rfl (fun w' h => by obtain ⟨z0, z1, z2, z3⟩ := h; go_simp) HS.out ?_
  go_frame
  refine takeH 3 21 (.slice VA N VC) rfl rfl (by kernel_rfl) (by kernel_rfl) (by kernel_rfl) (fun _ _ _ h => h) rfl (fun w' h => by obtain ⟨z0, z1, z2, z3⟩ := h; go_simp) HS.out ?_
  go_frame
  refine takeH 4 22 (.int .i64 (N : Int)) rfl rfl (by kernel_rfl) (by kernel_rfl) (by kernel_rfl) (fun _ _ _ h => h) rfl (fun w' h => by obtain ⟨z0, z1, z2, z3⟩ := h; go_simp) HS.out ?_
  go_frame
  refine takeH 5 23 (dirP b 1) rfl rfl (by kernel_rfl) (by kernel_rfl) (by kernel_rfl) (fun _ _ _ h => h) rfl (fun w' h => by obtain ⟨z0, z1, z2, z3⟩ := h; go_simp) HS.out ?_
  go_frame
  refine takeH 6 24 (.pointer (some ⟨b, 5, none⟩)) rfl rfl (by kernel_rfl) (by kernel_rfl) (by kernel_rfl) (fun _ _ _ h => h) rfl (fun w' h => by obtain ⟨z0, z1, z2, z3⟩ := h; go_simp) HS.out ?_
  go_frame
  refine takeH 7 25 (.pointer (some ⟨b, 6, none⟩)) rfl rfl (by kernel_rfl) (by kernel_rfl) (by kernel_rfl) (fun _ _ _ h => h) rfl (fun w' h => by obtain ⟨z0, z1, z2, z3⟩ := h; go_simp) HS.out ?_
  go_frame
  refine takeH 8 26 (.bool sh) rfl rfl (by kernel_rfl) (by kernel_rfl) (by kernel_rfl) (fun _ _ _ h => h) rfl (fun w' h => by obtain ⟨z0, z1, z2, z3⟩ := h; go_simp) HS.out ?_
  go_frame
  refine takeH 9 27 (dirP b 1) rfl rfl (by kernel_rfl) (by kernel_rfl) (by kernel_rfl) (fun _ _ _ h => h) rfl (fun w' h => by obtain ⟨z0, z1, z2, z3⟩ := h; go_simp) HS.out ?_
  go_frame
  refine takeH 10 28 (.pointer (some ⟨b, 5, none⟩)) rfl rfl (by kernel_rfl) (by kernel_rfl) (by kernel_rfl) (fun _ _ _ h => h) rfl (fun w' h => by obtain ⟨z0, z1, z2, z3⟩ := h; go_simp) HS.out ?_
  go_frame
  refine takeH 11 29 (.pointer (some ⟨b, 7, none⟩)) rfl rfl (by kernel_rfl) (by kernel_rfl) (by kernel_rfl) (fun _ _ _ h => h) rfl (fun w' h => by obtain ⟨z0, z1, z2, z3⟩ := h; go_simp) HS.out ?_
  go_frame
  refine takeH 12 30 (.int .u64 (un T)) rfl rfl (by kernel_rfl) (by kernel_rfl) (by kernel_rfl) (fun _ _ _ h => h) rfl (fun w' h => by obtain ⟨z0, z1, z2, z3⟩ := h; go_simp) HS.out ?_
  go_frame
  refine takeH 13 31 (dirP b 1) rfl rfl (by kernel_rfl) (by kernel_rfl) (by kernel_rfl) (fun _ _ _ h => h) rfl (fun w' h => by obtain ⟨z0, z1, z2, z3⟩ := h; go_simp) HS.out ?_
  go_frame
  refine takeH 14 32 (.pointer (some ⟨b, 5, none⟩)) rfl rfl (by kernel_rfl) (by kernel_rfl) (by kernel_rfl) (fun _ _ _ h => h) rfl (fun w' h => by obtain ⟨z0, z1, z2, z3⟩ := h; go_simp) HS.out ?_
  go_frame
  refine takeH 15 33 (.pointer (some ⟨b, 8, none⟩)) rfl rfl (by kernel_rfl) (by kernel_rfl) (by kernel_rfl) (fun _ _ _ h => h) rfl (fun w' h => by obtain ⟨z0, z1, z2, z3⟩ := h; go_simp) HS.out ?_
  go_frame
  refine takeH 16 34 (tP g) rfl rfl (by kernel_rfl) (by kernel_rfl) (by kernel_rfl) (fun _ _ _ h => h) rfl (fun w' h => by obtain ⟨z0, z1, z2, z3⟩ := h; go_simp) HS.out ?_
  go_frame
  refine takeH 18 36 (dirP b 1) rfl rfl (by kernel_rfl) (by kernel_rfl) (by kernel_rfl) (fun _ _ _ h => h) rfl (fun w' h => by obtain ⟨z0, z1, z2, z3⟩ := h; go_simp) HS.out ?_
  go_frame
  refine takeH 19 37 (.pointer (some ⟨b, 5, none⟩)) rfl rfl (by kernel_rfl) (by kernel_rfl) (by kernel_rfl) (fun _ _ _ h => h) rfl (fun w' h => by obtain ⟨z0, z1, z2, z3⟩ := h; go_simp) HS.out ?_
  go_frame
  refine takeH 20 38 (.pointer (some ⟨b, 8, none⟩)) rfl rfl (by kernel_rfl) (by kernel_rfl) (by kernel_rfl) (fun _ _ _ h => h) rfl (fun w' h => by obtain ⟨z0, z1, z2, z3⟩ := h; go_simp) HS.out ?_
  go_frame
  refine takeH 21 39 (tP g) rfl rfl (by kernel_rfl) (by kernel_rfl) (by kernel_rfl) (fun _ _ _ h => h) rfl (fun w' h => by obtain ⟨z0, z1, z2, z3⟩ := h; go_simp) HS.out ?_
  go_frame
  refine wpAnyH_all (rs := [17]) (by kernel_rfl) (by simp) ?_
  simp only [List.mem_singleton, forall_eq]
  refine wpOp_callD 35 rfl rfl rfl 31 #[tP g] (by go_simp) ?_
  refine HLen.out.mono ?_
  rintro e w2 ⟨rfl, rfl⟩
  refine ⟨_, rfl, HS.out, ?_⟩
  go_frame
  refine wpAnyH_all (rs := [22]) (by kernel_rfl) (by simp) ?_
  simp only [List.mem_singleton, forall_eq]
  refine wpOp_callD 40 rfl rfl rfl 32 #[tP g] (by go_simp) ?_
  refine HSum.out.mono ?_
  rintro e w3 ⟨v3, rfl, hO3, hB3⟩
  obtain ⟨SA, SC, rfl, _, _, _, _⟩ := hO3.sl
  obtain ⟨SN, hSN⟩ : ∃ n, n = (sumL M).length := ⟨_, rfl⟩
  rw [← hSN] at hO3 ⊢
  clear hSN
  have hb3 : Below w'.heap.size w' w3 := ⟨hB3.os, hB3.tape, hB3.output, hB3.size, hB3.block⟩
  have HS3 := Lib.hid (show w3.cell? ⟨b, 5, none⟩ = some (.slice VA N VC) ∧ w3.cell? ⟨b, 6, none⟩ = some (.bool sh) ∧ w3.cell? ⟨b, 7, none⟩ = some (.int .u64 (un T)) ∧ w3.cell? ⟨b, 8, none⟩ = some (tP g) from by
    have hl : b < w'.heap.size := by omega
    exact ⟨(hb3.cell (p := ⟨b, 5, none⟩) hl).trans HCC.out.1, (hb3.cell (p := ⟨b, 6, none⟩) hl).trans HCC.out.2.1, (hb3.cell (p := ⟨b, 7, none⟩) hl).trans HCC.out.2.2.1, (hb3.cell (p := ⟨b, 8, none⟩) hl).trans HCC.out.2.2.2⟩)
  refine ⟨_, rfl, HS3.out, ?_⟩
  go_frame
  refine takeH 23 41 (.agg #[.int .i64 (N : Int), .bool sh, .int .u64 (un T), .int .u64 (un M.length), .slice SA SN SC]) rfl rfl (by kernel_rfl) (by kernel_rfl) (by kernel_rfl) (fun _ _ _ h => h) rfl (fun w' h => by go_simp) HS3.out ?_
  go_frame
  refine wpAnyH_all (rs := [24]) (by kernel_rfl) (by simp) ?_
  simp only [List.mem_singleton, forall_eq]
  obtain ⟨ws, hws⟩ : ∃ ws : List Value, ws = [.int .i64 (N : Int), .bool sh, .int .u64 (un T), .int .u64 (un M.length), .slice SA SN SC] := ⟨_, rfl⟩
  have hk3 : Blk w3 w.heap.size [.int .i64 0, .bool false, .int .u64 0, .int .u64 0, .slice none 0 0] := HR.out.below hb3 (by omega)
  have hgs := grown_setCells w.heap.size ws w3 0
  have HS4 := Lib.hid (show (w3.setCells w.heap.size 0 ws).cell? ⟨b, 5, none⟩ = some (.slice VA N VC) ∧ (w3.setCells w.heap.size 0 ws).cell? ⟨b, 6, none⟩ = some (.bool sh) ∧ (w3.setCells w.heap.size 0 ws).cell? ⟨b, 7, none⟩ = some (.int .u64 (un T)) ∧ (w3.setCells w.heap.size 0 ws).cell? ⟨b, 8, none⟩ = some (tP g) from by
    have hne : some b ≠ some w.heap.size := by intro e; have := Option.some.inj e; omega
    exact ⟨hgs.cell HS3.out.1 hne, hgs.cell HS3.out.2.1 hne, hgs.cell HS3.out.2.2.1 hne, hgs.cell HS3.out.2.2.2 hne⟩)
  have HK4 := Lib.hid (show Blk (w3.setCells w.heap.size 0 ws) w.heap.size ws from hk3.setAll (by rw [hws]; rfl))
  have HO4 := Lib.hid (show OwnB (w3.setCells w.heap.size 0 ws) w.heap.size (.slice SA SN SC) (sumL M) from by
    have h0 : w.heap.size < w'.drew.heap.size := by show w.heap.size < w'.heap.size; omega
    exact (hO3.lower (Nat.le_of_lt h0)).kept hgs (.inr (by intro e; have := (hO3.lt _ e).1; omega)))
  have HB4 := Lib.hid (show Below w.heap.size w (w3.setCells w.heap.size 0 ws) from below_setCells (Nat.le_refl _) _ (HB0.out.trans (hb3.mono (by omega))) 0)
  have hth := hk3.there 0 5 (by decide)
  refine wpOp_storeN rfl rfl rfl 43 (.tmp 4) (.tmp 41) rfl w.heap.size 0 #[.int .i64 (N : Int), .bool sh, .int .u64 (un T), .int .u64 (un M.length), .slice SA SN SC] rfl rfl hth (by kernel_rfl) (by simp [Value.oneCell']) ?_
  rw [show (#[.int .i64 (N : Int), .bool sh, .int .u64 (un T), .int .u64 (un M.length), .slice SA SN SC] : Array Value).toList = ws from hws.symm]
  refine ⟨HS4.out, ?_⟩
  refine takeH 25 5 (.int .i64 0) rfl rfl (by kernel_rfl) (by kernel_rfl) (by kernel_rfl) (fun _ _ _ h => h) rfl (fun w' h => by go_simp) HS4.out ?_
  go_frame
  refine wpAnyH_done (by kernel_rfl) ?_ _
  refine NoPanic.normal ?_
  obtain ⟨W5, hW5⟩ : ∃ W5, W5 = w3.setCells w.heap.size 0 ws := ⟨_, rfl⟩
  rw [← hW5] at HK4 HO4 HB4 ⊢
  have hk5 := HK4.out
  rw [hws] at hk5
  have i0 := hk5.at (o := 0) rfl
  have i1 := hk5.at (o := 1) rfl
  have i2 := hk5.at (o := 2) rfl
  have i3 := hk5.at (o := 3) rfl
  have i4 := hk5.at (o := 4) rfl
  clear hk5 hgs hth hW5 HS4 HS3 hk3 hO3 hB3 hb3 HS
  go_wp2_with fail
  refine bodyPost_ret (v := .tuple #[.agg #[.int .i64 (N : Int), .bool sh, .int .u64 (un T), .int .u64 (un M.length), .slice SA SN SC], .int .i64 0]) (by simp [results, Tryd.results10, go_sem, i0, i1, i2, i3, i4]) rfl ⟨_, rfl, HO4.out, HB4.out⟩
end
end Go.Proofs.YtlobmffcnobgeaaDoor
