/- pipe: Look. pipe: Over, Cut. The law's awake: the document's example. -/
import Derived.Test.YtlobmffcnobgeaaDoorPpB
import Derived.Test.YtlobmffcnobgeaaDoorHashLen
import Derived.Test.YtlobmffcnobgeaaDoorSlF
set_option maxRecDepth 100000
namespace Go.Proofs.YtlobmffcnobgeaaDoor
open Go.RowKit
attribute [local go_sem] Oper.semAt_some
theorem sumM_any (hb : Nat) (m : List UInt8) (w : World) (h : HashM w hb m) (hT : TabA w) :
    Calls Tryd.prog 32 #[.pointer (some ⟨hb, 0, none⟩)] w fun e w' => ∃ v', e = .returned v' ∧ OwnB w' w.heap.size v' (sumL m) ∧ Below w.heap.size w w' := by
  refine (sumH_any hb _ _ _ w h hT).mono ?_
  rintro e w' ⟨v', he, hO, hB⟩
  rw [stOf_feed] at hO
  unfold sumL
  exact ⟨v', he, hO, hB⟩
theorem lenM_any (hb : Nat) (m : List UInt8) (w : World) (h : HashM w hb m) :
    Calls Tryd.prog 31 #[.pointer (some ⟨hb, 0, none⟩)] w fun e w' => e = .returned (.int .u64 (un m.length)) ∧ w = w' := by
  unfold HashM at h
  exact len_any hb _ _ _ w h
def wzero : Value := .agg #[.int .i64 0, .bool false, .int .u64 0, .int .u64 0, .slice none 0 0]
theorem look_nil (k : Int) (w : World) : Calls Tryd.prog 10 #[.pointer none, .int .i64 k] w fun e w' => e = .returned (.tuple #[wzero, .int .i64 6]) ∧ Below w.heap.size w w' := by
  have HD := Lib.hid (fun W => dir_nil k W)
  have HB := Lib.hid (fun (o : Obj) => (Below.refl w.heap.size w).alloc (Nat.le_refl _) o)
  go_enter Tryd.func10, Tryd.ntmps10
  go_wp2_with fail
  refine (HD.out _).mono ?_
  rintro e w' ⟨rfl, rfl⟩
  go_wp2_with fail
  refine bodyPost_ret (v := .tuple #[wzero, .int .i64 6]) (by simp [results, Tryd.results10, go_sem, wzero]) rfl ⟨rfl, HB.out _⟩
theorem look_bad (b : Nat) (k : Int) (hk : k ≠ 0 ∧ k ≠ 1) (w : World) : Calls Tryd.prog 10 #[tP b, .int .i64 k] w fun e w' => e = .returned (.tuple #[wzero, .int .i64 1]) ∧ Below w.heap.size w w' := by
  have HD := Lib.hid (fun W => dir_bad b k hk W)
  clear hk
  have HB := Lib.hid (fun (o : Obj) => (Below.refl w.heap.size w).alloc (Nat.le_refl _) o)
  go_enter Tryd.func10, Tryd.ntmps10
  go_wp2_with fail
  refine (HD.out _).mono ?_
  rintro e w' ⟨rfl, rfl⟩
  go_wp2_with fail
  refine bodyPost_ret (v := .tuple #[wzero, .int .i64 1]) (by simp [results, Tryd.results10, go_sem, wzero]) rfl ⟨rfl, HB.out _⟩
section
variable {w w' : World} {base b room : Nat} {V : Nat → Value} {H : Nat → Nat} {X : Nat → WayL}
/-- What Look tells of a direction; the sum lies at v. -/
def lookV (x : WayL) (v : Value) : Value := .agg #[.int .i64 (x.buf.length : Int), .bool x.shut, .int .u64 (un x.wrote), .int .u64 (un x.read.length), v]
set_option maxHeartbeats 2000000 in
theorem look_0 (h : PP w base b room V H X) :
    Calls Tryd.prog 10 #[tP b, .int .i64 0] w fun e w' => ∃ v, e = .returned (.tuple #[lookV (X 0) v, .int .i64 0]) ∧ OwnB w' w.heap.size v (sumL (X 0).read) ∧ Below w.heap.size w w' := by
  have HD := Lib.hid (fun W => dir_ok b 0 (by omega) W)
  obtain ⟨VA, VC, hV, _, _, _, _⟩ := (h.own 0 (by omega)).sl
  obtain ⟨W, hW⟩ : ∃ W, W = w.alloc (.cells #[.int .i64 0, .bool false, .int .u64 0, .int .u64 0, .slice none 0 0] 43) := ⟨_, rfl⟩
  have hB0 : Below w.heap.size w W := by rw [hW]; exact (Below.refl _ _).alloc (Nat.le_refl _) _
  have hR0 : Blk W w.heap.size [.int .i64 0, .bool false, .int .u64 0, .int .u64 0, .slice none 0 0] := by rw [hW]; exact Blk.newA w #[.int .i64 0, .bool false, .int .u64 0, .int .u64 0, .slice none 0 0] _
  have hz0 : W.heap.size = w.heap.size + 1 := by rw [hW]; simp
  have h1 := h.below hB0
  obtain ⟨N, hN⟩ : ∃ N, N = (X 0).buf.length := ⟨_, rfl⟩
  obtain ⟨sh, hsh⟩ : ∃ s, s = (X 0).shut := ⟨_, rfl⟩
  obtain ⟨T, hT⟩ : ∃ T, T = (X 0).wrote := ⟨_, rfl⟩
  obtain ⟨M, hM⟩ : ∃ M, M = (X 0).read := ⟨_, rfl⟩
  unfold lookV
  rw [← hN, ← hsh, ← hT, ← hM]
  rw [← hN] at hV
  have hblt := h.blk.lt
  have hhlt := (h.hash 0 (by omega)).lt
  obtain ⟨g, hg⟩ : ∃ g, g = H 0 := ⟨_, rfl⟩
  have hcells : W.cell? ⟨b, 1, none⟩ = some (.slice VA N VC) ∧ W.cell? ⟨b, 2, none⟩ = some (.bool sh) ∧ W.cell? ⟨b, 3, none⟩ = some (.int .u64 (un T)) ∧ W.cell? ⟨b, 4, none⟩ = some (tP g) := by
    refine ⟨?_, ?_, ?_, ?_⟩
    · rw [← hV]; exact h1.blk.at (o := 1) rfl
    · rw [hsh]; exact h1.blk.at (o := 2) rfl
    · rw [hT]; exact h1.blk.at (o := 3) rfl
    · rw [hg]; exact h1.blk.at (o := 4) rfl
  have HCC := Lib.hid hcells
  have hh1 : HashM W g M := by rw [hM, hg]; exact h1.hash 0 (by omega)
  have hh2 : HashM W.drew g M := hh1.below (Below.refl W.heap.size W).drew hh1.lt
  have HLen := Lib.hid (lenM_any g M W.drew hh2)
  have HSum := Lib.hid (sumM_any g M W.drew hh2 h1.tab)
  have HR := Lib.hid hR0; clear hR0
  have HB0 := Lib.hid hB0; clear hB0
  clear h h1 hcells hN hsh hT hM hg hV hh1 hh2
  go_enter Tryd.func10, Tryd.ntmps10
  go_wp2_with fail
  rw [← hW]
  refine (HD.out W).mono ?_
  rintro e w' ⟨rfl, rfl⟩
  clear hW
  go_wp2_with fail
  refine wp_region_noPanic ?_
  refine wp_region_held (S := fun W' => W'.cell? ⟨b, 1, none⟩ = some (.slice VA N VC) ∧ W'.cell? ⟨b, 2, none⟩ = some (.bool sh) ∧ W'.cell? ⟨b, 3, none⟩ = some (.int .u64 (un T)) ∧ W'.cell? ⟨b, 4, none⟩ = some (tP g)) (by kernel_rfl) ?_
  change wpAnyH _ _ _ _ _ _ _ _ w'.drew
  have HS := Lib.hid (show w'.drew.cell? ⟨b, 1, none⟩ = some (.slice VA N VC) ∧ w'.drew.cell? ⟨b, 2, none⟩ = some (.bool sh) ∧ w'.drew.cell? ⟨b, 3, none⟩ = some (.int .u64 (un T)) ∧ w'.drew.cell? ⟨b, 4, none⟩ = some (tP g) from HCC.out)
  refine takeH 0 18 (dirP b 0) rfl rfl (by kernel_rfl) (by kernel_rfl) (by kernel_rfl) (fun _ _ _ h => h) rfl (fun w' h => by obtain ⟨z0, z1, z2, z3⟩ := h; go_simp) HS.out ?_
  go_frame
  refine takeH 1 19 (.pointer (some ⟨b, 1, none⟩)) rfl rfl (by kernel_rfl) (by kernel_rfl) (by kernel_rfl) (fun _ _ _ h => h) rfl (fun w' h => by obtain ⟨z0, z1, z2, z3⟩ := h; go_simp) HS.out ?_
  go_frame
  refine takeH 2 20 (.pointer (some ⟨b, 1, none⟩)) rfl rfl (by kernel_rfl) (by kernel_rfl) (by kernel_rfl) (fun _ _ _ h => h) rfl (fun w' h => by obtain ⟨z0, z1, z2, z3⟩ := h; go_simp) HS.out ?_
  go_frame
  refine takeH 3 21 (.slice VA N VC) rfl rfl (by kernel_rfl) (by kernel_rfl) (by kernel_rfl) (fun _ _ _ h => h) rfl (fun w' h => by obtain ⟨z0, z1, z2, z3⟩ := h; go_simp) HS.out ?_
  go_frame
  refine takeH 4 22 (.int .i64 (N : Int)) rfl rfl (by kernel_rfl) (by kernel_rfl) (by kernel_rfl) (fun _ _ _ h => h) rfl (fun w' h => by obtain ⟨z0, z1, z2, z3⟩ := h; go_simp) HS.out ?_
  go_frame
  refine takeH 5 23 (dirP b 0) rfl rfl (by kernel_rfl) (by kernel_rfl) (by kernel_rfl) (fun _ _ _ h => h) rfl (fun w' h => by obtain ⟨z0, z1, z2, z3⟩ := h; go_simp) HS.out ?_
  go_frame
  refine takeH 6 24 (.pointer (some ⟨b, 1, none⟩)) rfl rfl (by kernel_rfl) (by kernel_rfl) (by kernel_rfl) (fun _ _ _ h => h) rfl (fun w' h => by obtain ⟨z0, z1, z2, z3⟩ := h; go_simp) HS.out ?_
  go_frame
  refine takeH 7 25 (.pointer (some ⟨b, 2, none⟩)) rfl rfl (by kernel_rfl) (by kernel_rfl) (by kernel_rfl) (fun _ _ _ h => h) rfl (fun w' h => by obtain ⟨z0, z1, z2, z3⟩ := h; go_simp) HS.out ?_
  go_frame
  refine takeH 8 26 (.bool sh) rfl rfl (by kernel_rfl) (by kernel_rfl) (by kernel_rfl) (fun _ _ _ h => h) rfl (fun w' h => by obtain ⟨z0, z1, z2, z3⟩ := h; go_simp) HS.out ?_
  go_frame
  refine takeH 9 27 (dirP b 0) rfl rfl (by kernel_rfl) (by kernel_rfl) (by kernel_rfl) (fun _ _ _ h => h) rfl (fun w' h => by obtain ⟨z0, z1, z2, z3⟩ := h; go_simp) HS.out ?_
  go_frame
  refine takeH 10 28 (.pointer (some ⟨b, 1, none⟩)) rfl rfl (by kernel_rfl) (by kernel_rfl) (by kernel_rfl) (fun _ _ _ h => h) rfl (fun w' h => by obtain ⟨z0, z1, z2, z3⟩ := h; go_simp) HS.out ?_
  go_frame
  refine takeH 11 29 (.pointer (some ⟨b, 3, none⟩)) rfl rfl (by kernel_rfl) (by kernel_rfl) (by kernel_rfl) (fun _ _ _ h => h) rfl (fun w' h => by obtain ⟨z0, z1, z2, z3⟩ := h; go_simp) HS.out ?_
  go_frame
  refine takeH 12 30 (.int .u64 (un T)) rfl rfl (by kernel_rfl) (by kernel_rfl) (by kernel_rfl) (fun _ _ _ h => h) rfl (fun w' h => by obtain ⟨z0, z1, z2, z3⟩ := h; go_simp) HS.out ?_
  go_frame
  refine takeH 13 31 (dirP b 0) rfl rfl (by kernel_rfl) (by kernel_rfl) (by kernel_rfl) (fun _ _ _ h => h) rfl (fun w' h => by obtain ⟨z0, z1, z2, z3⟩ := h; go_simp) HS.out ?_
  go_frame
  refine takeH 14 32 (.pointer (some ⟨b, 1, none⟩)) rfl rfl (by kernel_rfl) (by kernel_rfl) (by kernel_rfl) (fun _ _ _ h => h) rfl (fun w' h => by obtain ⟨z0, z1, z2, z3⟩ := h; go_simp) HS.out ?_
  go_frame
  refine takeH 15 33 (.pointer (some ⟨b, 4, none⟩)) rfl rfl (by kernel_rfl) (by kernel_rfl) (by kernel_rfl) (fun _ _ _ h => h) rfl (fun w' h => by obtain ⟨z0, z1, z2, z3⟩ := h; go_simp) HS.out ?_
  go_frame
  refine takeH 16 34 (tP g) rfl rfl (by kernel_rfl) (by kernel_rfl) (by kernel_rfl) (fun _ _ _ h => h) rfl (fun w' h => by obtain ⟨z0, z1, z2, z3⟩ := h; go_simp) HS.out ?_
  go_frame
  refine takeH 18 36 (dirP b 0) rfl rfl (by kernel_rfl) (by kernel_rfl) (by kernel_rfl) (fun _ _ _ h => h) rfl (fun w' h => by obtain ⟨z0, z1, z2, z3⟩ := h; go_simp) HS.out ?_
  go_frame
  refine takeH 19 37 (.pointer (some ⟨b, 1, none⟩)) rfl rfl (by kernel_rfl) (by kernel_rfl) (by kernel_rfl) (fun _ _ _ h => h) rfl (fun w' h => by obtain ⟨z0, z1, z2, z3⟩ := h; go_simp) HS.out ?_
  go_frame
  refine takeH 20 38 (.pointer (some ⟨b, 4, none⟩)) rfl rfl (by kernel_rfl) (by kernel_rfl) (by kernel_rfl) (fun _ _ _ h => h) rfl (fun w' h => by obtain ⟨z0, z1, z2, z3⟩ := h; go_simp) HS.out ?_
  go_frame
  refine takeH 21 39 (tP g) rfl rfl (by kernel_rfl) (by kernel_rfl) (by kernel_rfl) (fun _ _ _ h => h) rfl (fun w' h => by obtain ⟨z0, z1, z2, z3⟩ := h; go_simp) HS.out ?_
  go_frame
  refine wpAnyH_all (rs := [17]) (by kernel_rfl) (by simp) ?_
  simp only [List.mem_singleton, forall_eq]
  refine wpOp_callD 35 rfl rfl rfl 31 #[tP g] (by go_simp) ?_
  refine HLen.out.mono ?_
  rintro e w2 ⟨rfl, rfl⟩
  refine ⟨_, rfl, HS.out, ?_⟩
  go_frame
  refine wpAnyH_all (rs := [22]) (by kernel_rfl) (by simp) ?_
  simp only [List.mem_singleton, forall_eq]
  refine wpOp_callD 40 rfl rfl rfl 32 #[tP g] (by go_simp) ?_
  refine HSum.out.mono ?_
  rintro e w3 ⟨v3, rfl, hO3, hB3⟩
  obtain ⟨SA, SC, rfl, _, _, _, _⟩ := hO3.sl
  obtain ⟨SN, hSN⟩ : ∃ n, n = (sumL M).length := ⟨_, rfl⟩
  rw [← hSN] at hO3 ⊢
  clear hSN
  have hb3 : Below w'.heap.size w' w3 := ⟨hB3.os, hB3.tape, hB3.output, hB3.size, hB3.block⟩
  have HS3 := Lib.hid (show w3.cell? ⟨b, 1, none⟩ = some (.slice VA N VC) ∧ w3.cell? ⟨b, 2, none⟩ = some (.bool sh) ∧ w3.cell? ⟨b, 3, none⟩ = some (.int .u64 (un T)) ∧ w3.cell? ⟨b, 4, none⟩ = some (tP g) from by
    have hl : b < w'.heap.size := by omega
    exact ⟨(hb3.cell (p := ⟨b, 1, none⟩) hl).trans HCC.out.1, (hb3.cell (p := ⟨b, 2, none⟩) hl).trans HCC.out.2.1, (hb3.cell (p := ⟨b, 3, none⟩) hl).trans HCC.out.2.2.1, (hb3.cell (p := ⟨b, 4, none⟩) hl).trans HCC.out.2.2.2⟩)
  refine ⟨_, rfl, HS3.out, ?_⟩
  go_frame
  refine takeH 23 41 (.agg #[.int .i64 (N : Int), .bool sh, .int .u64 (un T), .int .u64 (un M.length), .slice SA SN SC]) rfl rfl (by kernel_rfl) (by kernel_rfl) (by kernel_rfl) (fun _ _ _ h => h) rfl (fun w' h => by go_simp) HS3.out ?_
  go_frame
  refine wpAnyH_all (rs := [24]) (by kernel_rfl) (by simp) ?_
  simp only [List.mem_singleton, forall_eq]
  obtain ⟨ws, hws⟩ : ∃ ws : List Value, ws = [.int .i64 (N : Int), .bool sh, .int .u64 (un T), .int .u64 (un M.length), .slice SA SN SC] := ⟨_, rfl⟩
  have hk3 : Blk w3 w.heap.size [.int .i64 0, .bool false, .int .u64 0, .int .u64 0, .slice none 0 0] := HR.out.below hb3 (by omega)
  have hgs := grown_setCells w.heap.size ws w3 0
  have HS4 := Lib.hid (show (w3.setCells w.heap.size 0 ws).cell? ⟨b, 1, none⟩ = some (.slice VA N VC) ∧ (w3.setCells w.heap.size 0 ws).cell? ⟨b, 2, none⟩ = some (.bool sh) ∧ (w3.setCells w.heap.size 0 ws).cell? ⟨b, 3, none⟩ = some (.int .u64 (un T)) ∧ (w3.setCells w.heap.size 0 ws).cell? ⟨b, 4, none⟩ = some (tP g) from by
    have hne : some b ≠ some w.heap.size := by intro e; have := Option.some.inj e; omega
    exact ⟨hgs.cell HS3.out.1 hne, hgs.cell HS3.out.2.1 hne, hgs.cell HS3.out.2.2.1 hne, hgs.cell HS3.out.2.2.2 hne⟩)
  have HK4 := Lib.hid (show Blk (w3.setCells w.heap.size 0 ws) w.heap.size ws from hk3.setAll (by rw [hws]; rfl))
  have HO4 := Lib.hid (show OwnB (w3.setCells w.heap.size 0 ws) w.heap.size (.slice SA SN SC) (sumL M) from by
    have h0 : w.heap.size < w'.drew.heap.size := by show w.heap.size < w'.heap.size; omega
    exact (hO3.lower (Nat.le_of_lt h0)).kept hgs (.inr (by intro e; have := (hO3.lt _ e).1; omega)))
  have HB4 := Lib.hid (show Below w.heap.size w (w3.setCells w.heap.size 0 ws) from below_setCells (Nat.le_refl _) _ (HB0.out.trans (hb3.mono (by omega))) 0)
  have hth := hk3.there 0 5 (by decide)
  refine wpOp_storeN rfl rfl rfl 43 (.tmp 4) (.tmp 41) rfl w.heap.size 0 #[.int .i64 (N : Int), .bool sh, .int .u64 (un T), .int .u64 (un M.length), .slice SA SN SC] rfl rfl hth (by kernel_rfl) (by simp [Value.oneCell']) ?_
  rw [show (#[.int .i64 (N : Int), .bool sh, .int .u64 (un T), .int .u64 (un M.length), .slice SA SN SC] : Array Value).toList = ws from hws.symm]
  refine ⟨HS4.out, ?_⟩
  refine takeH 25 5 (.int .i64 0) rfl rfl (by kernel_rfl) (by kernel_rfl) (by kernel_rfl) (fun _ _ _ h => h) rfl (fun w' h => by go_simp) HS4.out ?_
  go_frame
  refine wpAnyH_done (by kernel_rfl) ?_ _
  refine NoPanic.normal ?_
  obtain ⟨W5, hW5⟩ : ∃ W5, W5 = w3.setCells w.heap.size 0 ws := ⟨_, rfl⟩
  rw [← hW5] at HK4 HO4 HB4 ⊢
  have hk5 := HK4.out
  rw [hws] at hk5
  have i0 := hk5.at (o := 0) rfl
  have i1 := hk5.at (o := 1) rfl
  have i2 := hk5.at (o := 2) rfl
  have i3 := hk5.at (o := 3) rfl
  have i4 := hk5.at (o := 4) rfl
  clear hk5 hgs hth hW5 HS4 HS3 hk3 hO3 hB3 hb3 HS
  go_wp2_with fail
  refine bodyPost_ret (v := .tuple #[.agg #[.int .i64 (N : Int), .bool sh, .int .u64 (un T), .int .u64 (un M.length), .slice SA SN SC], .int .i64 0]) (by simp [results, Tryd.results10, go_sem, i0, i1, i2, i3, i4]) rfl ⟨_, rfl, HO4.out, HB4.out⟩
set_option maxHeartbeats 2000000 in
theorem look_1 (h : PP w base b room V H X) :
    Calls Tryd.prog 10 #[tP b, .int .i64 1] w fun e w' => ∃ v, e = .returned (.tuple #[lookV (X 1) v, .int .i64 0]) ∧ OwnB w' w.heap.size v (sumL (X 1).read) ∧ Below w.heap.size w w' := by
  have HD := Lib.hid (fun W => dir_ok b 1 (by omega) W)
  obtain ⟨VA, VC, hV, _, _, _, _⟩ := (h.own 1 (by omega)).sl
  obtain ⟨W, hW⟩ : ∃ W, W = w.alloc (.cells #[.int .i64 0, .bool false, .int .u64 0, .int .u64 0, .slice none 0 0] 43) := ⟨_, rfl⟩
  have hB0 : Below w.heap.size w W := by rw [hW]; exact (Below.refl _ _).alloc (Nat.le_refl _) _
  have hR0 : Blk W w.heap.size [.int .i64 0, .bool false, .int .u64 0, .int .u64 0, .slice none 0 0] := by rw [hW]; exact Blk.newA w #[.int .i64 0, .bool false, .int .u64 0, .int .u64 0, .slice none 0 0] _
  have hz0 : W.heap.size = w.heap.size + 1 := by rw [hW]; simp
  have h1 := h.below hB0
  obtain ⟨N, hN⟩ : ∃ N, N = (X 1).buf.length := ⟨_, rfl⟩
  obtain ⟨sh, hsh⟩ : ∃ s, s = (X 1).shut := ⟨_, rfl⟩
  obtain ⟨T, hT⟩ : ∃ T, T = (X 1).wrote := ⟨_, rfl⟩
  obtain ⟨M, hM⟩ : ∃ M, M = (X 1).read := ⟨_, rfl⟩
  unfold lookV
  rw [← hN, ← hsh, ← hT, ← hM]
  rw [← hN] at hV
  have hblt := h.blk.lt
  have hhlt := (h.hash 1 (by omega)).lt
  obtain ⟨g, hg⟩ : ∃ g, g = H 1 := ⟨_, rfl⟩
  have hcells : W.cell? ⟨b, 5, none⟩ = some (.slice VA N VC) ∧ W.cell? ⟨b, 6, none⟩ = some (.bool sh) ∧ W.cell? ⟨b, 7, none⟩ = some (.int .u64 (un T)) ∧ W.cell? ⟨b, 8, none⟩ = some (tP g) := by
    refine ⟨?_, ?_, ?_, ?_⟩
    · rw [← hV]; exact h1.blk.at (o := 5) rfl
    · rw [hsh]; exact h1.blk.at (o := 6) rfl
    · rw [hT]; exact h1.blk.at (o := 7) rfl
    · rw [hg]; exact h1.blk.at (o := 8) rfl
  have HCC := Lib.hid hcells
  have hh1 : HashM W g M := by rw [hM, hg]; exact h1.hash 1 (by omega)
  have hh2 : HashM W.drew g M := hh1.below (Below.refl W.heap.size W).drew hh1.lt
  have HLen := Lib.hid (lenM_any g M W.drew hh2)
  have HSum := Lib.hid (sumM_any g M W.drew hh2 h1.tab)
  have HR := Lib.hid hR0; clear hR0
  have HB0 := Lib.hid hB0; clear hB0
  clear h h1 hcells hN hsh hT hM hg hV hh1 hh2
  go_enter Tryd.func10, Tryd.ntmps10
  go_wp2_with fail
  rw [← hW]
  refine (HD.out W).mono ?_
  rintro e w' ⟨rfl, rfl⟩
  clear hW
  go_wp2_with fail
  refine wp_region_noPanic ?_
  refine wp_region_held (S := fun W' => W'.cell? ⟨b, 5, none⟩ = some (.slice VA N VC) ∧ W'.cell? ⟨b, 6, none⟩ = some (.bool sh) ∧ W'.cell? ⟨b, 7, none⟩ = some (.int .u64 (un T)) ∧ W'.cell? ⟨b, 8, none⟩ = some (tP g)) (by kernel_rfl) ?_
  change wpAnyH _ _ _ _ _ _ _ _ w'.drew
  have HS := Lib.hid (show w'.drew.cell? ⟨b, 5, none⟩ = some (.slice VA N VC) ∧ w'.drew.cell? ⟨b, 6, none⟩ = some (.bool sh) ∧ w'.drew.cell? ⟨b, 7, none⟩ = some (.int .u64 (un T)) ∧ w'.drew.cell? ⟨b, 8, none⟩ = some (tP g) from HCC.out)
  refine takeH 0 18 (dirP b 1) rfl rfl (by kernel_rfl) (by kernel_rfl) (by kernel_rfl) (fun _ _ _ h => h) rfl (fun w' h => by obtain ⟨z0, z1, z2, z3⟩ := h; go_simp) HS.out ?_
  go_frame
  refine takeH 1 19 (.pointer (some ⟨b, 5, none⟩)) rfl rfl (by kernel_rfl) (by kernel_rfl) (by kernel_rfl) (fun _ _ _ h => h) rfl (fun w' h => by obtain ⟨z0, z1, z2, z3⟩ := h; go_simp) HS.out ?_
  go_frame
  refine takeH 2 20 (.pointer (some ⟨b, 5, none⟩)) rfl rfl (by kernel_rfl) (by kernel_rfl) (by kernel_rfl) (fun _ _ _ h => h) rfl (fun w' h => by obtain ⟨z0, z1, z2, z3⟩ := h; go_simp) HS.out ?_
  go_frame
  refine takeH 3 21 (.slice VA N VC) rfl rfl (by kernel_rfl) (by kernel_rfl) (by kernel_rfl) (fun _ _ _ h => h) rfl (fun w' h => by obtain ⟨z0, z1, z2, z3⟩ := h; go_simp) HS.out ?_
  go_frame
  refine takeH 4 22 (.int .i64 (N : Int)) rfl rfl (by kernel_rfl) (by kernel_rfl) (by kernel_rfl) (fun _ _ _ h => h) rfl (fun w' h => by obtain ⟨z0, z1, z2, z3⟩ := h; go_simp) HS.out ?_
  go_frame
  refine takeH 5 23 (dirP b 1) rfl rfl (by kernel_rfl) (by kernel_rfl) (by kernel_rfl) (fun _ _ _ h => h) rfl (fun w' h => by obtain ⟨z0, z1, z2, z3⟩ := h; go_simp) HS.out ?_
  go_frame
  refine takeH 6 24 (.pointer (some ⟨b, 5, none⟩)) rfl rfl (by kernel_rfl) (by kernel_rfl) (by kernel_rfl) (fun _ _ _ h => h) rfl (fun w' h => by obtain ⟨z0, z1, z2, z3⟩ := h; go_simp) HS.out ?_
  go_frame
  refine takeH 7 25 (.pointer (some ⟨b, 6, none⟩)) rfl rfl (by kernel_rfl) (by kernel_rfl) (by kernel_rfl) (fun _ _ _ h => h) rfl (fun w' h => by obtain ⟨z0, z1, z2, z3⟩ := h; go_simp) HS.out ?_
  go_frame
  refine takeH 8 26 (.bool sh) rfl rfl (by kernel_rfl) (by kernel_rfl) (by kernel_rfl) (fun _ _ _ h => h) rfl (fun w' h => by obtain ⟨z0, z1, z2, z3⟩ := h; go_simp) HS.out ?_
  go_frame
  refine takeH 9 27 (dirP b 1) rfl rfl (by kernel_rfl) (by kernel_rfl) (by kernel_rfl) (fun _ _ _ h => h) rfl (fun w' h => by obtain ⟨z0, z1, z2, z3⟩ := h; go_simp) HS.out ?_
  go_frame
  refine takeH 10 28 (.pointer (some ⟨b, 5, none⟩)) rfl rfl (by kernel_rfl) (by kernel_rfl) (by kernel_rfl) (fun _ _ _ h => h) rfl (fun w' h => by obtain ⟨z0, z1, z2, z3⟩ := h; go_simp) HS.out ?_
  go_frame
  refine takeH 11 29 (.pointer (some ⟨b, 7, none⟩)) rfl rfl (by kernel_rfl) (by kernel_rfl) (by kernel_rfl) (fun _ _ _ h => h) rfl (fun w' h => by obtain ⟨z0, z1, z2, z3⟩ := h; go_simp) HS.out ?_
  go_frame
  refine takeH 12 30 (.int .u64 (un T)) rfl rfl (by kernel_rfl) (by kernel_rfl) (by kernel_rfl) (fun _ _ _ h => h) rfl (fun w' h => by obtain ⟨z0, z1, z2, z3⟩ := h; go_simp) HS.out ?_
  go_frame
  refine takeH 13 31 (dirP b 1) rfl rfl (by kernel_rfl) (by kernel_rfl) (by kernel_rfl) (fun _ _ _ h => h) rfl (fun w' h => by obtain ⟨z0, z1, z2, z3⟩ := h; go_simp) HS.out ?_
  go_frame
  refine takeH 14 32 (.pointer (some ⟨b, 5, none⟩)) rfl rfl (by kernel_rfl) (by kernel_rfl) (by kernel_rfl) (fun _ _ _ h => h) rfl (fun w' h => by obtain ⟨z0, z1, z2, z3⟩ := h; go_simp) HS.out ?_
  go_frame
  refine takeH 15 33 (.pointer (some ⟨b, 8, none⟩)) rfl rfl (by kernel_rfl) (by kernel_rfl) (by kernel_rfl) (fun _ _ _ h => h) rfl (fun w' h => by obtain ⟨z0, z1, z2, z3⟩ := h; go_simp) HS.out ?_
  go_frame
  refine takeH 16 34 (tP g) rfl rfl (by kernel_rfl) (by kernel_rfl) (by kernel_rfl) (fun _ _ _ h => h) rfl (fun w' h => by obtain ⟨z0, z1, z2, z3⟩ := h; go_simp) HS.out ?_
  go_frame
  refine takeH 18 36 (dirP b 1) rfl rfl (by kernel_rfl) (by kernel_rfl) (by kernel_rfl) (fun _ _ _ h => h) rfl (fun w' h => by obtain ⟨z0, z1, z2, z3⟩ := h; go_simp) HS.out ?_
  go_frame
  refine takeH 19 37 (.pointer (some ⟨b, 5, none⟩)) rfl rfl (by kernel_rfl) (by kernel_rfl) (by kernel_rfl) (fun _ _ _ h => h) rfl (fun w' h => by obtain ⟨z0, z1, z2, z3⟩ := h; go_simp) HS.out ?_
  go_frame
  refine takeH 20 38 (.pointer (some ⟨b, 8, none⟩)) rfl rfl (by kernel_rfl) (by kernel_rfl) (by kernel_rfl) (fun _ _ _ h => h) rfl (fun w' h => by obtain ⟨z0, z1, z2, z3⟩ := h; go_simp) HS.out ?_
  go_frame
  refine takeH 21 39 (tP g) rfl rfl (by kernel_rfl) (by kernel_rfl) (by kernel_rfl) (fun _ _ _ h => h) rfl (fun w' h => by obtain ⟨z0, z1, z2, z3⟩ := h; go_simp) HS.out ?_
  go_frame
  refine wpAnyH_all (rs := [17]) (by kernel_rfl) (by simp) ?_
  simp only [List.mem_singleton, forall_eq]
  refine wpOp_callD 35 rfl rfl rfl 31 #[tP g] (by go_simp) ?_
  refine HLen.out.mono ?_
  rintro e w2 ⟨rfl, rfl⟩
  refine ⟨_, rfl, HS.out, ?_⟩
  go_frame
  refine wpAnyH_all (rs := [22]) (by kernel_rfl) (by simp) ?_
  simp only [List.mem_singleton, forall_eq]
  refine wpOp_callD 40 rfl rfl rfl 32 #[tP g] (by go_simp) ?_
  refine HSum.out.mono ?_
  rintro e w3 ⟨v3, rfl, hO3, hB3⟩
  obtain ⟨SA, SC, rfl, _, _, _, _⟩ := hO3.sl
  obtain ⟨SN, hSN⟩ : ∃ n, n = (sumL M).length := ⟨_, rfl⟩
  rw [← hSN] at hO3 ⊢
  clear hSN
  have hb3 : Below w'.heap.size w' w3 := ⟨hB3.os, hB3.tape, hB3.output, hB3.size, hB3.block⟩
  have HS3 := Lib.hid (show w3.cell? ⟨b, 5, none⟩ = some (.slice VA N VC) ∧ w3.cell? ⟨b, 6, none⟩ = some (.bool sh) ∧ w3.cell? ⟨b, 7, none⟩ = some (.int .u64 (un T)) ∧ w3.cell? ⟨b, 8, none⟩ = some (tP g) from by
    have hl : b < w'.heap.size := by omega
    exact ⟨(hb3.cell (p := ⟨b, 5, none⟩) hl).trans HCC.out.1, (hb3.cell (p := ⟨b, 6, none⟩) hl).trans HCC.out.2.1, (hb3.cell (p := ⟨b, 7, none⟩) hl).trans HCC.out.2.2.1, (hb3.cell (p := ⟨b, 8, none⟩) hl).trans HCC.out.2.2.2⟩)
  refine ⟨_, rfl, HS3.out, ?_⟩
  go_frame
  refine takeH 23 41 (.agg #[.int .i64 (N : Int), .bool sh, .int .u64 (un T), .int .u64 (un M.length), .slice SA SN SC]) rfl rfl (by kernel_rfl) (by kernel_rfl) (by kernel_rfl) (fun _ _ _ h => h) rfl (fun w' h => by go_simp) HS3.out ?_
  go_frame
  refine wpAnyH_all (rs := [24]) (by kernel_rfl) (by simp) ?_
  simp only [List.mem_singleton, forall_eq]
  obtain ⟨ws, hws⟩ : ∃ ws : List Value, ws = [.int .i64 (N : Int), .bool sh, .int .u64 (un T), .int .u64 (un M.length), .slice SA SN SC] := ⟨_, rfl⟩
  have hk3 : Blk w3 w.heap.size [.int .i64 0, .bool false, .int .u64 0, .int .u64 0, .slice none 0 0] := HR.out.below hb3 (by omega)
  have hgs := grown_setCells w.heap.size ws w3 0
  have HS4 := Lib.hid (show (w3.setCells w.heap.size 0 ws).cell? ⟨b, 5, none⟩ = some (.slice VA N VC) ∧ (w3.setCells w.heap.size 0 ws).cell? ⟨b, 6, none⟩ = some (.bool sh) ∧ (w3.setCells w.heap.size 0 ws).cell? ⟨b, 7, none⟩ = some (.int .u64 (un T)) ∧ (w3.setCells w.heap.size 0 ws).cell? ⟨b, 8, none⟩ = some (tP g) from by
    have hne : some b ≠ some w.heap.size := by intro e; have := Option.some.inj e; omega
    exact ⟨hgs.cell HS3.out.1 hne, hgs.cell HS3.out.2.1 hne, hgs.cell HS3.out.2.2.1 hne, hgs.cell HS3.out.2.2.2 hne⟩)
  have HK4 := Lib.hid (show Blk (w3.setCells w.heap.size 0 ws) w.heap.size ws from hk3.setAll (by rw [hws]; rfl))
  have HO4 := Lib.hid (show OwnB (w3.setCells w.heap.size 0 ws) w.heap.size (.slice SA SN SC) (sumL M) from by
    have h0 : w.heap.size < w'.drew.heap.size := by show w.heap.size < w'.heap.size; omega
    exact (hO3.lower (Nat.le_of_lt h0)).kept hgs (.inr (by intro e; have := (hO3.lt _ e).1; omega)))
  have HB4 := Lib.hid (show Below w.heap.size w (w3.setCells w.heap.size 0 ws) from below_setCells (Nat.le_refl _) _ (HB0.out.trans (hb3.mono (by omega))) 0)
  have hth := hk3.there 0 5 (by decide)
  refine wpOp_storeN rfl rfl rfl 43 (.tmp 4) (.tmp 41) rfl w.heap.size 0 #[.int .i64 (N : Int), .bool sh, .int .u64 (un T), .int .u64 (un M.length), .slice SA SN SC] rfl rfl hth (by kernel_rfl) (by simp [Value.oneCell']) ?_
  rw [show (#[.int .i64 (N : Int), .bool sh, .int .u64 (un T), .int .u64 (un M.length), .slice SA SN SC] : Array Value).toList = ws from hws.symm]
  refine ⟨HS4.out, ?_⟩
  refine takeH 25 5 (.int .i64 0) rfl rfl (by kernel_rfl) (by kernel_rfl) (by kernel_rfl) (fun _ _ _ h => h) rfl (fun w' h => by go_simp) HS4.out ?_
  go_frame
  refine wpAnyH_done (by kernel_rfl) ?_ _
  refine NoPanic.normal ?_
  obtain ⟨W5, hW5⟩ : ∃ W5, W5 = w3.setCells w.heap.size 0 ws := ⟨_, rfl⟩
  rw [← hW5] at HK4 HO4 HB4 ⊢
  have hk5 := HK4.out
  rw [hws] at hk5
  have i0 := hk5.at (o := 0) rfl
  have i1 := hk5.at (o := 1) rfl
  have i2 := hk5.at (o := 2) rfl
  have i3 := hk5.at (o := 3) rfl
  have i4 := hk5.at (o := 4) rfl
  clear hk5 hgs hth hW5 HS4 HS3 hk3 hO3 hB3 hb3 HS
  go_wp2_with fail
  refine bodyPost_ret (v := .tuple #[.agg #[.int .i64 (N : Int), .bool sh, .int .u64 (un T), .int .u64 (un M.length), .slice SA SN SC], .int .i64 0]) (by simp [results, Tryd.results10, go_sem, i0, i1, i2, i3, i4]) rfl ⟨_, rfl, HO4.out, HB4.out⟩
end
end Go.Proofs.YtlobmffcnobgeaaDoor
set_option maxRecDepth 100000
namespace Go.Proofs.YtlobmffcnobgeaaDoor
open Go.RowKit
attribute [local go_sem] Oper.semAt_some
section
variable {w w' : World} {base b room : Nat} {V : Nat → Value} {H : Nat → Nat} {X : Nat → WayL}
def overW (x : WayL) : Bool := x.shut && decide (x.buf.length = 0)
def overL (X : Nat → WayL) : Bool := overW (X 0) && overW (X 1)
set_option maxHeartbeats 1000000 in
theorem over_any (h : PP w base b room V H X) :
    Calls Tryd.prog 16 #[tP b] w fun e w' => e = .returned (.bool (overL X)) ∧ Below w.heap.size w w' := by
  obtain ⟨A0, C0, hV0, _, _, _, _⟩ := (h.own 0 (by omega)).sl
  obtain ⟨A1, C1, hV1, _, _, _, _⟩ := (h.own 1 (by omega)).sl
  obtain ⟨ANS, hA⟩ : ∃ a, a = overL X := ⟨_, rfl⟩
  rw [← hA]
  unfold overL overW at hA
  have k1 : w.cell? ⟨b, 1, none⟩ = some (V 0) := h.blk.at (o := 1) rfl
  have k2 : w.cell? ⟨b, 2, none⟩ = some (.bool (X 0).shut) := h.blk.at (o := 2) rfl
  have k3 : w.cell? ⟨b, 3, none⟩ = some (.int .u64 (un (X 0).wrote)) := h.blk.at (o := 3) rfl
  have k4 : w.cell? ⟨b, 4, none⟩ = some (tP (H 0)) := h.blk.at (o := 4) rfl
  have k5 : w.cell? ⟨b, 5, none⟩ = some (V 1) := h.blk.at (o := 5) rfl
  have k6 : w.cell? ⟨b, 6, none⟩ = some (.bool (X 1).shut) := h.blk.at (o := 6) rfl
  have k7 : w.cell? ⟨b, 7, none⟩ = some (.int .u64 (un (X 1).wrote)) := h.blk.at (o := 7) rfl
  have k8 : w.cell? ⟨b, 8, none⟩ = some (tP (H 1)) := h.blk.at (o := 8) rfl
  rw [hV0] at k1
  rw [hV1] at k5
  obtain ⟨N0, hN0⟩ : ∃ N, N = (X 0).buf.length := ⟨_, rfl⟩
  obtain ⟨N1, hN1⟩ : ∃ N, N = (X 1).buf.length := ⟨_, rfl⟩
  rw [← hN0] at k1 hA
  rw [← hN1] at k5 hA
  generalize (X 0).shut = s0 at *
  generalize (X 1).shut = s1 at *
  generalize un (X 0).wrote = t0 at *
  generalize un (X 1).wrote = t1 at *
  generalize H 0 = h0 at *
  generalize H 1 = h1 at *
  have hix0 : ∀ W, (Instr.index 60 (.agg #[.slice A0 N0 C0, .bool s0, .int .u64 t0, tP h0, .slice A1 N1 C1, .bool s1, .int .u64 t1, tP h1]) (.int .i64 0)).run Tryd.prog W = .ok (.agg #[.slice A0 N0 C0, .bool s0, .int .u64 t0, tP h0]) W := fun W => rfl
  have hix1 : ∀ W, (Instr.index 60 (.agg #[.slice A0 N0 C0, .bool s0, .int .u64 t0, tP h0, .slice A1 N1 C1, .bool s1, .int .u64 t1, tP h1]) (.int .i64 1)).run Tryd.prog W = .ok (.agg #[.slice A1 N1 C1, .bool s1, .int .u64 t1, tP h1]) W := fun W => rfl
  have HA := Lib.hid hA
  clear h hV0 hV1 hN0 hN1 hA
  go_enter Tryd.func16, Tryd.ntmps16
  go_wp2_with fail
  go_loopw [4, 11] (fun _ i wr => ∃ k : Nat, k ≤ 2 ∧ i = .int .i64 (k : Int) ∧ (1 ≤ k → s0 = true ∧ N0 = 0) ∧ (2 ≤ k → s1 = true ∧ N1 = 0) ∧ Below w.heap.size w wr) (fun _ i _ => 2 - (intOf i).toNat)
  case atStart => exact ⟨0, by omega, rfl, by omega, by omega, Below.refl _ _⟩
  case round =>
    obtain ⟨k, hk, rfl, h1, h2, hB⟩ := hrel
    rcases (show k = 0 ∨ k = 1 ∨ k = 2 by omega) with rfl | rfl | rfl
    · have hB' := hB.size
      have HBn := Lib.hid (fun (o : Obj) => hB.alloc hB' o)
      clear hB
      cases s0 with
      | false =>
        have HAN := Lib.hid (show ANS = false from by rw [HA.out]; simp)
        go_wp2_with fail
        go_ret
        exact ⟨by rw [HAN.out]; rfl, HBn.out _⟩
      | true =>
        by_cases hN : N0 = 0
        · subst hN
          go_wp2_with fail
          exact ⟨⟨1, by omega, rfl, by simp, by omega, HBn.out _⟩, by simp [intOf]⟩
        · have hp : (0 : Int) < (N0 : Int) := by omega
          have HAN := Lib.hid (show ANS = false from by rw [HA.out]; simp [hN])
          clear hN
          go_wp2_with fail
          go_ret
          exact ⟨by rw [HAN.out]; rfl, HBn.out _⟩
    · obtain ⟨rfl, rfl⟩ := h1 (by omega)
      clear h1
      have hB' := hB.size
      have HBn := Lib.hid (fun (o : Obj) => hB.alloc hB' o)
      clear hB
      cases s1 with
      | false =>
        have HAN := Lib.hid (show ANS = false from by rw [HA.out]; simp)
        go_wp2_with fail
        go_ret
        exact ⟨by rw [HAN.out]; rfl, HBn.out _⟩
      | true =>
        by_cases hN : N1 = 0
        · subst hN
          go_wp2_with fail
          exact ⟨⟨2, by omega, rfl, by simp, by simp, HBn.out _⟩, by simp [intOf]⟩
        · have hp : (0 : Int) < (N1 : Int) := by omega
          have HAN := Lib.hid (show ANS = false from by rw [HA.out]; simp [hN])
          clear hN
          go_wp2_with fail
          go_ret
          exact ⟨by rw [HAN.out]; rfl, HBn.out _⟩
    · obtain ⟨rfl, rfl⟩ := h1 (by omega)
      obtain ⟨rfl, rfl⟩ := h2 (by omega)
      have HAN := Lib.hid (show ANS = true from by rw [HA.out]; rfl)
      have HB := Lib.hid hB; clear hB
      go_wp2_with fail
      go_ret
      exact ⟨by rw [HAN.out]; rfl, HB.out⟩
theorem cut_nil (w : World) : Calls Tryd.prog 18 #[.pointer none] w fun e w' => e = .returned (.tuple #[]) ∧ w' = w := by
  go_enter Tryd.func18, Tryd.ntmps18
  go_wp2_with fail
  refine bodyPost_ret (results_none rfl _ _ _) rfl ?_
  exact ⟨rfl, rfl⟩
theorem clear_any (base : Nat) (v : Value) (l : List UInt8) (w : World) (h : OwnB w base v l) : ∃ w', (∀ ty, (Builtin.clear_ #[29] ty #[v]).run Tryd.prog w = .ok (.tuple #[]) w') ∧ w.grownBy w' v.ownBlock := by
  rcases h.parts with ⟨rfl, rfl⟩ | ⟨g, cap, rfl, _, _, _, _, hbs, hfz⟩
  · refine ⟨w, fun ty => ?_, World.grownBy.refl _ _⟩
    simp [Builtin.clear_, run_underlying Tryd.underlying29]
  · by_cases h0 : l.length = 0
    · refine ⟨w, fun ty => ?_, World.grownBy.refl _ _⟩
      rw [h0]
      simp [Builtin.clear_, run_underlying Tryd.underlying29]
    · refine ⟨w.setCells g 0 (List.replicate l.length (vb 0)), fun ty => ?_, grown_setCells g _ w 0⟩
      exact Lib.run_clear_slice w _ _ ty _ Tryd.underlying29 (fun w => by kernel_rfl) rfl rfl g 0 _ _ (by omega) (fun j hj => by rw [hbs j hj]; rfl) (fun j hj => hfz _)
def cutV (V : Nat → Value) (k : Nat) : Nat → Value := fun i => if i < k then .slice none 0 0 else V i
def cutW (x : WayL) : WayL := { x with buf := [], shut := true }
def cutX (X : Nat → WayL) (k : Nat) : Nat → WayL := fun i => if i < k then cutW (X i) else X i
theorem cutV_succ (V : Nat → Value) (k : Nat) : upd (cutV V k) k (.slice none 0 0) = cutV V (k + 1) := by
  funext i; unfold upd cutV
  by_cases h : i = k
  · subst h; rw [if_pos rfl, if_pos (by omega)]
  · rw [if_neg h]
    by_cases h2 : i < k
    · rw [if_pos h2, if_pos (by omega)]
    · rw [if_neg h2, if_neg (by omega)]
theorem cutX_succ (X : Nat → WayL) (k : Nat) : upd (cutX X k) k (cutW (X k)) = cutX X (k + 1) := by
  funext i; unfold upd cutX
  by_cases h : i = k
  · subst h; rw [if_pos rfl, if_pos (by omega)]
  · rw [if_neg h]
    by_cases h2 : i < k
    · rw [if_pos h2, if_pos (by omega)]
    · rw [if_neg h2, if_neg (by omega)]
theorem cutX_at (X : Nat → WayL) (k : Nat) : cutX X k k = X k := by unfold cutX; rw [if_neg (by omega)]
theorem cutV_at (V : Nat → Value) (k : Nat) : cutV V k k = V k := by unfold cutV; rw [if_neg (by omega)]
theorem cutV_sub (V : Nat → Value) (b k : Nat) (H : Nat → Nat) : ∀ j ∈ ppS b (cutV V k) H, j ∈ ppS b V H := by
  intro j hj
  simp only [ppS, List.mem_append, List.mem_cons, List.not_mem_nil, or_false, Option.mem_toList] at hj ⊢
  rcases hj with hj | hj | hj
  · exact .inl hj
  · unfold cutV at hj
    split at hj
    · cases hj
    · exact .inr (.inl hj)
  · unfold cutV at hj
    split at hj
    · cases hj
    · exact .inr (.inr hj)
theorem cut_fin (h : PP w base b room V H X) (i : Nat) (hi : i < 2) {w2 : World} (hg : (w.setCell ⟨b, 2 + 4 * i, none⟩ (.bool true)).grownBy w2 (V i).ownBlock) :
    PP (w2.setCell ⟨b, 1 + 4 * i, none⟩ (.slice none 0 0)) base b room (upd V i (.slice none 0 0)) H (upd X i (cutW (X i))) ∧ Trs (ppS b V H) w (w2.setCell ⟨b, 1 + 4 * i, none⟩ (.slice none 0 0)) := by
  have ht0 : Trs (b :: (V i).ownBlock.toList) w w2 := ((Trs.refl _ w).set (p := ⟨b, 2 + 4 * i, none⟩) (by simp) (.bool true)).grown hg (fun k e => by simp [e])
  have ht : Trs (b :: (V i).ownBlock.toList) w (w2.setCell ⟨b, 1 + 4 * i, none⟩ (.slice none 0 0)) := ht0.set (by simp) _
  have hb2 := ((h.blk.set (2 + 4 * i) (.bool true)).grown hg (h.apb i hi).1.symm).set (1 + 4 * i) (.slice none 0 0)
  obtain ⟨g1, g2, _⟩ := h.turn i hi (.slice none 0 0) (cutW (X i)) _ ht (fun k hk => by
      rcases List.mem_cons.1 hk with e | e
      · exact .inl e
      · exact .inr (.inr (by simpa using e))) (by
      rcases (show i = 0 ∨ i = 1 by omega) with rfl | rfl
      · exact hb2
      · exact hb2) (OwnB.nil _ _) ((h.hash i hi).trs ht (fun hm => by
      rcases List.mem_cons.1 hm with e | e
      · exact (h.apb i hi).2 e
      · exact h.aph i i hi hi (by simpa using e))) (fun k e => by cases e) (by show 0 ≤ room; omega)
  exact ⟨g1, g2⟩
set_option maxHeartbeats 1000000 in
theorem cut_pp (h : PP w base b room V H X) :
    Calls Tryd.prog 18 #[tP b] w fun e w' => e = .returned (.tuple #[]) ∧ PP w' base b room (cutV V 2) H (cutX X 2) ∧ Trs (ppS b V H) w w' := by
  have HP := Lib.hid h; clear h
  go_enter Tryd.func18, Tryd.ntmps18
  go_wp2_with fail
  go_loopw [2, 3, 6] (fun _ _ i wr => ∃ k : Nat, k ≤ 2 ∧ i = .int .i64 (k : Int) ∧ PP wr base b room (cutV V k) H (cutX X k) ∧ Trs (ppS b V H) w wr) (fun _ _ i _ => 2 - (intOf i).toNat)
  case atStart => exact ⟨0, by omega, rfl, HP.out, Trs.refl _ _⟩
  case round =>
    obtain ⟨k, hk, rfl, hp, ht⟩ := hrel
    have HQ := Lib.hid hp
    have HT := Lib.hid ht
    clear hp ht
    rcases (show k = 0 ∨ k = 1 ∨ k = 2 by omega) with rfl | rfl | rfl
    · have hpb := HQ.out.blk
      have f1 := hpb.free 2
      have c1 := hpb.at (o := 2) rfl
      obtain ⟨A, C, hV, _, _, _, _⟩ := (HQ.out.own 0 (by omega)).sl
      have hO1 : OwnB (wr.setCell ⟨b, 2, none⟩ (.bool true)) base (cutV V 0 0) (cutX X 0 0).buf := (HQ.out.own 0 (by omega)).kept (grown_set wr ⟨b, 2, none⟩ _) (.inr (HQ.out.apb 0 (by omega)).1)
      obtain ⟨w2, hcl, hg2⟩ := clear_any base _ _ _ hO1
      have HF := Lib.hid (cut_fin HQ.out 0 (by omega) hg2)
      have hk2 := (hpb.set 2 (.bool true)).grown hg2 (HQ.out.apb 0 (by omega)).1.symm
      have c0 : wr.cell? ⟨b, 1, none⟩ = some (cutV V 0 0) := hpb.at (o := 1) rfl
      have e0 := hk2.at (o := 1) rfl
      have e1 := hk2.free 1
      rw [hV] at hcl c0
      clear hpb hO1 hg2 hk2
      go_wp2_with fail
      exact ⟨⟨0 + 1, by omega, rfl, by rw [← cutV_succ, ← cutX_succ, ← cutX_at X 0]; exact HF.out.1, HT.out.trans (HF.out.2.mono (cutV_sub V b 0 H))⟩, by simp [intOf]⟩
    · have hpb := HQ.out.blk
      have f1 := hpb.free 6
      have c1 := hpb.at (o := 6) rfl
      obtain ⟨A, C, hV, _, _, _, _⟩ := (HQ.out.own 1 (by omega)).sl
      have hO1 : OwnB (wr.setCell ⟨b, 6, none⟩ (.bool true)) base (cutV V 1 1) (cutX X 1 1).buf := (HQ.out.own 1 (by omega)).kept (grown_set wr ⟨b, 6, none⟩ _) (.inr (HQ.out.apb 1 (by omega)).1)
      obtain ⟨w2, hcl, hg2⟩ := clear_any base _ _ _ hO1
      have HF := Lib.hid (cut_fin HQ.out 1 (by omega) hg2)
      have hk2 := (hpb.set 6 (.bool true)).grown hg2 (HQ.out.apb 1 (by omega)).1.symm
      have c0 : wr.cell? ⟨b, 5, none⟩ = some (cutV V 1 1) := hpb.at (o := 5) rfl
      have e0 := hk2.at (o := 5) rfl
      have e1 := hk2.free 5
      rw [hV] at hcl c0
      clear hpb hO1 hg2 hk2
      go_wp2_with fail
      exact ⟨⟨1 + 1, by omega, rfl, by rw [← cutV_succ, ← cutX_succ, ← cutX_at X 1]; exact HF.out.1, HT.out.trans (HF.out.2.mono (cutV_sub V b 1 H))⟩, by simp [intOf]⟩
    · go_wp2_with fail
      go_end0
      exact ⟨rfl, HQ.out, HT.out⟩
end
end Go.Proofs.YtlobmffcnobgeaaDoor
set_option maxRecDepth 100000
namespace Go.Proofs.YtlobmffcnobgeaaDoor
open Go.RowKit
attribute [local go_sem] Oper.semAt_some
theorem OwnB.notIn {w : World} {bs : Nat} {v : Value} {l : List UInt8} {S : List Nat} (h : OwnB w bs v l) (hS : ∀ k ∈ S, k < bs ∨ w.heap.size ≤ k) : ∀ k, v.ownBlock = some k → k ∉ S := by
  intro k hk hm
  have h1 := h.lt k hk
  rcases hS k hm with h2 | h2 <;> omega
theorem PP.toBelow {w w' : World} {base b room : Nat} {V : Nat → Value} {H : Nat → Nat} {X : Nat → WayL} (h : PP w base b room V H X) (ht : Trs (ppS b V H) w w') : Below base w w' :=
  ht.toBelow h.size (fun k hk => (h.inS k hk).1)
theorem ppS_of {b : Nat} {V V' : Nat → Value} {H : Nat → Nat} (h : ∀ i, i < 2 → (V' i).ownBlock = (V i).ownBlock) : ppS b V' H = ppS b V H := by
  unfold ppS; rw [h 0 (by omega), h 1 (by omega)]
theorem upd_own {V : Nat → Value} {i : Nat} {v : Value} (h : v.ownBlock = (V i).ownBlock) : ∀ j, j < 2 → (upd V i v j).ownBlock = (V j).ownBlock := by
  intro j _
  unfold upd
  split
  · next e => rw [e]; exact h
  · rfl
set_option maxHeartbeats 2000000 in
theorem awake22 (w : World) (hT : TabA w) (hG : 1 < w.heap.size) : Calls Tryd.prog 6 #[] w fun e w' => e = .returned (.bool true) ∧ Below w.heap.size w w' := by
  have kc := fun (w : World) (C : Array Value) (n c : Nat) => Lib.run_convert_bytes_const (P := Tryd.prog) w 29 5 C n c Tryd.underlying29 Tryd.underlying5
  have HNew := Lib.hid (new_pp 4 w (by omega) (by omega) hT hG)
  clear hT
  go_enter Tryd.func6, Tryd.ntmps6
  go_wp2_with fail
  refine HNew.out.mono ?_
  rintro e w1 ⟨V, H, rfl, hP1, hB1⟩
  have HP1 := Lib.hid hP1
  have HB1 := Lib.hid hB1
  clear hP1 hB1 HNew
  go_wp2_with fail
  have hS2 := Sl.newF w1 #[.int .u8 97, .int .u8 98, .int .u8 99, .int .u8 100, .int .u8 101] 5 (5, 6) [97, 98, 99, 100, 101] (B := w1.heap.size + 1) rfl rfl rfl (by omega) (by simp)
  have hB2 : Below w1.heap.size w1 (w1.alloc (.cells #[.int .u8 97, .int .u8 98, .int .u8 99, .int .u8 100, .int .u8 101] 5 (5, 6))) := (Below.refl _ _).alloc (Nat.le_refl _) _
  refine (write_0 (HP1.out.below hB2) rfl (w1.heap.size + 1) _ _ hS2).mono ?_
  rintro e w2 ⟨rfl, v2, hP2, hT2, hN2⟩
  have HB2 := Lib.hid (HB1.out.trans ((hB2.mono HB1.out.size).trans ((HP1.out.below hB2).toBelow hT2)))
  obtain ⟨X2, hX2⟩ : ∃ X, X = upd (fun _ => wnew) 0 (wrX 4 wnew [97, 98, 99, 100, 101]) := ⟨_, rfl⟩
  obtain ⟨V2, hV2⟩ : ∃ X, X = upd V 0 v2 := ⟨_, rfl⟩
  have e2 : X2 0 = ⟨[97, 98, 99, 100], false, 4, []⟩ := by rw [hX2]; rfl
  have hn2 : (wrN 4 wnew [97, 98, 99, 100, 101] : Int) = 4 := rfl
  have HP2 := Lib.hid (show PP w2 w.heap.size w.heap.size 4 V2 H X2 from by rw [hX2, hV2]; exact hP2)
  have HE2 := Lib.hid e2
  clear hP2 hT2 hN2 hB2 hS2 hX2 hV2 HP1 HB1 e2
  rw [hn2]
  clear hn2
  go_wp2_with fail
  refine (read_0 HP2.out 2).mono ?_
  rintro e w3 ⟨va, v3, rfl, hO3, hv3, hP3, hT3⟩
  rw [HE2.out] at hO3 hP3
  have HB3 := Lib.hid (HB2.out.trans (HP2.out.toBelow hT3))
  have hO3' : OwnB w3 w2.heap.size va [97, 98] := hO3
  obtain ⟨V3, hV3⟩ : ∃ X, X = upd V2 0 v3 := ⟨_, rfl⟩
  obtain ⟨X3, hX3⟩ : ∃ X, X = upd X2 0 (rdX ⟨[97, 98, 99, 100], false, 4, []⟩ 2) := ⟨_, rfl⟩
  have e3 : X3 0 = ⟨[99, 100], false, 4, [97, 98]⟩ := by rw [hX3]; rfl
  have hs3 : ppS w.heap.size V3 H = ppS w.heap.size V2 H := by rw [hV3]; exact ppS_of (upd_own hv3)
  have HP3 := Lib.hid (show PP w3 w.heap.size w.heap.size 4 V3 H X3 from by rw [hX3, hV3]; exact hP3)
  have HE3 := Lib.hid e3
  have HO3 := Lib.hid hO3'
  have HN3 := Lib.hid (show ∀ k ∈ ppS w.heap.size V3 H, k < w2.heap.size from by rw [hs3]; exact fun k hk => (HP2.out.inS k hk).2)
  obtain ⟨aA, aC, rfl, _, _, _, _⟩ := hO3'.sl
  have hz3 := hT3.size
  clear hO3 hO3' hv3 hP3 hT3 hs3 hV3 hX3 e3 HP2 HE2 HB2
  go_wp2_with fail
  have hS4 := Sl.newF w3 #[.int .u8 102, .int .u8 103] 5 (2, 3) [102, 103] (B := w3.heap.size + 1) rfl rfl rfl (by omega) (by simp)
  have hB4 : Below w3.heap.size w3 (w3.alloc (.cells #[.int .u8 102, .int .u8 103] 5 (2, 3))) := (Below.refl _ _).alloc (Nat.le_refl _) _
  refine (write_0 (HP3.out.below hB4) (by rw [HE3.out]) (w3.heap.size + 1) _ _ hS4).mono ?_
  rintro e w4 ⟨rfl, v4, hP4, hT4, hN4⟩
  have HB4 := Lib.hid (HB3.out.trans ((hB4.mono HB3.out.size).trans ((HP3.out.below hB4).toBelow hT4)))
  rw [HE3.out] at hP4 ⊢
  obtain ⟨X4, hX4⟩ : ∃ X, X = upd X3 0 (wrX 4 ⟨[99, 100], false, 4, [97, 98]⟩ [102, 103]) := ⟨_, rfl⟩
  obtain ⟨V4, hV4⟩ : ∃ X, X = upd V3 0 v4 := ⟨_, rfl⟩
  have e4 : X4 0 = ⟨[99, 100, 102, 103], false, 6, [97, 98]⟩ := by rw [hX4]; rfl
  have hn4 : (wrN 4 ⟨[99, 100], false, 4, [97, 98]⟩ [102, 103] : Int) = 2 := rfl
  have HP4 := Lib.hid (show PP w4 w.heap.size w.heap.size 4 V4 H X4 from by rw [hX4, hV4]; exact hP4)
  have HE4 := Lib.hid e4
  have ho4 := (HO3.out.below hB4).trs hT4 ((HO3.out.below hB4).notIn (fun k hk => .inl (HN3.out k hk)))
  have HO4 := Lib.hid ho4
  have HN4 := Lib.hid (show ∀ k, (Value.slice aA 2 aC).ownBlock = some k → k ∉ ppS w.heap.size V4 H from by
    rw [hV4]
    refine HO3.out.notIn (fun k hk => ?_)
    rcases hN4 k hk with h | h
    · exact .inl (HN3.out k h)
    · right; have := hB4.size; omega)
  clear hP4 hT4 hN4 hB4 hS4 hX4 hV4 e4 ho4 HP3 HE3 HB3 HO3 HN3
  rw [hn4]
  clear hn4
  go_wp2_with fail
  refine (read_0 HP4.out 9).mono ?_
  rintro e w5 ⟨vb', v5, rfl, hO5, hv5, hP5, hT5⟩
  rw [HE4.out] at hO5
  have HB5 := Lib.hid (HB4.out.trans (HP4.out.toBelow hT5))
  have hO5' : OwnB w5 w4.heap.size vb' [99, 100, 102, 103] := hO5
  have hO3' := HO4.out.trs hT5 HN4.out
  obtain ⟨bA, bC, rfl, _, _, _, _⟩ := hO5'.sl
  have hc1 : (convert 29 9 (.slice aA 2 aC)).run Tryd.prog w5 = .ok (str [97, 98]) w5 := conv_sl hO3'.sl
  have hc2 : (convert 29 9 (.slice bA 4 bC)).run Tryd.prog w5 = .ok (str [99, 100, 102, 103]) w5 := conv_sl hO5'.sl
  clear hO5 hO5' hO3' hv5 hP5 hT5 HP4 HB4 HE4 HO4 HN4
  go_wp2_with fail
  go_ret
  exact ⟨rfl, HB5.out⟩
end Go.Proofs.YtlobmffcnobgeaaDoor
