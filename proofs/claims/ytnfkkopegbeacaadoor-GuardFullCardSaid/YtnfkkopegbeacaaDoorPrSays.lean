/- table: says, which calls what it is given behind a deferred recover; what Sweep hands it. -/
import Derived.Test.YtnfkkopegbeacaaDoorGdFail
import Derived.Defers
import Derived.Recover
set_option maxRecDepth 100000
namespace Go.Proofs.YtnfkkopegbeacaaDoor
open Go.RowKit Go.Shelf
abbrev gS1 : Nat := 36
/-- The deferred closure, entered by a frame that returns: there is nothing to recover. -/
theorem says_idle (w : World) : CallsD Tryd.prog 49 #[] .returning w fun e u' w' => e = .returned (.tuple #[]) ∧ u' = .returning ∧ w' = w := by
  refine callsD_of_wpS Tryd.func49 rfl fun c₀ cs hu => ?_
  try apply wpS_seq
  apply wpS_region
  simp [wpOpsS, go_sem, recoverD, hu, Tryd.ntmps49]
  cases c₀
  simp_all [bodyPostS, results, Tryd.results49]
theorem sadd_any (a b : Int) (w : World) (a0 : 0 ≤ a) (a1 : a < 18446744073709551616) (b0 : 0 ≤ b) (b1 : b < 18446744073709551616) : Calls Tryd.prog 37 #[u64v a, u64v b] w fun e w' => e = .returned (u64v (tI (tI a + tI b))) ∧ w' = w := by
  obtain ⟨ha, hb⟩ : _ ∧ _ := ⟨tI_range a0, tI_range b0⟩
  go_enter Tryd.func37, Tryd.ntmps37
  go_wp2_with fail
  refine (tick_any a w a0 a1).mono ?_
  rintro e w1 ⟨rfl, rfl⟩
  go_wp2_with fail
  refine (tick_any b w1 b0 b1).mono ?_
  rintro e w2 ⟨rfl, rfl⟩
  go_wp2_with fail
  refine (tick_any _ w2 (by omega) (by omega)).mono ?_
  rintro e w3 ⟨rfl, rfl⟩
  go_wp2_with fail
  go_ret
  exact ⟨rfl, rfl⟩
theorem sweep1_any {w : World} {G : Nat} {b mo ho now : Int} {T : Nat} {p2 p3 : Addr} (k : List UInt8) (v : VT) (hg : BlkT w G gT [u64v b, u64v mo, u64v ho, tP T]) (h2 : w.cell? p2 = some (tP G)) (h3 : w.cell? p3 = some (u64v now))
    (u0 : 0 ≤ v.u) (u1 : v.u < 18446744073709551616) (k0 : 0 ≤ ho) (k1 : ho ≤ 1099511627776) :
    Calls Tryd.prog gS1 #[strT k, vv v, .pointer (some p3), .pointer (some p2)] w fun e w' => e = .returned (.bool (decide (tI (tI v.u + tI ho) ≤ now))) ∧ Below w.heap.size w w' := by
  unfold vv
  obtain ⟨P, hP⟩ : ∃ P, P = w.heap.size := ⟨_, rfl⟩
  obtain ⟨X, hX⟩ : ∃ X, X = tI (tI v.u + tI ho) := ⟨_, rfl⟩
  obtain ⟨W, hW⟩ : ∃ W, W = w.alloc (.cells #[strT v.s, .int .i64 v.f, .int .u64 v.a, .int .u64 v.u] 51) := ⟨_, rfl⟩
  have hbk : BlkT W P 51 [strT v.s, .int .i64 v.f, .int .u64 v.a, .int .u64 v.u] := by rw [hW, hP]; exact heap_alloc_new w _
  have hgW : BlkT W G gT [u64v b, u64v mo, u64v ho, tP T] := by rw [hW]; exact hg.alloc _
  have hB : Below w.heap.size w W := by rw [hW]; exact (Below.refl _ w).alloc (Nat.le_refl _) _
  have e2 : W.cell? p2 = some (tP G) := (hB.cell (World.block_lt_of_cell? w p2 h2)).trans h2
  have e3 : W.cell? p3 = some (u64v now) := (hB.cell (World.block_lt_of_cell? w p3 h3)).trans h3
  rw [← hX]
  have HB := Lib.hid hB; clear hB h2 h3 hg
  go_enter Tryd.func36, Tryd.ntmps36
  go_wp2_with fail
  rw [← hW, ← hP]
  clear hW hP
  refine wp_region_noPanic ?_
  refine wp_region_held (S := fun w' => w'.cell? p3 = some (u64v now) ∧ w'.cell? ⟨P, 3, none⟩ = some (u64v v.u) ∧ w'.cell? p2 = some (tP G) ∧ w'.cell? ⟨G, 2, none⟩ = some (u64v ho)) (by kernel_rfl) ?_
  change wpAnyH _ _ _ _ _ _ _ _ W.drew
  have hS0 : W.drew.cell? p3 = some (u64v now) ∧ W.drew.cell? ⟨P, 3, none⟩ = some (u64v v.u) ∧ W.drew.cell? p2 = some (tP G) ∧ W.drew.cell? ⟨G, 2, none⟩ = some (u64v ho) := ⟨e3, hbk.drew.at rfl, e2, hgW.drew.at rfl⟩
  clear e2 e3 hbk hgW
  refine takeH 0 7 (u64v now) rfl rfl (by kernel_rfl) (by kernel_rfl) (by kernel_rfl) (fun _ _ _ h => h) rfl (fun w' hS => by obtain ⟨s0, s1, s2, s3⟩ := hS; go_simp) hS0 ?_
  go_frame
  refine takeH 1 8 (Value.pointer (some ⟨P, 3, none⟩)) rfl rfl (by kernel_rfl) (by kernel_rfl) (by kernel_rfl) (fun _ _ _ h => h) rfl (fun w' hS => by obtain ⟨s0, s1, s2, s3⟩ := hS; go_simp) hS0 ?_
  go_frame
  refine takeH 2 9 (u64v v.u) rfl rfl (by kernel_rfl) (by kernel_rfl) (by kernel_rfl) (fun _ _ _ h => h) rfl (fun w' hS => by obtain ⟨s0, s1, s2, s3⟩ := hS; go_simp) hS0 ?_
  go_frame
  refine takeH 3 10 (tP G) rfl rfl (by kernel_rfl) (by kernel_rfl) (by kernel_rfl) (fun _ _ _ h => h) rfl (fun w' hS => by obtain ⟨s0, s1, s2, s3⟩ := hS; go_simp) hS0 ?_
  go_frame
  refine takeH 4 11 (tP G) rfl rfl (by kernel_rfl) (by kernel_rfl) (by kernel_rfl) (fun _ _ _ h => h) rfl (fun w' hS => by obtain ⟨s0, s1, s2, s3⟩ := hS; go_simp) hS0 ?_
  go_frame
  refine takeH 5 12 (Value.pointer (some ⟨G, 2, none⟩)) rfl rfl (by kernel_rfl) (by kernel_rfl) (by kernel_rfl) (fun _ _ _ h => h) rfl (fun w' hS => by obtain ⟨s0, s1, s2, s3⟩ := hS; go_simp) hS0 ?_
  go_frame
  refine takeH 6 13 (u64v ho) rfl rfl (by kernel_rfl) (by kernel_rfl) (by kernel_rfl) (fun _ _ _ h => h) rfl (fun w' hS => by obtain ⟨s0, s1, s2, s3⟩ := hS; go_simp) hS0 ?_
  go_frame
  refine wpAnyH_all (rs := [7]) (by kernel_rfl) (by simp) ?_
  simp only [List.mem_singleton, forall_eq]
  refine wpOp_callD 14 rfl rfl rfl 37 #[u64v v.u, u64v ho] (by go_simp) ?_
  refine (sadd_any v.u ho W.drew u0 u1 k0 (by omega)).mono ?_
  rintro e w3 ⟨rfl, rfl⟩
  rw [← hX]
  refine ⟨_, rfl, hS0, ?_⟩
  go_frame
  refine takeH 8 15 (.bool (decide (X ≤ now))) rfl rfl (by kernel_rfl) (by kernel_rfl) (by kernel_rfl) (fun _ _ _ h => h) rfl (fun w' hS => by obtain ⟨s0, s1, s2, s3⟩ := hS; go_simp) hS0 ?_
  go_frame
  refine takeH 9 6 (.bool (decide (X ≤ now))) rfl rfl (by kernel_rfl) (by kernel_rfl) (by kernel_rfl) (fun _ _ _ h => h) rfl (fun w' hS => by obtain ⟨s0, s1, s2, s3⟩ := hS; go_simp) hS0 ?_
  go_frame
  refine wpAnyH_done (by kernel_rfl) ?_ _
  refine NoPanic.normal ?_
  clear hS0
  go_wp2_with fail
  go_ret
  exact ⟨rfl, HB.out.drew⟩
/-- says hands on what its function answers, where that one returns. -/
theorem says_any {w : World} {p2 p3 : Addr} {r : Bool} (k : List UInt8) (v : VT) (hf : ∀ W, Below w.heap.size w W → Calls Tryd.prog gS1 #[strT k, vv v, .pointer (some p3), .pointer (some p2)] W fun e w' => e = .returned (.bool r) ∧ Below W.heap.size W w') :
    Calls Tryd.prog 44 #[.func (.func gS1) #[] #[.pointer (some p3), .pointer (some p2)], strT k, vv v] w fun e w' => e = .returned (.bool r) ∧ Below w.heap.size w w' := by
  have hmf : ∀ (fn : Fn) (first cap : Array Value) (w : World), (Instr.makeFunc fn first cap).run Tryd.prog w = .ok (.func fn first cap) w := fun _ _ _ _ => rfl
  unfold vv at hf ⊢
  have hB0 : Below w.heap.size w (w.alloc (.cells #[strT v.s, .int .i64 v.f, .int .u64 v.a, .int .u64 v.u] 51)) := (Below.refl _ w).alloc (Nat.le_refl _) _
  have HF := Lib.hid (hf _ hB0); clear hf
  have HB0 := Lib.hid hB0; clear hB0
  go_enter_defers Tryd.func44, Tryd.ntmps44
  go_wp2_with fail
  refine HF.out.mono ?_
  rintro e w1 ⟨rfl, hB⟩
  have HB := Lib.hid (HB0.out.trans (hB.mono (by simp))); clear hB HF HB0 hmf
  go_wp2_with fail
  refine leaves_cons (f := 49) (args := #[]) (by simp) (by simp [go_sem]) ?_
  refine (says_idle _).mono ?_
  rintro e u' w'' ⟨rfl, rfl, rfl⟩
  exact ⟨_, results_tmp rfl _ _ _, rfl, HB.out⟩
end Go.Proofs.YtnfkkopegbeacaaDoor
