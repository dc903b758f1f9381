/- The reference's Few. -/
import Derived.Test.YthpkmdojeegleaaGreatDoorRuVa
import Derived.Test.YthpkmdojeegleaaGreatDoorStrT
import Derived.StillTailTactics
set_option maxRecDepth 100000
namespace Go.Proofs.YthpkmdojeegleaaGreatDoor
open Go.RowKit Go.Shelf
attribute [local go_sem] Oper.semAt_some
/-- A rule that isn't too great. -/
def fewR (r : RuL) : RuL := { r with role := r.role.take 40, ten := r.ten.take 40, host := r.host.take 40 }
/-- What a rule's texts may be. -/
def GoodR (r : RuL) : Prop := r.role.length ≤ 9223372036854775807 ∧ r.ten.length ≤ 9223372036854775807 ∧ r.host.length ≤ 9223372036854775807
theorem fewR_small (r : RuL) : (fewR r).role.length ≤ 40 ∧ (fewR r).ten.length ≤ 40 ∧ (fewR r).host.length ≤ 40 := by
  unfold fewR
  simp only [List.length_take]
  omega
theorem fewR_smallR (r : RuL) : SmallR (fewR r) := by
  obtain ⟨h1, h2, h3⟩ := fewR_small r
  exact ⟨by omega, by omega, by omega⟩
set_option maxHeartbeats 1000000 in
theorem refFew_any (r : RuL) (w : World) (hg : GoodR r) : Calls Tryz.prog 14 #[ragg r] w fun e w' => e = .returned (ragg (fewR r)) ∧ Below w.heap.size w w' := by
  obtain ⟨al, ro, te, ho, fr, ti⟩ := r
  obtain ⟨g1, g2, g3⟩ := hg
  have hfe : fewR ⟨al, ro, te, ho, fr, ti⟩ = ⟨al, ro.take 40, te.take 40, ho.take 40, fr, ti⟩ := rfl
  rw [hfe]
  have e40 : ∀ s : List UInt8, s.take (40 : Int).toNat = s.take 40 := fun _ => rfl
  have HC1 := Lib.hid (fun W => cutText_any ro 40 W g1 (by omega) (by omega))
  have HC2 := Lib.hid (fun W => cutText_any te 40 W g2 (by omega) (by omega))
  have HC3 := Lib.hid (fun W => cutText_any ho 40 W g3 (by omega) (by omega))
  rw [e40] at HC1 HC2 HC3
  obtain ⟨ro', h1⟩ : ∃ x, x = ro.take 40 := ⟨_, rfl⟩
  obtain ⟨te', h2⟩ : ∃ x, x = te.take 40 := ⟨_, rfl⟩
  obtain ⟨ho', h3⟩ : ∃ x, x = ho.take 40 := ⟨_, rfl⟩
  rw [← h1] at HC1 ⊢
  rw [← h2] at HC2 ⊢
  rw [← h3] at HC3 ⊢
  obtain ⟨W, hW⟩ : ∃ W, W = (w.alloc (.cells #[.bool al, str ro, str te, str ho, .int .i64 fr, .int .i64 ti] 33)).alloc (.cells #[.bool false, str [], str [], str [], .int .i64 0, .int .i64 0] 33) := ⟨_, rfl⟩
  have hk0 : Blk W w.heap.size [.bool al, str ro, str te, str ho, .int .i64 fr, .int .i64 ti] := by rw [hW]; exact (Blk.new w _ _).alloc _
  have hk1 : Blk W (w.heap.size + 1) [.bool false, str [], str [], str [], .int .i64 0, .int .i64 0] := by
    rw [hW]
    have := Blk.new (w.alloc (.cells #[.bool al, str ro, str te, str ho, .int .i64 fr, .int .i64 ti] 33)) [.bool false, str [], str [], str [], .int .i64 0, .int .i64 0] 33
    rwa [World.size_alloc] at this
  have HB0 := Lib.hid (show Below w.heap.size w W from by rw [hW]; exact ((Below.refl _ w).alloc (Nat.le_refl _) _).alloc (by simp) _)
  have HK0 := Lib.hid hk0; have HK1 := Lib.hid hk1
  have d1 := hk0.at (o := 1) rfl
  have d2 := hk0.at (o := 2) rfl
  have d3 := hk0.at (o := 3) rfl
  have D1 := Lib.hid d1; have D2 := Lib.hid d2; have D3 := Lib.hid d3
  clear hfe h1 h2 h3 hk0 hk1 g1 g2 g3 d1 d2 d3 e40
  go_enter Tryz.func14, Tryz.ntmps14
  go_wp2_with fail
  rw [← hW]
  have d1 := D1.out; have d2 := D2.out; have d3 := D3.out
  clear hW
  refine wp_region_still_tail 10 (by kernel_rfl) (by kernel_rfl) ?_
  simp only [List.take_succ_cons, List.take_zero, List.drop_succ_cons, List.drop_zero]
  repeat still_step
  still_call ((HC1.out _).mono fun _ _ h => ⟨h.1, h.2.symm⟩)
  repeat still_step
  still_call ((HC2.out _).mono fun _ _ h => ⟨h.1, h.2.symm⟩)
  repeat still_step
  still_call ((HC3.out _).mono fun _ _ h => ⟨h.1, h.2.symm⟩)
  repeat still_step
  refine wpStill_nil ?_
  change wpList _ _ _ _ _ W.drew
  have hk := HK0.out
  have c0 := hk.at (o := 0) rfl
  have c1 := hk.at (o := 1) rfl
  have c2 := hk.at (o := 2) rfl
  have c3 := hk.at (o := 3) rfl
  have c4 := hk.at (o := 4) rfl
  have c5 := hk.at (o := 5) rfl
  have f1 := hk.free 1
  have f2 := hk.free 2
  have f3 := hk.free 3
  have hkt := HK1.out
  have t0 := hkt.at (o := 0) rfl
  have t1 := hkt.at (o := 1) rfl
  have t2 := hkt.at (o := 2) rfl
  have t3 := hkt.at (o := 3) rfl
  have t4 := hkt.at (o := 4) rfl
  have t5 := hkt.at (o := 5) rfl
  have u0 := hkt.free 0
  have u1 := hkt.free 1
  have u2 := hkt.free 2
  have u3 := hkt.free 3
  have u4 := hkt.free 4
  have u5 := hkt.free 5
  have hl0 := hk.lt
  have hl1 := hkt.lt
  clear hk hkt d1 d2 d3
  go_wp2_with fail
  have hfin := ((((((((((HB0.out.setCell (p := ⟨w.heap.size, 1, none⟩) (by show w.heap.size ≤ w.heap.size; omega) (str ro')).setCell (p := ⟨w.heap.size, 2, none⟩) (by show w.heap.size ≤ w.heap.size; omega) (str te')).setCell (p := ⟨w.heap.size, 3, none⟩) (by show w.heap.size ≤ w.heap.size; omega) (str ho')).setCell (p := ⟨w.heap.size + 1, 0, none⟩) (by show w.heap.size ≤ w.heap.size + 1; omega) (.bool al)).setCell (p := ⟨w.heap.size + 1, 1, none⟩) (by show w.heap.size ≤ w.heap.size + 1; omega) (str ro')).setCell (p := ⟨w.heap.size + 1, 2, none⟩) (by show w.heap.size ≤ w.heap.size + 1; omega) (str te')).setCell (p := ⟨w.heap.size + 1, 3, none⟩) (by show w.heap.size ≤ w.heap.size + 1; omega) (str ho')).setCell (p := ⟨w.heap.size + 1, 4, none⟩) (by show w.heap.size ≤ w.heap.size + 1; omega) (.int .i64 fr)).setCell (p := ⟨w.heap.size + 1, 5, none⟩) (by show w.heap.size ≤ w.heap.size + 1; omega) (.int .i64 ti))).drew
  exact bodyPost_ret (v := .agg #[.bool al, str ro', str te', str ho', .int .i64 fr, .int .i64 ti]) (by simp [results, Tryz.results14, go_sem, t0, t1, t2, t3, t4, t5]) rfl ⟨rfl, hfin⟩
end Go.Proofs.YthpkmdojeegleaaGreatDoor
