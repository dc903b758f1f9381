/- rule: the line of a rule, its Text. -/
import Derived.Test.YthpkmdojeegleaaGreatDoorRuTx
import Derived.Test.YthpkmdojeegleaaGreatDoorRuVa
import Derived.Test.YthpkmdojeegleaaGreatDoorDecW
import Derived.Test.YthpkmdojeegleaaGreatDoorRuPr
import Derived.Test.YthpkmdojeegleaaGreatDoorReg
set_option maxRecDepth 100000
namespace Go.Proofs.YthpkmdojeegleaaGreatDoor
open Go.RowKit Go.Shelf
attribute [local go_sem] Oper.semAt_some
set_option maxHeartbeats 1000000 in
theorem portsW_any (r : RuL) (w : World) (hE : Env w) (b1 : 1 ≤ r.frm) (b2 : r.frm ≤ r.til) (b3 : r.til ≤ 65535) : Calls Tryz.prog 52 #[ragg r] w fun e w' => e = .returned (str (portsL r.frm r.til)) ∧ Below w.heap.size w w' := by
  obtain ⟨al, ro, te, ho, fr, ti⟩ := r
  simp only at b1 b2 b3
  obtain ⟨W, hW⟩ : ∃ W, W = w.alloc (.cells #[.bool al, str ro, str te, str ho, .int .i64 fr, .int .i64 ti] 41) := ⟨_, rfl⟩
  have HB0 := Lib.hid (show Below w.heap.size w W from by rw [hW]; exact (Below.refl _ w).alloc (Nat.le_refl _) _)
  have HE0 := Lib.hid (hE.below HB0.out)
  have HK0 := Lib.hid (show Blk W w.heap.size [.bool al, str ro, str te, str ho, .int .i64 fr, .int .i64 ti] from by rw [hW]; exact Blk.new w _ _)
  have d0 := HK0.out.at (o := 0) rfl
  have d1 := HK0.out.at (o := 1) rfl
  have d2 := HK0.out.at (o := 2) rfl
  have d3 := HK0.out.at (o := 3) rfl
  have d4 := HK0.out.at (o := 4) rfl
  have d5 := HK0.out.at (o := 5) rfl
  rw [hW] at d0 d1 d2 d3 d4 d5
  rcases (show (fr = 1 ∧ ti = 65535) ∨ ((fr ≠ 1 ∨ ti ≠ 65535) ∧ fr = ti) ∨ ((fr ≠ 1 ∨ ti ≠ 65535) ∧ fr ≠ ti) by omega) with ⟨rfl, rfl⟩ | ⟨hn, rfl⟩ | ⟨hn, hne⟩
  · rw [show portsL (1 : Int) 65535 = [42] from rfl]
    go_enter Tryz.func52, Tryz.ntmps52
    go_wp2_with fail
    go_ret
    exact ⟨rfl, by first | exact HB0.out | (rw [← hW]; exact HB0.out)⟩
  · have HD1 := Lib.hid (fun W (h : Env W) => itoa_any fr W h (by omega) (by omega))
    have hp : portsL fr fr = if fr = 1 ∧ fr = 65535 then [42] else if fr = fr then Lib.itoa fr else Lib.itoa fr ++ [45] ++ Lib.itoa fr := rfl
    obtain ⟨D1, h1⟩ : ∃ D, D = Lib.itoa fr := ⟨_, rfl⟩
    rw [← h1] at HD1 hp
    clear h1
    rw [if_neg (by omega), if_pos rfl] at hp
    rw [hp]
    clear hp
    have hq1 : fr = 1 ∨ (fr == 1) = false := by by_cases e : fr = 1; exact .inl e; exact .inr (by rw [beq_eq_false_iff_ne]; exact e)
    have hne1 : fr ≠ 65535 ∨ fr ≠ 1 := by omega
    rcases hq1 with rfl | hq1
    all_goals
      go_enter Tryz.func52, Tryz.ntmps52
      go_wp2_with fail
      rw [← hW]
      refine (HD1.out _ HE0.out).mono ?_
      rintro e w1 ⟨rfl, hB⟩
      have HB1 := Lib.hid (HB0.out.trans (hB.mono HB0.out.size))
      clear hB d0 d1 d2 d3 d4 d5 hW
      go_wp2_with fail
      go_ret
      exact ⟨rfl, HB1.out⟩
  · have HD1 := Lib.hid (fun W (h : Env W) => itoa_any fr W h (by omega) (by omega))
    have HD2 := Lib.hid (fun W (h : Env W) => itoa_any ti W h (by omega) (by omega))
    have hp : portsL fr ti = if fr = 1 ∧ ti = 65535 then [42] else if fr = ti then Lib.itoa fr else Lib.itoa fr ++ [45] ++ Lib.itoa ti := rfl
    have k1 := itoa_short fr (by omega) (by omega)
    have k2 := itoa_short ti (by omega) (by omega)
    obtain ⟨D1, h1⟩ : ∃ D, D = Lib.itoa fr := ⟨_, rfl⟩
    obtain ⟨D2, h2⟩ : ∃ D, D = Lib.itoa ti := ⟨_, rfl⟩
    rw [← h1] at HD1 hp k1
    rw [← h2] at HD2 hp k2
    clear h1 h2
    rw [if_neg (by omega), if_neg hne] at hp
    rw [hp]
    clear hp
    have hq3 : (fr == ti) = false := by rw [beq_eq_false_iff_ne]; exact hne
    have hq1 : (fr = 1 ∧ (ti == 65535) = false) ∨ (fr == 1) = false := by
      by_cases e : fr = 1
      · exact .inl ⟨e, by rw [beq_eq_false_iff_ne]; omega⟩
      · exact .inr (by rw [beq_eq_false_iff_ne]; exact e)
    have hE0 := hE
    rcases hq1 with ⟨rfl, hq1⟩ | hq1
    · skip
      go_enter Tryz.func52, Tryz.ntmps52
      go_wp2_with fail
      rw [← hW]
      refine wp_region_noPanic ?_
      refine wp_region_held (S := fun W => W.cell? ⟨w.heap.size, 4, none⟩ = some (.int .i64 1) ∧ W.cell? ⟨w.heap.size, 5, none⟩ = some (.int .i64 ti)) (by kernel_rfl) ?_
      change wpAnyH _ _ _ _ _ _ _ _ W.drew
      clear d0 d1 d2 d3 d4 d5 hW
      have HSIX := Lib.hid (fun W (h : Blk W w.heap.size [.bool al, str ro, str te, str ho, .int .i64 1, .int .i64 ti]) => (show W.cell? ⟨w.heap.size, 4, none⟩ = some (.int .i64 1) ∧ W.cell? ⟨w.heap.size, 5, none⟩ = some (.int .i64 ti) from ⟨h.at (o := 4) rfl, h.at (o := 5) rfl⟩))
      obtain ⟨V1, hV1⟩ : ∃ V, V = W.drew := ⟨_, rfl⟩
      have HK1 := Lib.hid (show Blk V1 w.heap.size _ from by rw [hV1]; exact HK0.out.drew)
      have HB1 := Lib.hid (show Below w.heap.size w V1 from by rw [hV1]; exact HB0.out.drew)
      have HE1 := Lib.hid (hE0.below HB1.out)
      rw [← hV1]
      clear hV1
      have HX := Lib.hid (HSIX.out _ HK1.out)
      refine takeH 0 21 (.pointer (some ⟨w.heap.size, 4, none⟩)) rfl rfl (by kernel_rfl) (by kernel_rfl) (by kernel_rfl) (fun _ _ _ h => h) rfl (fun w' h => by obtain ⟨h0, h1⟩ := h; go_simp) HX.out ?_
      go_frame
      refine takeH 1 22 (.int .i64 1) rfl rfl (by kernel_rfl) (by kernel_rfl) (by kernel_rfl) (fun _ _ _ h => h) rfl (fun w' h => by obtain ⟨h0, h1⟩ := h; go_simp) HX.out ?_
      go_frame
      refine takeH 4 25 (.pointer (some ⟨w.heap.size, 5, none⟩)) rfl rfl (by kernel_rfl) (by kernel_rfl) (by kernel_rfl) (fun _ _ _ h => h) rfl (fun w' h => by obtain ⟨h0, h1⟩ := h; go_simp) HX.out ?_
      go_frame
      refine takeH 5 26 (.int .i64 ti) rfl rfl (by kernel_rfl) (by kernel_rfl) (by kernel_rfl) (fun _ _ _ h => h) rfl (fun w' h => by obtain ⟨h0, h1⟩ := h; go_simp) HX.out ?_
      go_frame
      refine wpAnyH_all (rs := [2]) (by kernel_rfl) (by simp) ?_
      simp only [List.mem_singleton, forall_eq]
      refine wpOp_callD 23 rfl rfl rfl 68 #[.int .i64 1] (by go_simp) ?_
      refine (HD1.out _ HE1.out).mono ?_
      rintro e V2 ⟨rfl, hB⟩
      have HK2 := Lib.hid (HK1.out.below hB HK1.out.lt)
      have HB2 := Lib.hid (HB1.out.trans (hB.mono HB1.out.size))
      have HE2 := Lib.hid (hE0.below HB2.out)
      clear hB
      refine ⟨_, rfl, HSIX.out _ HK2.out, ?_⟩
      go_frame
      have HX := Lib.hid (HSIX.out _ HK2.out)
      refine takeH 3 24 (.string ((⟨D1.toArray⟩ : ByteArray) ++ ⟨#[45]⟩)) rfl rfl (by kernel_rfl) (by kernel_rfl) (by kernel_rfl) (fun _ _ _ h => h) rfl (fun w' h => by obtain ⟨h0, h1⟩ := h; go_simp; omega) HX.out ?_
      go_frame
      refine wpAnyH_all (rs := [6]) (by kernel_rfl) (by simp) ?_
      simp only [List.mem_singleton, forall_eq]
      refine wpOp_callD 27 rfl rfl rfl 68 #[.int .i64 ti] (by go_simp) ?_
      refine (HD2.out _ HE2.out).mono ?_
      rintro e V3 ⟨rfl, hB⟩
      have HK3 := Lib.hid (HK2.out.below hB HK2.out.lt)
      have HB3 := Lib.hid (HB2.out.trans (hB.mono HB2.out.size))
      clear hB
      refine ⟨_, rfl, HSIX.out _ HK3.out, ?_⟩
      go_frame
      have HX := Lib.hid (HSIX.out _ HK3.out)
      refine takeH 7 28 (.string (((⟨D1.toArray⟩ : ByteArray) ++ ⟨#[45]⟩) ++ ⟨D2.toArray⟩)) rfl rfl (by kernel_rfl) (by kernel_rfl) (by kernel_rfl) (fun _ _ _ h => h) rfl (fun w' h => by obtain ⟨h0, h1⟩ := h; go_simp; omega) HX.out ?_
      go_frame
      refine takeH 8 2 (.string (((⟨D1.toArray⟩ : ByteArray) ++ ⟨#[45]⟩) ++ ⟨D2.toArray⟩)) rfl rfl (by kernel_rfl) (by kernel_rfl) (by kernel_rfl) (fun _ _ _ h => h) rfl (fun w' h => by obtain ⟨h0, h1⟩ := h; go_simp) HX.out ?_
      go_frame
      refine wpAnyH_done (by kernel_rfl) ?_ _
      refine NoPanic.normal ?_
      go_wp2_with fail
      refine bodyPost_ret (v := str (D1 ++ [45] ++ D2)) ?_ rfl ⟨rfl, HB3.out⟩
      simp [results, Tryz.results52, go_sem]
      apply ByteArray.ext
      simp [ByteArray.data_append]
    · skip
      go_enter Tryz.func52, Tryz.ntmps52
      go_wp2_with fail
      rw [← hW]
      refine wp_region_noPanic ?_
      refine wp_region_held (S := fun W => W.cell? ⟨w.heap.size, 4, none⟩ = some (.int .i64 fr) ∧ W.cell? ⟨w.heap.size, 5, none⟩ = some (.int .i64 ti)) (by kernel_rfl) ?_
      change wpAnyH _ _ _ _ _ _ _ _ W.drew
      clear d0 d1 d2 d3 d4 d5 hW
      have HSIX := Lib.hid (fun W (h : Blk W w.heap.size [.bool al, str ro, str te, str ho, .int .i64 fr, .int .i64 ti]) => (show W.cell? ⟨w.heap.size, 4, none⟩ = some (.int .i64 fr) ∧ W.cell? ⟨w.heap.size, 5, none⟩ = some (.int .i64 ti) from ⟨h.at (o := 4) rfl, h.at (o := 5) rfl⟩))
      obtain ⟨V1, hV1⟩ : ∃ V, V = W.drew := ⟨_, rfl⟩
      have HK1 := Lib.hid (show Blk V1 w.heap.size _ from by rw [hV1]; exact HK0.out.drew)
      have HB1 := Lib.hid (show Below w.heap.size w V1 from by rw [hV1]; exact HB0.out.drew)
      have HE1 := Lib.hid (hE0.below HB1.out)
      rw [← hV1]
      clear hV1
      have HX := Lib.hid (HSIX.out _ HK1.out)
      refine takeH 0 21 (.pointer (some ⟨w.heap.size, 4, none⟩)) rfl rfl (by kernel_rfl) (by kernel_rfl) (by kernel_rfl) (fun _ _ _ h => h) rfl (fun w' h => by obtain ⟨h0, h1⟩ := h; go_simp) HX.out ?_
      go_frame
      refine takeH 1 22 (.int .i64 fr) rfl rfl (by kernel_rfl) (by kernel_rfl) (by kernel_rfl) (fun _ _ _ h => h) rfl (fun w' h => by obtain ⟨h0, h1⟩ := h; go_simp) HX.out ?_
      go_frame
      refine takeH 4 25 (.pointer (some ⟨w.heap.size, 5, none⟩)) rfl rfl (by kernel_rfl) (by kernel_rfl) (by kernel_rfl) (fun _ _ _ h => h) rfl (fun w' h => by obtain ⟨h0, h1⟩ := h; go_simp) HX.out ?_
      go_frame
      refine takeH 5 26 (.int .i64 ti) rfl rfl (by kernel_rfl) (by kernel_rfl) (by kernel_rfl) (fun _ _ _ h => h) rfl (fun w' h => by obtain ⟨h0, h1⟩ := h; go_simp) HX.out ?_
      go_frame
      refine wpAnyH_all (rs := [2]) (by kernel_rfl) (by simp) ?_
      simp only [List.mem_singleton, forall_eq]
      refine wpOp_callD 23 rfl rfl rfl 68 #[.int .i64 fr] (by go_simp) ?_
      refine (HD1.out _ HE1.out).mono ?_
      rintro e V2 ⟨rfl, hB⟩
      have HK2 := Lib.hid (HK1.out.below hB HK1.out.lt)
      have HB2 := Lib.hid (HB1.out.trans (hB.mono HB1.out.size))
      have HE2 := Lib.hid (hE0.below HB2.out)
      clear hB
      refine ⟨_, rfl, HSIX.out _ HK2.out, ?_⟩
      go_frame
      have HX := Lib.hid (HSIX.out _ HK2.out)
      refine takeH 3 24 (.string ((⟨D1.toArray⟩ : ByteArray) ++ ⟨#[45]⟩)) rfl rfl (by kernel_rfl) (by kernel_rfl) (by kernel_rfl) (fun _ _ _ h => h) rfl (fun w' h => by obtain ⟨h0, h1⟩ := h; go_simp; omega) HX.out ?_
      go_frame
      refine wpAnyH_all (rs := [6]) (by kernel_rfl) (by simp) ?_
      simp only [List.mem_singleton, forall_eq]
      refine wpOp_callD 27 rfl rfl rfl 68 #[.int .i64 ti] (by go_simp) ?_
      refine (HD2.out _ HE2.out).mono ?_
      rintro e V3 ⟨rfl, hB⟩
      have HK3 := Lib.hid (HK2.out.below hB HK2.out.lt)
      have HB3 := Lib.hid (HB2.out.trans (hB.mono HB2.out.size))
      clear hB
      refine ⟨_, rfl, HSIX.out _ HK3.out, ?_⟩
      go_frame
      have HX := Lib.hid (HSIX.out _ HK3.out)
      refine takeH 7 28 (.string (((⟨D1.toArray⟩ : ByteArray) ++ ⟨#[45]⟩) ++ ⟨D2.toArray⟩)) rfl rfl (by kernel_rfl) (by kernel_rfl) (by kernel_rfl) (fun _ _ _ h => h) rfl (fun w' h => by obtain ⟨h0, h1⟩ := h; go_simp; omega) HX.out ?_
      go_frame
      refine takeH 8 2 (.string (((⟨D1.toArray⟩ : ByteArray) ++ ⟨#[45]⟩) ++ ⟨D2.toArray⟩)) rfl rfl (by kernel_rfl) (by kernel_rfl) (by kernel_rfl) (fun _ _ _ h => h) rfl (fun w' h => by obtain ⟨h0, h1⟩ := h; go_simp) HX.out ?_
      go_frame
      refine wpAnyH_done (by kernel_rfl) ?_ _
      refine NoPanic.normal ?_
      go_wp2_with fail
      refine bodyPost_ret (v := str (D1 ++ [45] ++ D2)) ?_ rfl ⟨rfl, HB3.out⟩
      simp [results, Tryz.results52, go_sem]
      apply ByteArray.ext
      simp [ByteArray.data_append]
theorem join5 (a b c d e : List UInt8) : Lib.join [a, b, c, d, e] [32] = a ++ 32 :: (b ++ 32 :: (c ++ 32 :: (d ++ 32 :: e))) := by
  simp [Lib.join, List.intercalate]
theorem join5_any (g : Nat) (a b c d e : List UInt8) (w : World) (hk : Blk w g [str a, str b, str c, str d, str e]) (h1 : a.length ≤ 1000) (h2 : b.length ≤ 1000) (h3 : c.length ≤ 1000) (h4 : d.length ≤ 1000) (h5 : e.length ≤ 1000) :
    Calls Tryz.prog 51 #[.slice (some ⟨g, 0, none⟩) 5 5, str [32]] w fun x w' => x = .returned (str (a ++ 32 :: (b ++ 32 :: (c ++ 32 :: (d ++ 32 :: e))))) ∧ Below w.heap.size w w' := by
  have hj : Lib.join ([(⟨a.toArray⟩ : ByteArray), ⟨b.toArray⟩, ⟨c.toArray⟩, ⟨d.toArray⟩, ⟨e.toArray⟩].map (·.data.toList)) (⟨#[32]⟩ : ByteArray).data.toList = a ++ 32 :: (b ++ 32 :: (c ++ 32 :: (d ++ 32 :: e))) := by
    simpa using join5 a b c d e
  refine (Tryz.strings_Join g 0 5 [⟨a.toArray⟩, ⟨b.toArray⟩, ⟨c.toArray⟩, ⟨d.toArray⟩, ⟨e.toArray⟩] ⟨#[32]⟩ w ?_ hk.lt (by simp) (by simp) ?_).mono ?_
  · intro j x hx
    rw [Nat.zero_add]
    match j, hx with
    | 0, hx => cases hx; exact hk.at (o := 0) rfl
    | 1, hx => cases hx; exact hk.at (o := 1) rfl
    | 2, hx => cases hx; exact hk.at (o := 2) rfl
    | 3, hx => cases hx; exact hk.at (o := 3) rfl
    | 4, hx => cases hx; exact hk.at (o := 4) rfl
    | j + 5, hx => simp at hx
  · rw [hj]; simp; omega
  · rintro x w' ⟨rfl, hB⟩
    rw [hj]
    exact ⟨rfl, hB⟩
set_option maxHeartbeats 1000000 in
theorem line_any (r : RuL) (w : World) (hE : Env w) (hv : validB r = true) : Calls Tryz.prog 32 #[ragg r] w fun e w' => e = .returned (str (lineL r)) ∧ Below w.heap.size w w' := by
  obtain ⟨l1, l2, l3, b1, b2, b3⟩ := valid_parts hv
  have HP := Lib.hid (fun W (h : Env W) => portsW_any r W h b1 b2 b3)
  have hL : lineL r = verbL r.allow ++ 32 :: (r.role ++ 32 :: (r.ten ++ 32 :: (r.host ++ 32 :: portsL r.frm r.til))) := rfl
  have hP11 := (portsL_back b1 b2 b3).2.2.2
  obtain ⟨pl, hpl⟩ : ∃ pl, pl = portsL r.frm r.til := ⟨_, rfl⟩
  rw [← hpl] at HP hL hP11
  rw [hL]
  clear hL hpl hv
  obtain ⟨al, ro, te, ho, fr, ti⟩ := r
  simp only at b1 b2 b3
  obtain ⟨W, hW⟩ : ∃ W, W = w.alloc (.cells #[.bool al, str ro, str te, str ho, .int .i64 fr, .int .i64 ti] 41) := ⟨_, rfl⟩
  have HB0 := Lib.hid (show Below w.heap.size w W from by rw [hW]; exact (Below.refl _ w).alloc (Nat.le_refl _) _)
  have HE0 := Lib.hid (hE.below HB0.out)
  have HK0 := Lib.hid (show Blk W w.heap.size [.bool al, str ro, str te, str ho, .int .i64 fr, .int .i64 ti] from by rw [hW]; exact Blk.new w _ _)
  have d0 := HK0.out.at (o := 0) rfl
  have d1 := HK0.out.at (o := 1) rfl
  have d2 := HK0.out.at (o := 2) rfl
  have d3 := HK0.out.at (o := 3) rfl
  have d4 := HK0.out.at (o := 4) rfl
  have d5 := HK0.out.at (o := 5) rfl
  rw [hW] at d0 d1 d2 d3 d4 d5
  simp only at l1 l2 l3 HP
  have hE0 := hE
  clear b1 b2 b3 hE
  have HSIX := Lib.hid (fun W (h : Blk W w.heap.size [.bool al, str ro, str te, str ho, .int .i64 fr, .int .i64 ti]) => (show W.cell? ⟨w.heap.size, 0, none⟩ = some (.bool al) ∧ W.cell? ⟨w.heap.size, 1, none⟩ = some (str ro) ∧ W.cell? ⟨w.heap.size, 2, none⟩ = some (str te) ∧ W.cell? ⟨w.heap.size, 3, none⟩ = some (str ho) ∧ W.cell? ⟨w.heap.size, 4, none⟩ = some (.int .i64 fr) ∧ W.cell? ⟨w.heap.size, 5, none⟩ = some (.int .i64 ti) from ⟨h.at (o := 0) rfl, h.at (o := 1) rfl, h.at (o := 2) rfl, h.at (o := 3) rfl, h.at (o := 4) rfl, h.at (o := 5) rfl⟩))
  cases al
  · skip
    go_enter Tryz.func32, Tryz.ntmps32
    go_wp2_with fail
    rw [← hW]
    refine wp_region_noPanic ?_
    refine wp_region_held (S := fun W => W.cell? ⟨w.heap.size, 0, none⟩ = some (.bool false) ∧ W.cell? ⟨w.heap.size, 1, none⟩ = some (str ro) ∧ W.cell? ⟨w.heap.size, 2, none⟩ = some (str te) ∧ W.cell? ⟨w.heap.size, 3, none⟩ = some (str ho) ∧ W.cell? ⟨w.heap.size, 4, none⟩ = some (.int .i64 fr) ∧ W.cell? ⟨w.heap.size, 5, none⟩ = some (.int .i64 ti)) (by kernel_rfl) ?_
    change wpAnyH _ _ _ _ _ _ _ _ W.drew
    clear d0 d1 d2 d3 d4 d5 hW
    obtain ⟨V1, hV1⟩ : ∃ V, V = W.drew := ⟨_, rfl⟩
    have HK1 := Lib.hid (show Blk V1 w.heap.size _ from by rw [hV1]; exact HK0.out.drew)
    have HB1 := Lib.hid (show Below w.heap.size w V1 from by rw [hV1]; exact HB0.out.drew)
    have HE1 := Lib.hid (hE0.below HB1.out)
    rw [← hV1]
    clear hV1
    have HX := Lib.hid (HSIX.out _ HK1.out)
    refine takeH 0 6 (str (verbL false)) rfl rfl (by kernel_rfl) (by kernel_rfl) (by kernel_rfl) (fun _ _ _ h => h) rfl (fun w' h => by obtain ⟨h0, h1, h2, h3, h4, h5⟩ := h; rfl) HX.out ?_
    go_frame
    refine takeH 1 7 (.pointer (some ⟨w.heap.size, 1, none⟩)) rfl rfl (by kernel_rfl) (by kernel_rfl) (by kernel_rfl) (fun _ _ _ h => h) rfl (fun w' h => by obtain ⟨h0, h1, h2, h3, h4, h5⟩ := h; go_simp) HX.out ?_
    go_frame
    refine takeH 2 8 (str ro) rfl rfl (by kernel_rfl) (by kernel_rfl) (by kernel_rfl) (fun _ _ _ h => h) rfl (fun w' h => by obtain ⟨h0, h1, h2, h3, h4, h5⟩ := h; go_simp) HX.out ?_
    go_frame
    refine takeH 3 9 (.pointer (some ⟨w.heap.size, 2, none⟩)) rfl rfl (by kernel_rfl) (by kernel_rfl) (by kernel_rfl) (fun _ _ _ h => h) rfl (fun w' h => by obtain ⟨h0, h1, h2, h3, h4, h5⟩ := h; go_simp) HX.out ?_
    go_frame
    refine takeH 4 10 (str te) rfl rfl (by kernel_rfl) (by kernel_rfl) (by kernel_rfl) (fun _ _ _ h => h) rfl (fun w' h => by obtain ⟨h0, h1, h2, h3, h4, h5⟩ := h; go_simp) HX.out ?_
    go_frame
    refine takeH 5 11 (.pointer (some ⟨w.heap.size, 3, none⟩)) rfl rfl (by kernel_rfl) (by kernel_rfl) (by kernel_rfl) (fun _ _ _ h => h) rfl (fun w' h => by obtain ⟨h0, h1, h2, h3, h4, h5⟩ := h; go_simp) HX.out ?_
    go_frame
    refine takeH 6 12 (str ho) rfl rfl (by kernel_rfl) (by kernel_rfl) (by kernel_rfl) (fun _ _ _ h => h) rfl (fun w' h => by obtain ⟨h0, h1, h2, h3, h4, h5⟩ := h; go_simp) HX.out ?_
    go_frame
    refine takeH 7 13 (.agg #[.bool false, str ro, str te, str ho, .int .i64 fr, .int .i64 ti]) rfl rfl (by kernel_rfl) (by kernel_rfl) (by kernel_rfl) (fun _ _ _ h => h) rfl (fun w' h => by obtain ⟨h0, h1, h2, h3, h4, h5⟩ := h; go_simp) HX.out ?_
    go_frame
    refine wpAnyH_all (rs := [8]) (by kernel_rfl) (by simp) ?_
    simp only [List.mem_singleton, forall_eq]
    refine wpOp_callD 14 rfl rfl rfl 52 #[.agg #[.bool false, str ro, str te, str ho, .int .i64 fr, .int .i64 ti]] (by go_simp) ?_
    refine (HP.out _ HE1.out).mono ?_
    rintro e V2 ⟨rfl, hB⟩
    have HK2 := Lib.hid (HK1.out.below hB HK1.out.lt)
    have HB2 := Lib.hid (HB1.out.trans (hB.mono HB1.out.size))
    clear hB
    refine ⟨_, rfl, HSIX.out _ HK2.out, ?_⟩
    go_frame
    have HX := Lib.hid (HSIX.out _ HK2.out)
    refine wpAnyH_all (rs := [9]) (by kernel_rfl) (by simp) ?_
    simp only [List.mem_singleton, forall_eq]
    obtain ⟨V3, hV3⟩ : ∃ V, V = V2.alloc (.cells #[str (verbL false), str ro, str te, str ho, str pl] 9) := ⟨_, rfl⟩
    have HK3 := Lib.hid (show Blk V3 w.heap.size _ from by rw [hV3]; exact HK2.out.alloc _)
    have HB3 := Lib.hid (show Below w.heap.size w V3 from by rw [hV3]; exact HB2.out.alloc HB2.out.size _)
    have HN := Lib.hid (show Blk V3 V2.heap.size _ from by rw [hV3]; exact Blk.new _ _ _)
    refine wpOp_valueX 15 rfl rfl rfl (.slice (some ⟨V2.heap.size, 0, none⟩) 5 5) V3 (by rw [hV3]; go_simp) ⟨HSIX.out _ HK3.out, ?_⟩
    go_frame
    clear hV3
    have HX := Lib.hid (HSIX.out _ HK3.out)
    refine wpAnyH_all (rs := [10]) (by kernel_rfl) (by simp) ?_
    simp only [List.mem_singleton, forall_eq]
    refine wpOp_callD 16 rfl rfl rfl 51 #[.slice (some ⟨V2.heap.size, 0, none⟩) 5 5, str [32]] (by go_simp) ?_
    refine (join5_any V2.heap.size (verbL false) ro te ho pl V3 HN.out (by decide) (by omega) (by omega) (by omega) (by omega)).mono ?_
    rintro e V4 ⟨rfl, hB⟩
    have HK4 := Lib.hid (HK3.out.below hB HK3.out.lt)
    have HB4 := Lib.hid (HB3.out.trans (hB.mono HB3.out.size))
    clear hB
    refine ⟨_, rfl, HSIX.out _ HK4.out, ?_⟩
    go_frame
    have HX := Lib.hid (HSIX.out _ HK4.out)
    refine takeH 11 2 (str (verbL false ++ 32 :: (ro ++ 32 :: (te ++ 32 :: (ho ++ 32 :: pl))))) rfl rfl (by kernel_rfl) (by kernel_rfl) (by kernel_rfl) (fun _ _ _ h => h) rfl (fun w' h => by obtain ⟨h0, h1, h2, h3, h4, h5⟩ := h; go_simp) HX.out ?_
    go_frame
    refine wpAnyH_done (by kernel_rfl) ?_ _
    refine NoPanic.normal ?_
    go_wp2_with fail
    go_ret
    exact ⟨rfl, HB4.out⟩
  · skip
    go_enter Tryz.func32, Tryz.ntmps32
    go_wp2_with fail
    rw [← hW]
    refine wp_region_noPanic ?_
    refine wp_region_held (S := fun W => W.cell? ⟨w.heap.size, 0, none⟩ = some (.bool true) ∧ W.cell? ⟨w.heap.size, 1, none⟩ = some (str ro) ∧ W.cell? ⟨w.heap.size, 2, none⟩ = some (str te) ∧ W.cell? ⟨w.heap.size, 3, none⟩ = some (str ho) ∧ W.cell? ⟨w.heap.size, 4, none⟩ = some (.int .i64 fr) ∧ W.cell? ⟨w.heap.size, 5, none⟩ = some (.int .i64 ti)) (by kernel_rfl) ?_
    change wpAnyH _ _ _ _ _ _ _ _ W.drew
    clear d0 d1 d2 d3 d4 d5 hW
    obtain ⟨V1, hV1⟩ : ∃ V, V = W.drew := ⟨_, rfl⟩
    have HK1 := Lib.hid (show Blk V1 w.heap.size _ from by rw [hV1]; exact HK0.out.drew)
    have HB1 := Lib.hid (show Below w.heap.size w V1 from by rw [hV1]; exact HB0.out.drew)
    have HE1 := Lib.hid (hE0.below HB1.out)
    rw [← hV1]
    clear hV1
    have HX := Lib.hid (HSIX.out _ HK1.out)
    refine takeH 0 6 (str (verbL true)) rfl rfl (by kernel_rfl) (by kernel_rfl) (by kernel_rfl) (fun _ _ _ h => h) rfl (fun w' h => by obtain ⟨h0, h1, h2, h3, h4, h5⟩ := h; rfl) HX.out ?_
    go_frame
    refine takeH 1 7 (.pointer (some ⟨w.heap.size, 1, none⟩)) rfl rfl (by kernel_rfl) (by kernel_rfl) (by kernel_rfl) (fun _ _ _ h => h) rfl (fun w' h => by obtain ⟨h0, h1, h2, h3, h4, h5⟩ := h; go_simp) HX.out ?_
    go_frame
    refine takeH 2 8 (str ro) rfl rfl (by kernel_rfl) (by kernel_rfl) (by kernel_rfl) (fun _ _ _ h => h) rfl (fun w' h => by obtain ⟨h0, h1, h2, h3, h4, h5⟩ := h; go_simp) HX.out ?_
    go_frame
    refine takeH 3 9 (.pointer (some ⟨w.heap.size, 2, none⟩)) rfl rfl (by kernel_rfl) (by kernel_rfl) (by kernel_rfl) (fun _ _ _ h => h) rfl (fun w' h => by obtain ⟨h0, h1, h2, h3, h4, h5⟩ := h; go_simp) HX.out ?_
    go_frame
    refine takeH 4 10 (str te) rfl rfl (by kernel_rfl) (by kernel_rfl) (by kernel_rfl) (fun _ _ _ h => h) rfl (fun w' h => by obtain ⟨h0, h1, h2, h3, h4, h5⟩ := h; go_simp) HX.out ?_
    go_frame
    refine takeH 5 11 (.pointer (some ⟨w.heap.size, 3, none⟩)) rfl rfl (by kernel_rfl) (by kernel_rfl) (by kernel_rfl) (fun _ _ _ h => h) rfl (fun w' h => by obtain ⟨h0, h1, h2, h3, h4, h5⟩ := h; go_simp) HX.out ?_
    go_frame
    refine takeH 6 12 (str ho) rfl rfl (by kernel_rfl) (by kernel_rfl) (by kernel_rfl) (fun _ _ _ h => h) rfl (fun w' h => by obtain ⟨h0, h1, h2, h3, h4, h5⟩ := h; go_simp) HX.out ?_
    go_frame
    refine takeH 7 13 (.agg #[.bool true, str ro, str te, str ho, .int .i64 fr, .int .i64 ti]) rfl rfl (by kernel_rfl) (by kernel_rfl) (by kernel_rfl) (fun _ _ _ h => h) rfl (fun w' h => by obtain ⟨h0, h1, h2, h3, h4, h5⟩ := h; go_simp) HX.out ?_
    go_frame
    refine wpAnyH_all (rs := [8]) (by kernel_rfl) (by simp) ?_
    simp only [List.mem_singleton, forall_eq]
    refine wpOp_callD 14 rfl rfl rfl 52 #[.agg #[.bool true, str ro, str te, str ho, .int .i64 fr, .int .i64 ti]] (by go_simp) ?_
    refine (HP.out _ HE1.out).mono ?_
    rintro e V2 ⟨rfl, hB⟩
    have HK2 := Lib.hid (HK1.out.below hB HK1.out.lt)
    have HB2 := Lib.hid (HB1.out.trans (hB.mono HB1.out.size))
    clear hB
    refine ⟨_, rfl, HSIX.out _ HK2.out, ?_⟩
    go_frame
    have HX := Lib.hid (HSIX.out _ HK2.out)
    refine wpAnyH_all (rs := [9]) (by kernel_rfl) (by simp) ?_
    simp only [List.mem_singleton, forall_eq]
    obtain ⟨V3, hV3⟩ : ∃ V, V = V2.alloc (.cells #[str (verbL true), str ro, str te, str ho, str pl] 9) := ⟨_, rfl⟩
    have HK3 := Lib.hid (show Blk V3 w.heap.size _ from by rw [hV3]; exact HK2.out.alloc _)
    have HB3 := Lib.hid (show Below w.heap.size w V3 from by rw [hV3]; exact HB2.out.alloc HB2.out.size _)
    have HN := Lib.hid (show Blk V3 V2.heap.size _ from by rw [hV3]; exact Blk.new _ _ _)
    refine wpOp_valueX 15 rfl rfl rfl (.slice (some ⟨V2.heap.size, 0, none⟩) 5 5) V3 (by rw [hV3]; go_simp) ⟨HSIX.out _ HK3.out, ?_⟩
    go_frame
    clear hV3
    have HX := Lib.hid (HSIX.out _ HK3.out)
    refine wpAnyH_all (rs := [10]) (by kernel_rfl) (by simp) ?_
    simp only [List.mem_singleton, forall_eq]
    refine wpOp_callD 16 rfl rfl rfl 51 #[.slice (some ⟨V2.heap.size, 0, none⟩) 5 5, str [32]] (by go_simp) ?_
    refine (join5_any V2.heap.size (verbL true) ro te ho pl V3 HN.out (by decide) (by omega) (by omega) (by omega) (by omega)).mono ?_
    rintro e V4 ⟨rfl, hB⟩
    have HK4 := Lib.hid (HK3.out.below hB HK3.out.lt)
    have HB4 := Lib.hid (HB3.out.trans (hB.mono HB3.out.size))
    clear hB
    refine ⟨_, rfl, HSIX.out _ HK4.out, ?_⟩
    go_frame
    have HX := Lib.hid (HSIX.out _ HK4.out)
    refine takeH 11 2 (str (verbL true ++ 32 :: (ro ++ 32 :: (te ++ 32 :: (ho ++ 32 :: pl))))) rfl rfl (by kernel_rfl) (by kernel_rfl) (by kernel_rfl) (fun _ _ _ h => h) rfl (fun w' h => by obtain ⟨h0, h1, h2, h3, h4, h5⟩ := h; go_simp) HX.out ?_
    go_frame
    refine wpAnyH_done (by kernel_rfl) ?_ _
    refine NoPanic.normal ?_
    go_wp2_with fail
    go_ret
    exact ⟨rfl, HB4.out⟩
set_option maxHeartbeats 1000000 in
theorem ruleText_any (r : RuL) (w : World) (hE : Env w) (hs : SmallR r) : Calls Tryz.prog 15 #[ragg r] w fun e w' => e = .returned (.tuple #[str (textR r).1, .int .i64 (textR r).2]) ∧ Below w.heap.size w w' := by
  have HV := Lib.hid (fun W (h : Env W) => valid_any r W h hs)
  have HLN := Lib.hid (fun W (h : Env W) (hv : validB r = true) => line_any r W h hv)
  have hT : textR r = if validB r = true then (lineL r, 0) else ([], 4) := rfl
  obtain ⟨T, hTd⟩ : ∃ T, T = textR r := ⟨_, rfl⟩
  rw [← hTd] at hT ⊢
  obtain ⟨P, hP⟩ : ∃ P, P = validB r := ⟨_, rfl⟩
  rw [← hP] at HV HLN hT
  obtain ⟨L, hL⟩ : ∃ L, L = lineL r := ⟨_, rfl⟩
  rw [← hL] at HLN hT
  clear hTd hP hs hL
  obtain ⟨al, ro, te, ho, fr, ti⟩ := r
  obtain ⟨W, hW⟩ : ∃ W, W = w.alloc (.cells #[.bool al, str ro, str te, str ho, .int .i64 fr, .int .i64 ti] 41) := ⟨_, rfl⟩
  have HB0 := Lib.hid (show Below w.heap.size w W from by rw [hW]; exact (Below.refl _ w).alloc (Nat.le_refl _) _)
  have HE0 := Lib.hid (hE.below HB0.out)
  have HK0 := Lib.hid (show Blk W w.heap.size [.bool al, str ro, str te, str ho, .int .i64 fr, .int .i64 ti] from by rw [hW]; exact Blk.new w _ _)
  have d0 := HK0.out.at (o := 0) rfl
  have d1 := HK0.out.at (o := 1) rfl
  have d2 := HK0.out.at (o := 2) rfl
  have d3 := HK0.out.at (o := 3) rfl
  have d4 := HK0.out.at (o := 4) rfl
  have d5 := HK0.out.at (o := 5) rfl
  rw [hW] at d0 d1 d2 d3 d4 d5
  clear hE
  cases P with
  | false =>
    obtain rfl : T = ([], 4) := hT.trans (if_neg (by simp))
    clear hT
    go_enter Tryz.func15, Tryz.ntmps15
    go_wp2_with fail
    rw [← hW]
    refine (HV.out _ HE0.out).mono ?_
    rintro e w1 ⟨rfl, hB⟩
    have HB1 := Lib.hid (HB0.out.trans (hB.mono HB0.out.size))
    clear d0 d1 d2 d3 d4 d5 hB hW
    go_wp2_with fail
    exact bodyPost_ret (v := .tuple #[str [], .int .i64 4]) (by simp [results, Tryz.results15, go_sem]) rfl ⟨rfl, HB1.out⟩
  | true =>
    obtain rfl : T = (L, 0) := hT.trans (if_pos rfl)
    clear hT
    go_enter Tryz.func15, Tryz.ntmps15
    go_wp2_with fail
    rw [← hW]
    refine (HV.out _ HE0.out).mono ?_
    rintro e w1 ⟨rfl, hB⟩
    clear d0 d1 d2 d3 d4 d5 hW
    have hk := HK0.out.below hB HK0.out.lt
    have d0 := hk.at (o := 0) rfl
    have d1 := hk.at (o := 1) rfl
    have d2 := hk.at (o := 2) rfl
    have d3 := hk.at (o := 3) rfl
    have d4 := hk.at (o := 4) rfl
    have d5 := hk.at (o := 5) rfl
    have HB1 := Lib.hid (HB0.out.trans (hB.mono HB0.out.size)); have HE1 := Lib.hid (HE0.out.below hB); clear hB hk
    go_wp2_with fail
    refine (HLN.out _ HE1.out (by trivial)).mono ?_
    rintro e w2 ⟨rfl, hB⟩
    have HB2 := Lib.hid (HB1.out.trans (hB.mono HB1.out.size))
    clear d0 d1 d2 d3 d4 d5 hB
    go_wp2_with fail
    exact bodyPost_ret (v := .tuple #[str L, .int .i64 0]) (by simp [results, Tryz.results15, go_sem]) rfl ⟨rfl, HB2.out⟩
end Go.Proofs.YthpkmdojeegleaaGreatDoor
