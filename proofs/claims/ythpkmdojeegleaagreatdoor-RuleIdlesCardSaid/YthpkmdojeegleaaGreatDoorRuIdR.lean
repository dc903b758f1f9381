/- The reference's Idle. -/
import Derived.Test.YthpkmdojeegleaaGreatDoorRuJd
import Derived.Test.YthpkmdojeegleaaGreatDoorRuCoR
import Derived.Test.YthpkmdojeegleaaGreatDoorReg
set_option maxRecDepth 100000
namespace Go.Proofs.YthpkmdojeegleaaGreatDoor
open Go.RowKit Go.Shelf
attribute [local go_sem] Oper.semAt_some
theorem idleB_take (xs : List RuL) (x : RuL) (k : Nat) (hk : k < xs.length) : idleB (xs.take (k + 1)) x = (idleB (xs.take k) x || coversB xs[k] x) := by
  unfold idleB
  rw [List.take_succ_eq_append_getElem hk, List.any_append]
  simp
set_option maxHeartbeats 4000000 in
theorem refIdle_any (B : Nat) (v : Value) (xs : List RuL) (w : World) (hv : RlIn w B v xs) (hB : B ≤ w.heap.size) (hs : ∀ r ∈ xs, SmallR r) (hl : xs.length ≤ 5000) :
    Calls Tryz.prog 21 #[v] w fun e w' => ∃ u, e = .returned u ∧ OwnJ w' w.heap.size u (idleK xs xs.length) ∧ Below w.heap.size w w' := by
  have HV := Lib.hid hv
  have HS := Lib.hid hs
  obtain ⟨A, c, rfl, hc1, hc2, hq⟩ := hv
  clear hq hs
  have HO := Lib.hid (show OwnJ w w.heap.size (.slice none 0 0) (idleK xs 0) from OwnJ.nil _ _)
  go_enter Tryz.func21, Tryz.ntmps21
  go_wp2_with fail
  go_loopw [3, 9] (fun v i wr => ∃ k : Nat, k ≤ xs.length ∧ i = .int .i64 (k : Int) ∧ OwnJ wr w.heap.size v (idleK xs k) ∧ Below w.heap.size w wr) (fun _ i _ => xs.length - (intOf i).toNat)
  case atStart => exact ⟨0, by omega, rfl, HO.out, Below.refl _ _⟩
  case round =>
    obtain ⟨k, hk, rfl, ho, hb⟩ := hrel
    have HOW := Lib.hid ho
    have HBW := Lib.hid hb
    by_cases hlt : k < xs.length
    · obtain ⟨y, hy⟩ : ∃ y, y = xs.getD k zeroR := ⟨_, rfl⟩
      have hyk : y = xs[k] := by rw [hy, List.getD_eq_getElem?_getD, List.getElem?_eq_getElem hlt]; rfl
      have hkk : (k : Int) < (xs.length : Int) := by omega
      clear ho hb
      go_wp2_with fail
      go_loopw [5, 6] (fun b j wi => ∃ n : Nat, n ≤ k ∧ j = .int .i64 (n : Int) ∧ b = .bool (idleB (xs.take n) y) ∧ Below wr.heap.size wr wi) (fun _ j _ => k - (intOf j).toNat)
      case atStart => exact ⟨0, by omega, rfl, rfl, Below.refl _ _⟩
      case round =>
        obtain ⟨n, hn, rfl, rfl, hbi⟩ := hrel
        by_cases hnk : n < k
        · have hnn : (n : Int) < (k : Int) := by omega
          have hnl : (n : Int) < (xs.length : Int) := by omega
          have hbt := idleB_take xs y n (by omega)
          obtain ⟨b0, hb0⟩ : ∃ b0, b0 = idleB (xs.take n) y := ⟨_, rfl⟩
          rw [← hb0] at hbt ⊢
          have HBT := Lib.hid hbt
          have HBI := Lib.hid hbi
          have hlow := HBW.out.trans (hbi.mono HBW.out.size)
          clear hbt hb0
          cases b0 with
          | true =>
            clear hbi hlow
            go_wp2_with fail
            go_quiet (fail)
            go_wp2_with fail
            go_roundw
            case rel => exact ⟨n + 1, by omega, by go_num, by rw [HBT.out]; rfl, below_drewN HBI.out _⟩
            case measure => simp [intOf]; omega
          | false =>
            have hv2 := HV.out.below hlow hB
            obtain ⟨g, o, rfl, hgl, e0, e1, e2, e3, e4, e5⟩ := hv2.six n (by omega)
            obtain ⟨g', o', hgg, hgl', f0, f1, f2, f3, f4, f5⟩ := hv2.six k hlt
            cases hgg
            rw [← hyk] at f0 f1 f2 f3 f4 f5
            have hsy := HS.out y (by rw [hyk]; exact List.getElem_mem _)
            have hsx := HS.out (xs[n]'(by omega)) (List.getElem_mem _)
            obtain ⟨x, hx⟩ : ∃ x, x = xs[n]'(by omega) := ⟨_, rfl⟩
            rw [← hx] at e0 e1 e2 e3 e4 e5 hsx HBT
            have HC := Lib.hid (fun W => refCovers_any x y W hsx hsy)
            obtain ⟨P, hP⟩ : ∃ P, P = coversB x y := ⟨_, rfl⟩
            rw [← hP] at HC HBT
            have HYK := Lib.hid hyk
            have HY := Lib.hid hy
            clear hx hP hsx hsy hbi hlow hy hyk hv2
            obtain ⟨al1, ro1, te1, ho1, fr1, ti1⟩ := x
            obtain ⟨al2, ro2, te2, ho2, fr2, ti2⟩ := y
            simp only at e0 e1 e2 e3 e4 e5 f0 f1 f2 f3 f4 f5
            have hz0 := HBI.out.size
            have hz1 := HBW.out.size
            go_wp2_with fail
            refine wp_region_noPanic ?_
            refine wp_region_held (S := fun W => W.cell? ⟨g, o + n * 6, none⟩ = some (.bool al1) ∧ W.cell? ⟨g, o + n * 6 + 1, none⟩ = some (str ro1) ∧ W.cell? ⟨g, o + n * 6 + 2, none⟩ = some (str te1) ∧ W.cell? ⟨g, o + n * 6 + 3, none⟩ = some (str ho1) ∧ W.cell? ⟨g, o + n * 6 + 4, none⟩ = some (.int .i64 fr1) ∧ W.cell? ⟨g, o + n * 6 + 5, none⟩ = some (.int .i64 ti1) ∧ W.cell? ⟨g, o + k * 6, none⟩ = some (.bool al2) ∧ W.cell? ⟨g, o + k * 6 + 1, none⟩ = some (str ro2) ∧ W.cell? ⟨g, o + k * 6 + 2, none⟩ = some (str te2) ∧ W.cell? ⟨g, o + k * 6 + 3, none⟩ = some (str ho2) ∧ W.cell? ⟨g, o + k * 6 + 4, none⟩ = some (.int .i64 fr2) ∧ W.cell? ⟨g, o + k * 6 + 5, none⟩ = some (.int .i64 ti2)) (by kernel_rfl) ?_
            obtain ⟨V2, hV2⟩ : ∃ V, V = wr.drew := ⟨_, rfl⟩
            have HBV := Lib.hid (show Below wr.heap.size wr V2 from by rw [hV2]; exact (Below.refl _ _).drew)
            have HX := Lib.hid (show V2.cell? ⟨g, o + n * 6, none⟩ = some (.bool al1) ∧ V2.cell? ⟨g, o + n * 6 + 1, none⟩ = some (str ro1) ∧ V2.cell? ⟨g, o + n * 6 + 2, none⟩ = some (str te1) ∧ V2.cell? ⟨g, o + n * 6 + 3, none⟩ = some (str ho1) ∧ V2.cell? ⟨g, o + n * 6 + 4, none⟩ = some (.int .i64 fr1) ∧ V2.cell? ⟨g, o + n * 6 + 5, none⟩ = some (.int .i64 ti1) ∧ V2.cell? ⟨g, o + k * 6, none⟩ = some (.bool al2) ∧ V2.cell? ⟨g, o + k * 6 + 1, none⟩ = some (str ro2) ∧ V2.cell? ⟨g, o + k * 6 + 2, none⟩ = some (str te2) ∧ V2.cell? ⟨g, o + k * 6 + 3, none⟩ = some (str ho2) ∧ V2.cell? ⟨g, o + k * 6 + 4, none⟩ = some (.int .i64 fr2) ∧ V2.cell? ⟨g, o + k * 6 + 5, none⟩ = some (.int .i64 ti2) from by rw [hV2]; exact ⟨e0, e1, e2, e3, e4, e5, f0, f1, f2, f3, f4, f5⟩)
            change wpAnyH _ _ _ _ _ _ _ _ wr.drew
            rw [← hV2]
            clear hV2
            refine takeH 0 17 (.bool false) rfl rfl (by kernel_rfl) (by kernel_rfl) (by kernel_rfl) (fun _ _ _ h => h) rfl (fun w' _ => by go_simp) HX.out ?_
            go_frame
            refine takeH 1 18 (.bool false) rfl rfl (by kernel_rfl) (by kernel_rfl) (by kernel_rfl) (fun _ _ _ h => h) rfl (fun w' _ => by go_simp) HX.out ?_
            go_frame
            refine takeH 2 19 (.slice (some ⟨g, o, none⟩) xs.length c) rfl rfl (by kernel_rfl) (by kernel_rfl) (by kernel_rfl) (fun _ _ _ h => h) rfl (fun w' _ => by go_simp) HX.out ?_
            go_frame
            refine takeH 3 20 (.int .i64 (n : Int)) rfl rfl (by kernel_rfl) (by kernel_rfl) (by kernel_rfl) (fun _ _ _ h => h) rfl (fun w' _ => by go_simp) HX.out ?_
            go_frame
            refine takeH 4 21 (.pointer (some ⟨g, o + n * 6, none⟩)) rfl rfl (by kernel_rfl) (by kernel_rfl) (by kernel_rfl) (fun _ _ _ h => h) rfl (fun w' _ => by go_simp) HX.out ?_
            go_frame
            refine takeH 5 22 (.agg #[.bool al1, str ro1, str te1, str ho1, .int .i64 fr1, .int .i64 ti1]) rfl rfl (by kernel_rfl) (by kernel_rfl) (by kernel_rfl) (fun _ _ _ h => h) rfl (fun w' h => by obtain ⟨h0, h1, h2, h3, h4, h5, h6, h7, h8, h9, h10, h11⟩ := h; go_simp) HX.out ?_
            go_frame
            refine takeH 6 23 (.slice (some ⟨g, o, none⟩) xs.length c) rfl rfl (by kernel_rfl) (by kernel_rfl) (by kernel_rfl) (fun _ _ _ h => h) rfl (fun w' _ => by go_simp) HX.out ?_
            go_frame
            refine takeH 7 24 (.int .i64 (k : Int)) rfl rfl (by kernel_rfl) (by kernel_rfl) (by kernel_rfl) (fun _ _ _ h => h) rfl (fun w' _ => by go_simp) HX.out ?_
            go_frame
            refine takeH 8 25 (.pointer (some ⟨g, o + k * 6, none⟩)) rfl rfl (by kernel_rfl) (by kernel_rfl) (by kernel_rfl) (fun _ _ _ h => h) rfl (fun w' _ => by go_simp) HX.out ?_
            go_frame
            refine takeH 9 26 (.agg #[.bool al2, str ro2, str te2, str ho2, .int .i64 fr2, .int .i64 ti2]) rfl rfl (by kernel_rfl) (by kernel_rfl) (by kernel_rfl) (fun _ _ _ h => h) rfl (fun w' h => by obtain ⟨h0, h1, h2, h3, h4, h5, h6, h7, h8, h9, h10, h11⟩ := h; go_simp) HX.out ?_
            go_frame
            refine wpAnyH_all (rs := [10]) (by kernel_rfl) (by simp) ?_
            simp only [List.mem_singleton, forall_eq]
            refine wpOp_callD 27 rfl rfl rfl 41 #[.agg #[.bool al1, str ro1, str te1, str ho1, .int .i64 fr1, .int .i64 ti1], .agg #[.bool al2, str ro2, str te2, str ho2, .int .i64 fr2, .int .i64 ti2]] (by go_simp) ?_
            refine (HC.out _).mono ?_
            rintro e V3 ⟨rfl, hB3⟩
            have hz2 := HBV.out.size
            have HB3 := Lib.hid (HBI.out.trans ((HBV.out.trans (hB3.mono HBV.out.size)).mono HBI.out.size))
            have HX3 := Lib.hid (show V3.cell? ⟨g, o + n * 6, none⟩ = some (.bool al1) ∧ V3.cell? ⟨g, o + n * 6 + 1, none⟩ = some (str ro1) ∧ V3.cell? ⟨g, o + n * 6 + 2, none⟩ = some (str te1) ∧ V3.cell? ⟨g, o + n * 6 + 3, none⟩ = some (str ho1) ∧ V3.cell? ⟨g, o + n * 6 + 4, none⟩ = some (.int .i64 fr1) ∧ V3.cell? ⟨g, o + n * 6 + 5, none⟩ = some (.int .i64 ti1) ∧ V3.cell? ⟨g, o + k * 6, none⟩ = some (.bool al2) ∧ V3.cell? ⟨g, o + k * 6 + 1, none⟩ = some (str ro2) ∧ V3.cell? ⟨g, o + k * 6 + 2, none⟩ = some (str te2) ∧ V3.cell? ⟨g, o + k * 6 + 3, none⟩ = some (str ho2) ∧ V3.cell? ⟨g, o + k * 6 + 4, none⟩ = some (.int .i64 fr2) ∧ V3.cell? ⟨g, o + k * 6 + 5, none⟩ = some (.int .i64 ti2) from by
              obtain ⟨h0, h1, h2, h3, h4, h5, h6, h7, h8, h9, h10, h11⟩ := HX.out
              exact ⟨(hB3.cell (p := ⟨g, o + n * 6, none⟩) (by show g < V2.heap.size; omega)).trans h0, (hB3.cell (p := ⟨g, o + n * 6 + 1, none⟩) (by show g < V2.heap.size; omega)).trans h1, (hB3.cell (p := ⟨g, o + n * 6 + 2, none⟩) (by show g < V2.heap.size; omega)).trans h2, (hB3.cell (p := ⟨g, o + n * 6 + 3, none⟩) (by show g < V2.heap.size; omega)).trans h3, (hB3.cell (p := ⟨g, o + n * 6 + 4, none⟩) (by show g < V2.heap.size; omega)).trans h4, (hB3.cell (p := ⟨g, o + n * 6 + 5, none⟩) (by show g < V2.heap.size; omega)).trans h5, (hB3.cell (p := ⟨g, o + k * 6, none⟩) (by show g < V2.heap.size; omega)).trans h6, (hB3.cell (p := ⟨g, o + k * 6 + 1, none⟩) (by show g < V2.heap.size; omega)).trans h7, (hB3.cell (p := ⟨g, o + k * 6 + 2, none⟩) (by show g < V2.heap.size; omega)).trans h8, (hB3.cell (p := ⟨g, o + k * 6 + 3, none⟩) (by show g < V2.heap.size; omega)).trans h9, (hB3.cell (p := ⟨g, o + k * 6 + 4, none⟩) (by show g < V2.heap.size; omega)).trans h10, (hB3.cell (p := ⟨g, o + k * 6 + 5, none⟩) (by show g < V2.heap.size; omega)).trans h11⟩)
            clear hB3
            refine ⟨_, rfl, HX3.out, ?_⟩
            go_frame
            have HX := HX3
            refine takeH 11 28 (.bool P) rfl rfl (by kernel_rfl) (by kernel_rfl) (by kernel_rfl) (fun _ _ _ h => h) rfl (fun w' _ => by go_simp) HX.out ?_
            go_frame
            refine takeH 12 5 (.bool P) rfl rfl (by kernel_rfl) (by kernel_rfl) (by kernel_rfl) (fun _ _ _ h => h) rfl (fun w' _ => by go_simp) HX.out ?_
            go_frame
            refine wpAnyH_done (by kernel_rfl) ?_ _
            refine NoPanic.normal ?_
            go_wp2_with fail
            go_roundw
            case rel => exact ⟨n + 1, by omega, by go_num, by rw [HBT.out]; rfl, HB3.out⟩
            case measure => simp [intOf]; omega
        · obtain rfl : n = k := by omega
          have hid : idleK xs (n + 1) = idleK xs n ++ (if idleB (xs.take n) y = true then [n] else []) := by rw [idleK_succ, hy]
          obtain ⟨b0, hb0⟩ : ∃ b0, b0 = idleB (xs.take n) y := ⟨_, rfl⟩
          rw [← hb0] at hid ⊢
          have HBN := Lib.hid (HBW.out.trans (hbi.mono HBW.out.size))
          have HON := Lib.hid (HOW.out.below hbi)
          clear hb0 hbi
          cases b0 with
          | false =>
            have HID := Lib.hid (show idleK xs (n + 1) = idleK xs n by rw [hid]; simp)
            clear hid
            go_wp2_with fail
            go_roundw
            case rel => exact ⟨n + 1, by omega, by go_num, by rw [HID.out]; exact HON.out, HBN.out⟩
            case measure => simp [intOf]; omega
          | true =>
            have HID := Lib.hid (show idleK xs (n + 1) = idleK xs n ++ [n] by rw [hid]; simp)
            have hle := idleK_le xs n
            have hal := (Below.refl wr.heap.size wr).alloc (Nat.le_refl _) (.cells #[.int .i64 (n : Int)] 3)
            have HOA := Lib.hid (HON.out.below hal)
            have HBA := Lib.hid (HBN.out.trans (hal.mono HBN.out.size))
            have HCA := Lib.hid (show (wr.alloc (.cells #[.int .i64 (n : Int)] 3)).cell? ⟨wr.heap.size, 0, none⟩ = some (jv n) from (Blk.new wr [.int .i64 (n : Int)] 3).at (o := 0) rfl)
            have hlen : (idleK xs n).length ≤ 1000000 := by omega
            clear hid hal
            go_wp2_with (at_builtin; (refine wpList_appJ rfl (.tmp 30) (.tmp 32) rfl w.heap.size u3 (idleK xs n) n rfl HOA.out wr.heap.size 1 rfl HCA.out hlen HBA.out.size ?_); intro v5 A1 hO5 hg5; have HO5 := Lib.hid hO5; have HB5 := Lib.hid (HBA.out.grown hg5 HBA.out.size (fun r e => (HOA.out.lt r e).1)); clear hO5 hg5)
            go_roundw
            case rel => exact ⟨n + 1, by omega, by go_num, by rw [HID.out]; exact HO5.out, HB5.out⟩
            case measure => simp [intOf]; omega
    · obtain rfl : k = xs.length := by omega
      clear ho hb
      go_wp2_with fail
      go_ret
      exact ⟨_, rfl, HOW.out, HBW.out⟩
end Go.Proofs.YthpkmdojeegleaaGreatDoor
