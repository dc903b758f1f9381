/- box: Term: an entry as a term of memory of its own. (By mkbxt.py.) box's laws: same: has the Box the document's terms? (By mkbsm.py.) BoxPlays' law: every script, on both Boxes. -/
import Derived.Test.YtlnjpmpddomjiaaGreatDoorGmMgD
import Derived.Test.YtlnjpmpddomjiaaGreatDoorGmTmI
import Derived.Test.YtlnjpmpddomjiaaGreatDoorGmBeNu
import Derived.Lib.AppendStr
import Derived.Lib.AppendZeros
import Derived.Laws.ResultCell
import Derived.Deep.QuietTactic
import Derived.BigQuiet
set_option maxRecDepth 100000
namespace Go.Proofs.YtlnjpmpddomjiaaGreatDoor
open Go.RowKit
attribute [local go_sem] Oper.semAt_some
theorem info_tmP : (Tryz.prog.info? 55).map (·.size) = some 6 := by kernel_rfl
theorem strCells_vb (m : List UInt8) : Lib.strCells ⟨m.toArray⟩ = m.map vb := by
  unfold Lib.strCells vb bn
  simp
theorem fresh_any (s : List UInt8) (w : World) (hs : s.length ≤ 1000000) : Calls Tryz.prog 65 #[str s] w fun e w' => ∃ v, e = .returned v ∧ OwnB w' w.heap.size v s ∧ Below w.heap.size w w' := by
  obtain ⟨i0, hi, hz0, hz1, hz2⟩ := info_parts info_b
  have hz : (ByteArray.mk s.toArray).size = s.length := by simp [ByteArray.size]
  obtain ⟨v, W, hr, hO, hb⟩ : ∃ v W, (∀ ty, (Builtin.append_ #[34, 9] ty #[.slice none 0 0, str s]).run Tryz.prog w = .ok v W) ∧ OwnB W w.heap.size v s ∧ Below w.heap.size w W := by
    obtain ⟨v', w', hr, g1, g2, _⟩ := Lib.run_append_own_string (P := Tryz.prog) w w.heap.size 34 9 34 5 i0 Tryz.underlying34 Tryz.underlying9 hi hz0 hz1 hz2 (.slice none 0 0) 0 [] (OwnB.nil w w.heap.size) ⟨s.toArray⟩ (by rw [hz]; unfold maxLen; omega) (by rw [hz]; omega) (Nat.le_refl _)
    refine ⟨v', w', fun _ => hr, ?_, (Below.refl _ _).grown g2 (Nat.le_refl _) (fun k hk => by cases hk)⟩
    rw [hz, strCells_vb, Nat.zero_add, List.nil_append] at g1
    exact g1
  have HR := Lib.hid hr
  have HF := Lib.hid (And.intro hO hb)
  clear hr hO hb hi hz0 hz1 hz2 hz hs
  go_enter Tryz.func65, Tryz.ntmps65
  go_wp2_with (at_builtin; ((with_reducible refine Lib.wpList_append_run _ ?g1 (.const (.slice none 0 0)) (.tmp 3) 34 9 ?g2 (.slice none 0 0) (str s) ?g3 ?g4 v W (HR.out _) ?_); (case g1 => rfl); (case g2 => rfl); (case g3 => rfl); (case g4 => rfl)))
  go_ret
  exact ⟨v, rfl, HF.out.1, HF.out.2⟩
theorem ownJ_lower {w : World} {base base' : Nat} {v : Value} {ls : List Nat} (h : OwnJ w base v ls) (hb : base' ≤ base) : OwnJ w base' v ls := by
  obtain ⟨h1, h2 | ⟨g, cap, cur, rfl, hb', hg⟩⟩ := h
  · exact ⟨h1, .inl h2⟩
  · exact ⟨h1, .inr ⟨g, cap, cur, rfl, by omega, hg⟩⟩
set_option maxHeartbeats 4000000 in
theorem term_any (e : EnL) (hk : e.key.length ≤ 1000000) (ht : e.text.length ≤ 1000000) (hm : e.mask.length ≤ 1000000) (hg : EnG e) (w : World) :
    Calls Tryz.prog 42 #[eagg e] w fun r w' => ∃ q : TmL, r = .returned (tmA q) ∧ TmO w' w.heap.size q (enW e) ∧ Below w.heap.size w w' := by
  have HNU := Lib.hid (fun (W : World) => (by
    obtain ⟨ns, h1, h2, h3⟩ := hg
    have hn := numsL_flat ns h3
    rw [← h1] at hn
    rw [hn]
    exact numbers_any e ns W (by omega) h1 h3 : Calls Tryz.prog 61 #[eagg e] W fun x w' => ∃ v', x = .returned v' ∧ OwnJ w' W.heap.size v' (numsL e.lst) ∧ Below W.heap.size W w'))
  have hnl : (numsL e.lst).length ≤ 5000 := by have := hg.le; omega
  obtain ⟨kd, ky, tx, ro, ls, mk⟩ := e
  unfold enW
  simp only at hk ht hm hnl
  have HLN := Lib.hid (show ky.length ≤ 1000000 ∧ tx.length ≤ 1000000 ∧ mk.length ≤ 1000000 ∧ (numsL ls).length ≤ 5000 from ⟨hk, ht, hm, hnl⟩)
  unfold eagg at HNU ⊢
  simp only at HNU
  obtain ⟨W0, hW0⟩ : ∃ W, W = (w.alloc (.cells #[.int .i64 kd, str ky, str tx, .int .i64 ro, str ls, str mk] 78)).alloc (.cells #[.int .i64 0, .slice none 0 0, .slice none 0 0, .int .i64 0, .slice none 0 0, .slice none 0 0] 55) := ⟨_, rfl⟩
  have HB0 := Lib.hid (show Below w.heap.size w W0 from by rw [hW0]; exact ((Below.refl _ _).alloc (Nat.le_refl _) _).alloc (by simp) _)
  have HK1 := Lib.hid (show Blk W0 w.heap.size [.int .i64 kd, str ky, str tx, .int .i64 ro, str ls, str mk] from by
    rw [hW0]; exact (Blk.new w [.int .i64 kd, str ky, str tx, .int .i64 ro, str ls, str mk] _).below ((Below.refl _ _).alloc (Nat.le_refl _) _) (by simp))
  have HK2 := Lib.hid (show Blk W0 (w.heap.size + 1) [.int .i64 0, .slice none 0 0, .slice none 0 0, .int .i64 0, .slice none 0 0, .slice none 0 0] from by
    rw [hW0]; exact Blk.newAt (w.alloc (.cells #[.int .i64 kd, str ky, str tx, .int .i64 ro, str ls, str mk] 78)) _ _ (by simp) rfl)
  have HZ0 := Lib.hid (show W0.heap.size = w.heap.size + 2 from by rw [hW0]; simp)
  clear hk ht hm hg hnl
  go_enter Tryz.func42, Tryz.ntmps42
  go_wp2_with fail
  rw [← hW0]
  clear hW0
  refine wp_region_noPanic ?_
  refine wp_region_held (S := fun W' => W'.cell? ⟨w.heap.size, 0, none⟩ = some (.int .i64 kd) ∧ W'.cell? ⟨w.heap.size, 1, none⟩ = some (str ky) ∧ W'.cell? ⟨w.heap.size, 2, none⟩ = some (str tx) ∧ W'.cell? ⟨w.heap.size, 3, none⟩ = some (.int .i64 ro) ∧ W'.cell? ⟨w.heap.size, 4, none⟩ = some (str ls) ∧ W'.cell? ⟨w.heap.size, 5, none⟩ = some (str mk)) (by kernel_rfl) ?_
  change wpAnyH _ _ _ _ _ _ _ _ (World.drew _)
  obtain ⟨X0, hX0⟩ : ∃ X, X = World.drew W0 := ⟨_, rfl⟩
  have HBX := Lib.hid (show Below W0.heap.size W0 X0 from by rw [hX0]; exact (Below.refl _ _).drew)
  have HSX := Lib.hid (fun (W' : World) (hb : Below W0.heap.size W0 W') => (show W'.cell? ⟨w.heap.size, 0, none⟩ = some (.int .i64 kd) ∧ W'.cell? ⟨w.heap.size, 1, none⟩ = some (str ky) ∧ W'.cell? ⟨w.heap.size, 2, none⟩ = some (str tx) ∧ W'.cell? ⟨w.heap.size, 3, none⟩ = some (.int .i64 ro) ∧ W'.cell? ⟨w.heap.size, 4, none⟩ = some (str ls) ∧ W'.cell? ⟨w.heap.size, 5, none⟩ = some (str mk) from by
    have k := HK1.out.below hb HK1.out.lt
    exact ⟨k.at (o := 0) rfl, k.at (o := 1) rfl, k.at (o := 2) rfl, k.at (o := 3) rfl, k.at (o := 4) rfl, k.at (o := 5) rfl⟩))
  rw [← hX0]
  clear hX0
  have HX := Lib.hid (HSX.out X0 HBX.out)
  refine takeH 0 3 (.pointer (some ⟨w.heap.size, 0, none⟩)) rfl rfl (by kernel_rfl) (by kernel_rfl) (by kernel_rfl) (fun _ _ _ h => h) rfl (fun w' h => by obtain ⟨h0, h1, h2, h3, h4, h5⟩ := h; go_simp) HX.out ?_
  go_frame
  refine takeH 1 4 (.int .i64 kd) rfl rfl (by kernel_rfl) (by kernel_rfl) (by kernel_rfl) (fun _ _ _ h => h) rfl (fun w' h => by obtain ⟨h0, h1, h2, h3, h4, h5⟩ := h; go_simp) HX.out ?_
  go_frame
  refine takeH 2 5 (.pointer (some ⟨w.heap.size, 1, none⟩)) rfl rfl (by kernel_rfl) (by kernel_rfl) (by kernel_rfl) (fun _ _ _ h => h) rfl (fun w' h => by obtain ⟨h0, h1, h2, h3, h4, h5⟩ := h; go_simp) HX.out ?_
  go_frame
  refine takeH 3 6 (str ky) rfl rfl (by kernel_rfl) (by kernel_rfl) (by kernel_rfl) (fun _ _ _ h => h) rfl (fun w' h => by obtain ⟨h0, h1, h2, h3, h4, h5⟩ := h; go_simp) HX.out ?_
  go_frame
  refine takeH 5 8 (.pointer (some ⟨w.heap.size, 2, none⟩)) rfl rfl (by kernel_rfl) (by kernel_rfl) (by kernel_rfl) (fun _ _ _ h => h) rfl (fun w' h => by obtain ⟨h0, h1, h2, h3, h4, h5⟩ := h; go_simp) HX.out ?_
  go_frame
  refine takeH 6 9 (str tx) rfl rfl (by kernel_rfl) (by kernel_rfl) (by kernel_rfl) (fun _ _ _ h => h) rfl (fun w' h => by obtain ⟨h0, h1, h2, h3, h4, h5⟩ := h; go_simp) HX.out ?_
  go_frame
  refine takeH 8 11 (.pointer (some ⟨w.heap.size, 3, none⟩)) rfl rfl (by kernel_rfl) (by kernel_rfl) (by kernel_rfl) (fun _ _ _ h => h) rfl (fun w' h => by obtain ⟨h0, h1, h2, h3, h4, h5⟩ := h; go_simp) HX.out ?_
  go_frame
  refine takeH 9 12 (.int .i64 ro) rfl rfl (by kernel_rfl) (by kernel_rfl) (by kernel_rfl) (fun _ _ _ h => h) rfl (fun w' h => by obtain ⟨h0, h1, h2, h3, h4, h5⟩ := h; go_simp) HX.out ?_
  go_frame
  refine takeH 10 13 (.agg #[.int .i64 kd, str ky, str tx, .int .i64 ro, str ls, str mk]) rfl rfl (by kernel_rfl) (by kernel_rfl) (by kernel_rfl) (fun _ _ _ h => h) rfl (fun w' h => by obtain ⟨h0, h1, h2, h3, h4, h5⟩ := h; go_simp) HX.out ?_
  go_frame
  refine takeH 12 15 (.pointer (some ⟨w.heap.size, 5, none⟩)) rfl rfl (by kernel_rfl) (by kernel_rfl) (by kernel_rfl) (fun _ _ _ h => h) rfl (fun w' h => by obtain ⟨h0, h1, h2, h3, h4, h5⟩ := h; go_simp) HX.out ?_
  go_frame
  refine takeH 13 16 (str mk) rfl rfl (by kernel_rfl) (by kernel_rfl) (by kernel_rfl) (fun _ _ _ h => h) rfl (fun w' h => by obtain ⟨h0, h1, h2, h3, h4, h5⟩ := h; go_simp) HX.out ?_
  go_frame
  refine wpAnyH_all (rs := [4]) (by kernel_rfl) (by simp) ?_
  simp only [List.mem_singleton, forall_eq]
  refine wpOp_callD 7 rfl rfl rfl 65 #[str ky] (by go_simp) ?_
  refine (fresh_any ky X0 (by have := HLN.out; omega)).mono ?_
  rintro e X1 ⟨v1, rfl, hO1, hb1⟩
  have HO1 := Lib.hid hO1
  have HB1 := Lib.hid hb1
  obtain ⟨A1, c1, rfl, -⟩ := hO1.sl
  refine ⟨_, rfl, HSX.out X1 (HBX.out.trans (HB1.out.mono HBX.out.size)), ?_⟩
  go_frame
  clear hO1 hb1
  have HC1 := Lib.hid (HBX.out.trans (HB1.out.mono HBX.out.size))
  clear HX
  refine wpAnyH_all (rs := [7]) (by kernel_rfl) (by simp) ?_
  simp only [List.mem_singleton, forall_eq]
  refine wpOp_callD 10 rfl rfl rfl 65 #[str tx] (by go_simp) ?_
  refine (fresh_any tx X1 (by have := HLN.out; omega)).mono ?_
  rintro e X2 ⟨v2, rfl, hO2, hb2⟩
  have HO2 := Lib.hid hO2
  have HB2 := Lib.hid hb2
  obtain ⟨A2, c2, rfl, -⟩ := hO2.sl
  refine ⟨_, rfl, HSX.out X2 (HC1.out.trans (HB2.out.mono HC1.out.size)), ?_⟩
  go_frame
  clear hO2 hb2
  have HC2 := Lib.hid (HC1.out.trans (HB2.out.mono HC1.out.size))
  refine wpAnyH_all (rs := [11]) (by kernel_rfl) (by simp) ?_
  simp only [List.mem_singleton, forall_eq]
  refine wpOp_callD 14 rfl rfl rfl 61 #[.agg #[.int .i64 kd, str ky, str tx, .int .i64 ro, str ls, str mk]] (by go_simp) ?_
  refine (HNU.out X2).mono ?_
  rintro e X3 ⟨v3, rfl, hO3, hb3⟩
  have HO3 := Lib.hid hO3
  have HB3 := Lib.hid hb3
  obtain ⟨A3, c3, rfl⟩ : ∃ A c, v3 = .slice A (numsL ls).length c := by
    rcases hO3.2 with ⟨h1, h2⟩ | ⟨g, cap, cur, h1, _⟩
    · exact ⟨none, 0, by rw [h1, h2]⟩
    · exact ⟨_, cap, h1⟩
  have HC3 := Lib.hid (HC2.out.trans (HB3.out.mono HC2.out.size))
  refine ⟨_, rfl, HSX.out X3 HC3.out, ?_⟩
  go_frame
  clear hO3 hb3
  refine wpAnyH_all (rs := [14]) (by kernel_rfl) (by simp) ?_
  simp only [List.mem_singleton, forall_eq]
  refine wpOp_callD 17 rfl rfl rfl 65 #[str mk] (by go_simp) ?_
  refine (fresh_any mk X3 (by have := HLN.out; omega)).mono ?_
  rintro e X4 ⟨v4, rfl, hO4, hb4⟩
  have HO4 := Lib.hid hO4
  have HB4 := Lib.hid hb4
  obtain ⟨A4, c4, rfl, -⟩ := hO4.sl
  refine ⟨_, rfl, HSX.out X4 (HC3.out.trans (HB4.out.mono HC3.out.size)), ?_⟩
  go_frame
  clear hO4 hb4
  have HC4 := Lib.hid (HC3.out.trans (HB4.out.mono HC3.out.size))
  have HX := Lib.hid (HSX.out X4 HC4.out)
  refine takeH 15 18 (.agg #[.int .i64 kd, .slice A1 ky.length c1, .slice A2 tx.length c2, .int .i64 ro, .slice A3 (numsL ls).length c3, .slice A4 mk.length c4]) rfl rfl (by kernel_rfl) (by kernel_rfl) (by kernel_rfl) (fun _ _ _ h => h) rfl (fun w' h => by obtain ⟨h0, h1, h2, h3, h4, h5⟩ := h; go_simp) HX.out ?_
  go_frame
  refine wpAnyH_all (rs := [16]) (by kernel_rfl) (by simp) ?_
  simp only [List.mem_singleton, forall_eq]
  have hk2 := HK2.out.below HC4.out HK2.out.lt
  have hfin := below_setCells (b := w.heap.size + 1) (Nat.le_refl _) [.int .i64 kd, .slice A1 ky.length c1, .slice A2 tx.length c2, .int .i64 ro, .slice A3 (numsL ls).length c3, .slice A4 mk.length c4] (Below.refl (w.heap.size + 1) X4) 0
  have HK5 := Lib.hid (hk2.setAll (vs := [.int .i64 kd, .slice A1 ky.length c1, .slice A2 tx.length c2, .int .i64 ro, .slice A3 (numsL ls).length c3, .slice A4 mk.length c4]) (by simp))
  refine wpOp_storeN rfl rfl rfl 55 (.tmp 2) (.tmp 18) rfl (w.heap.size + 1) 0 #[.int .i64 kd, .slice A1 ky.length c1, .slice A2 tx.length c2, .int .i64 ro, .slice A3 (numsL ls).length c3, .slice A4 mk.length c4] rfl rfl (hk2.there 0 6 (Nat.le_refl _)) (by kernel_rfl) (by simp [Value.oneCell']) ⟨?_, ?_⟩
  · obtain ⟨h0, h1, h2, h3, h4, h5⟩ := HX.out
    have hb := fun (o : Nat) => hfin.cell (p := ⟨w.heap.size, o, none⟩) (by show w.heap.size < w.heap.size + 1; omega)
    exact ⟨(hb 0).trans h0, (hb 1).trans h1, (hb 2).trans h2, (hb 3).trans h3, (hb 4).trans h4, (hb 5).trans h5⟩
  refine wpAnyH_done (by kernel_rfl) ?_ _
  refine NoPanic.normal ?_
  obtain ⟨Y, hY⟩ : ∃ Y, Y = X4.setCells (w.heap.size + 1) 0 #[Value.int .i64 kd, .slice A1 ky.length c1, .slice A2 tx.length c2, .int .i64 ro, .slice A3 (numsL ls).length c3, .slice A4 mk.length c4].toList := ⟨_, rfl⟩
  have HY := Lib.hid (show Y = X4.setCells (w.heap.size + 1) 0 [.int .i64 kd, .slice A1 ky.length c1, .slice A2 tx.length c2, .int .i64 ro, .slice A3 (numsL ls).length c3, .slice A4 mk.length c4] from hY)
  rw [← hY]
  have hkY : Blk Y (w.heap.size + 1) [.int .i64 kd, .slice A1 ky.length c1, .slice A2 tx.length c2, .int .i64 ro, .slice A3 (numsL ls).length c3, .slice A4 mk.length c4] := by rw [HY.out]; exact HK5.out
  have HKY := Lib.hid hkY
  have htr : Trs [w.heap.size + 1] X4 Y := (Trs.refl _ X4).grown (row := some (w.heap.size + 1)) (by rw [HY.out]; exact grown_setCells _ _ _ _) (fun k e => by cases e; simp)
  have hne : ∀ (B : Nat) (v : Value) (l : List UInt8), W0.heap.size ≤ B → OwnB X4 B v l → OwnB Y B v l := fun B v l hB ho => ho.trsV htr (fun k e hk => by have h1 := (ho.lt k e).1; have h2 := HZ0.out; rw [List.mem_singleton.1 hk] at h1; omega)
  have HFI := Lib.hid (show TmO Y w.heap.size ⟨kd, A1, ky.length, c1, A2, tx.length, c2, ro, A3, (numsL ls).length, c3, A4, mk.length, c4⟩ ⟨kd, ky, tx, ro, (numsL ls).map Int.ofNat, mk⟩ from by
    have hz1 := HBX.out.size
    have hz2 := HC1.out.size
    have hz3 := HC2.out.size
    have hz4 := HC3.out.size
    have hzz := HZ0.out
    refine ⟨rfl, (hne _ _ _ hz1 (((HO1.out.below HB2.out).below HB3.out).below HB4.out)).lower (by omega), (hne _ _ _ hz2 ((HO2.out.below HB3.out).below HB4.out)).lower (by omega), rfl, ⟨numsL ls, rfl, HLN.out.2.2.2, ?_⟩, (hne _ _ _ hz4 HO4.out).lower (by omega)⟩
    have h1 := HO3.out.below HB4.out
    have h2 : OwnJ Y X2.heap.size (.slice A3 (numsL ls).length c3) (numsL ls) := h1.trsT htr (fun k e hk => by have h3 := (World.ownsRow.lt h1 k e).1; rw [List.mem_singleton.1 hk] at h3; omega)
    exact ownJ_lower h2 (by omega))
  have HBF := Lib.hid (show Below w.heap.size w Y from (HB0.out.trans (HC4.out.mono HB0.out.size)).trans (htr.toBelow (by have := HC4.out.size; have := HZ0.out; omega) (fun k hk => by rw [List.mem_singleton.1 hk]; omega)))
  clear hkY htr hne hY hfin hk2
  obtain ⟨ty, hty⟩ := HKY.out
  go_wp2_with fail
  refine bodyPost_ret (v := .agg #[.int .i64 kd, .slice A1 ky.length c1, .slice A2 tx.length c2, .int .i64 ro, .slice A3 (numsL ls).length c3, .slice A4 mk.length c4]) ?_ rfl ?_
  · exact results_cell_row rfl _ _ (w.heap.size + 1) ty _ _ _ rfl hty Tryz.underlying55 rfl info_tmP
  · exact ⟨⟨kd, A1, ky.length, c1, A2, tx.length, c2, ro, A3, (numsL ls).length, c3, A4, mk.length, c4⟩, rfl, HFI.out, HBF.out⟩
theorem TmO.gesT {w : World} {base : Nat} {q : TmL} {t : TmV} (h : TmO w base q t) : ∀ v ∈ q.blocks, ∀ k, v.ownBlock = some k → base ≤ k := by
  intro v hv k hk
  simp only [TmL.blocks, List.mem_cons, List.not_mem_nil, or_false] at hv
  rcases hv with rfl | rfl | rfl | rfl
  · exact (h.key.lt k hk).1
  · exact (h.text.lt k hk).1
  · obtain ⟨ns, _, _, ho⟩ := h.lst
    exact (World.ownsRow.lt ho k hk).1
  · exact (h.mask.lt k hk).1
theorem TmO.low {w : World} {base base' : Nat} {q : TmL} {t : TmV} (h : TmO w base q t) (hb : base' ≤ base) : TmO w base' q t :=
  ⟨h.kind, h.key.lower hb, h.text.lower hb, h.rounds, by obtain ⟨ns, a, b, c⟩ := h.lst; exact ⟨ns, a, b, ownJ_lower c hb⟩, h.mask.lower hb⟩
theorem results_row2 {P : Program} {fn : Func} {p u : Tmp} {ty : TypeId} (h : fn.results = #[.cell p ty, .tmp u]) (tmps : Array Value) (w : World) (g : Nat) (t : TypeId) (cs : Array Value) (fr : Nat × Nat) (d : TypeDesc)
    (hp : tmps.getD p undef = .pointer (some ⟨g, 0, none⟩)) (hg : w.heap[g]? = some (.cells cs t fr))
    (hu : P.underlying ty = some d) (hd : (match d with | .struct _ | .array _ _ => true | _ => false) = true) (hi : (P.info? ty).map (·.size) = some cs.size) (x : Value) (hx : tmps.getD u undef = x) :
    (results fn tmps).run P w = .ok (.tuple #[.agg cs, x]) w := by
  subst hx
  have hp' : tmps[p]?.getD undef = .pointer (some ⟨g, 0, none⟩) := by simpa using hp
  rw [results_cell_tmp h]
  simp [hp', asAddr, run_loadVar_row w g t ty cs fr d hg hu hd hi, Result.andThen]
/-- Term: the term of a number. -/
theorem Term_bad {w : World} {base b m : Nat} {rv : Value} {sym full : Bool} {es : List EnL} (h : BX w base b m rv sym full es) (n : Int) (hn : n < 1 ∨ (es.length : Int) < n) :
    Calls Tryz.prog 23 #[tP b, .int .i64 n] w fun e w' => ∃ q, e = .returned (.tuple #[tmA q, .bool false]) ∧ Below w.heap.size w w' := by
  have HB := Lib.hid h
  have HBL := Lib.hid (show Below w.heap.size w (w.alloc (.cells #[.int .i64 0, .slice none 0 0, .slice none 0 0, .int .i64 0, .slice none 0 0, .slice none 0 0] 55)) from (Below.refl _ _).alloc (Nat.le_refl _) _)
  have HLN := Lib.hid (blen_any (h.below HBL.out))
  obtain ⟨tz, hz⟩ := Blk.new w [.int .i64 0, .slice none 0 0, .slice none 0 0, .int .i64 0, .slice none 0 0, .slice none 0 0] 55
  clear h
  by_cases h1 : n < 1
  · go_enter Tryz.func23, Tryz.ntmps23
    go_wp2_with fail
    refine bodyPost_ret (v := .tuple #[.agg #[.int .i64 0, .slice none 0 0, .slice none 0 0, .int .i64 0, .slice none 0 0, .slice none 0 0], .bool false]) ?_ rfl ?_
    · exact results_row2 rfl _ _ w.heap.size tz _ _ _ rfl hz Tryz.underlying55 rfl info_tmP _ rfl
    · exact ⟨⟨0, none, 0, 0, none, 0, 0, 0, none, 0, 0, none, 0, 0⟩, rfl, HBL.out⟩
  · have h2 : (es.length : Int) < n := by omega
    go_enter Tryz.func23, Tryz.ntmps23
    go_wp2_with fail
    refine HLN.out.mono ?_
    rintro e W1 ⟨rfl, rfl⟩
    go_wp2_with fail
    refine bodyPost_ret (v := .tuple #[.agg #[.int .i64 0, .slice none 0 0, .slice none 0 0, .int .i64 0, .slice none 0 0, .slice none 0 0], .bool false]) ?_ rfl ?_
    · exact results_row2 rfl _ _ w.heap.size tz _ _ _ rfl hz Tryz.underlying55 rfl info_tmP _ rfl
    · exact ⟨⟨0, none, 0, 0, none, 0, 0, 0, none, 0, 0, none, 0, 0⟩, rfl, HBL.out⟩
set_option maxHeartbeats 1000000 in
theorem Term_any {w : World} {base b m : Nat} {rv : Value} {sym full : Bool} {es : List EnL} (h : BX w base b m rv sym full es) (hge : GE es) (k : Nat) (hk : k < es.length) :
    Calls Tryz.prog 23 #[tP b, .int .i64 ((k : Int) + 1)] w fun e w' => ∃ q, e = .returned (.tuple #[tmA q, .bool true]) ∧ TmO w' w.heap.size q (enW es[k]) ∧ Below w.heap.size w w' := by
  obtain ⟨RA, rc, rfl, hrc1, hrc2⟩ := h.row.form
  have HOE := Lib.hid (h.ok es[k] (List.getElem_mem hk))
  have HEG := Lib.hid (hge.g es[k] (List.getElem_mem hk))
  obtain ⟨W1, hW1⟩ : ∃ W, W = w.alloc (.cells #[.int .i64 0, .slice none 0 0, .slice none 0 0, .int .i64 0, .slice none 0 0, .slice none 0 0] 55) := ⟨_, rfl⟩
  have HBL := Lib.hid (show Below w.heap.size w W1 from by rw [hW1]; exact (Below.refl _ _).alloc (Nat.le_refl _) _)
  have HKT := Lib.hid (show Blk W1 w.heap.size [.int .i64 0, .slice none 0 0, .slice none 0 0, .int .i64 0, .slice none 0 0, .slice none 0 0] from by rw [hW1]; exact Blk.new w _ _)
  have HX := Lib.hid (h.below HBL.out)
  have HLN := Lib.hid (blen_any HX.out)
  have HZ1 := Lib.hid (show W1.heap.size = w.heap.size + 1 from by rw [hW1]; simp)
  have hle : es.length ≤ 4096 := h.le
  have h1 : ¬ (k : Int) + 1 < 1 := by omega
  have h2 : ¬ (es.length : Int) < (k : Int) + 1 := by omega
  have h3 : (k : Int) + 1 - 1 = (k : Int) := by omega
  have h4 : (k : Int) < (es.length : Int) := by omega
  clear h
  go_enter Tryz.func23, Tryz.ntmps23
  go_wp2_with fail
  rw [← hW1]
  refine HLN.out.mono ?_
  rintro e W2 ⟨rfl, rfl⟩
  have k2 := HX.out.blk.at (o := 2) rfl
  obtain ⟨g, o, hA, hgl, c0, c1, c2, c3, c4, c5⟩ := HX.out.row.elIn.six k hk
  subst hA
  obtain ⟨y, hy⟩ : ∃ y, y = es[k] := ⟨_, rfl⟩
  rw [← hy] at c0 c1 c2 c3 c4 c5 HOE HEG
  have HTM := Lib.hid (term_any y HOE.out.l1 HOE.out.l2 HOE.out.l4 HEG.out W2)
  have HYE := Lib.hid hy
  clear hW1 hy
  obtain ⟨kd, ky, tx, ro, ls, mk⟩ := y
  go_wp2_with fail
  have HTM2 := HTM.out
  unfold eagg at HTM2
  refine HTM2.mono ?_
  rintro e W3 ⟨q, rfl, hq, hb3⟩
  have HQ := Lib.hid hq
  have HB3 := Lib.hid hb3
  have HK3 := Lib.hid (HKT.out.below hb3 HKT.out.lt)
  clear hq hb3 HTM2
  obtain ⟨kq, QA, qm, qc, UA, um, uc, rq, LA, lm, lc, MA, mm, mc⟩ := q
  unfold tmA
  obtain ⟨C, hC⟩ : ∃ C : Array Value, C = #[.int .i64 kq, .slice QA qm qc, .slice UA um uc, .int .i64 rq, .slice LA lm lc, .slice MA mm mc] := ⟨_, rfl⟩
  have HST := Lib.hid (HK3.out.there 0 6 (Nat.le_refl _))
  have HK4 := Lib.hid (HK3.out.setAll (vs := [.int .i64 kq, .slice QA qm qc, .slice UA um uc, .int .i64 rq, .slice LA lm lc, .slice MA mm mc]) (by simp))
  go_wp2_with ((with_reducible refine wpList_store_mid ?b1 55 (.tmp 4) (.tmp 23) ?b2 w.heap.size 0 #[.int .i64 kq, .slice QA qm qc, .slice UA um uc, .int .i64 rq, .slice LA lm lc, .slice MA mm mc] ?b3 ?b4 ?b5 ?b6 (by simp [Value.oneCell']) ?_); (case b1 => rfl); (case b2 => rfl); (case b3 => rfl); (case b4 => rfl); (case b5 => exact HST.out); (case b6 => kernel_rfl))
  obtain ⟨tz, hz⟩ := HK4.out
  have htr : Trs [w.heap.size] W3 (W3.setCells w.heap.size 0 [.int .i64 kq, .slice QA qm qc, .slice UA um uc, .int .i64 rq, .slice LA lm lc, .slice MA mm mc]) := (Trs.refl _ W3).grown (row := some w.heap.size) (grown_setCells _ _ _ _) (fun k e => by cases e; simp)
  refine bodyPost_ret (v := .tuple #[.agg #[.int .i64 kq, .slice QA qm qc, .slice UA um uc, .int .i64 rq, .slice LA lm lc, .slice MA mm mc], .bool true]) ?_ rfl ?_
  · exact results_row2 rfl _ _ w.heap.size tz _ _ _ rfl hz Tryz.underlying55 rfl info_tmP _ rfl
  · refine ⟨⟨kq, QA, qm, qc, UA, um, uc, rq, LA, lm, lc, MA, mm, mc⟩, rfl, ?_, ?_⟩
    · rw [← HYE.out]
      exact TmO.low (HQ.out.trs htr (fun v hv k e hk => by
        have h1 := HQ.out.gesT v hv k e
        have h2 := HZ1.out
        rw [List.mem_singleton.1 hk] at h1
        omega)) (by have := HZ1.out; omega)
    · exact (HBL.out.trans (HB3.out.mono HBL.out.size)).trans (htr.toBelow (by have := HB3.out.size; have := HZ1.out; omega) (fun k hk => by rw [List.mem_singleton.1 hk]; exact Nat.le_refl _))
end Go.Proofs.YtlnjpmpddomjiaaGreatDoor
set_option maxRecDepth 100000
namespace Go.Proofs.YtlnjpmpddomjiaaGreatDoor
open Go.RowKit
attribute [local go_sem] Oper.semAt_some
theorem info_tmR : (Tryz.prog.info? 41).map (·.size) = some 6 := by kernel_rfl
theorem blen2_any {w : World} {base b m : Nat} {rv : Value} {sym full : Bool} {es : List EnL} (h : BX w base b m rv sym full es) :
    Calls Tryz.prog 13 #[tP b] w fun e w' => e = .returned (.int .i64 (es.length : Int)) ∧ w = w' := (blen_any h).mono fun _ _ ⟨h1, h2⟩ => ⟨h1, h2.symm⟩
theorem back_any (q : TmL) (w : World) : Calls Tryz.prog 20 #[tmA q] w fun e w' => e = .returned (tmA q) ∧ Below w.heap.size w w' := by
  obtain ⟨kq, QA, qm, qc, UA, um, uc, rq, LA, lm, lc, MA, mm, mc⟩ := q
  unfold tmA
  obtain ⟨W1, hW1⟩ : ∃ W, W = (w.alloc (.cells #[.int .i64 kq, .slice QA qm qc, .slice UA um uc, .int .i64 rq, .slice LA lm lc, .slice MA mm mc] 55)).alloc (.cells #[.int .i64 0, .slice none 0 0, .slice none 0 0, .int .i64 0, .slice none 0 0, .slice none 0 0] tTm) := ⟨_, rfl⟩
  have HB := Lib.hid (show Below w.heap.size w W1 from by rw [hW1]; exact ((Below.refl _ _).alloc (Nat.le_refl _) _).alloc (by simp) _)
  have hk1 : Blk W1 w.heap.size [.int .i64 kq, .slice QA qm qc, .slice UA um uc, .int .i64 rq, .slice LA lm lc, .slice MA mm mc] := by
    rw [hW1]; exact (Blk.new w _ _).below ((Below.refl _ _).alloc (Nat.le_refl _) _) (by simp)
  have HK2 := Lib.hid (show Blk W1 (w.heap.size + 1) [.int .i64 0, .slice none 0 0, .slice none 0 0, .int .i64 0, .slice none 0 0, .slice none 0 0] from by
    rw [hW1]; exact Blk.newAt (w.alloc (.cells #[.int .i64 kq, .slice QA qm qc, .slice UA um uc, .int .i64 rq, .slice LA lm lc, .slice MA mm mc] 55)) _ _ (by simp) rfl)
  have HST := Lib.hid (HK2.out.there 0 6 (Nat.le_refl _))
  have HK4 := Lib.hid (HK2.out.setAll (vs := [.int .i64 kq, .slice QA qm qc, .slice UA um uc, .int .i64 rq, .slice LA lm lc, .slice MA mm mc]) (by simp))
  have HK1 := Lib.hid hk1
  rw [hW1] at hk1
  have c0 := hk1.at (o := 0) rfl
  have c1 := hk1.at (o := 1) rfl
  have c2 := hk1.at (o := 2) rfl
  have c3 := hk1.at (o := 3) rfl
  have c4 := hk1.at (o := 4) rfl
  have c5 := hk1.at (o := 5) rfl
  rw [hW1] at HST
  go_enter Tryz.func20, Tryz.ntmps20
  go_wp2_with ((with_reducible refine wpList_store_mid ?b1 tTm (.tmp 2) (.tmp 3) ?b2 (w.heap.size + 1) 0 #[.int .i64 kq, .slice QA qm qc, .slice UA um uc, .int .i64 rq, .slice LA lm lc, .slice MA mm mc] ?b3 ?b4 ?b5 ?b6 (by simp [Value.oneCell']) ?_); (case b1 => rfl); (case b2 => rfl); (case b3 => rfl); (case b4 => rfl); (case b5 => exact HST.out); (case b6 => kernel_rfl))
  rw [← hW1]
  obtain ⟨tz, hz⟩ := HK4.out
  refine bodyPost_ret (v := .agg #[.int .i64 kq, .slice QA qm qc, .slice UA um uc, .int .i64 rq, .slice LA lm lc, .slice MA mm mc]) ?_ rfl ?_
  · exact results_cell_row rfl _ _ (w.heap.size + 1) tz _ _ _ rfl hz Tryz.underlying41 rfl info_tmR
  · exact ⟨rfl, below_setCells (by omega) _ HB.out 0⟩
set_option maxHeartbeats 8000000 in
theorem same_td {w : World} {base tb b m x : Nat} {rv V : Value} {T : List TmL} {tv : Value} {vals : List Value} {sym f : Bool} {es : List EnL} {tags : List (List UInt8)} (h : TD w base tb b m x rv V T tv vals sym f f es es tags) :
    Calls Tryz.prog 10 #[.pointer (some ⟨tb, 0, none⟩)] w fun e w' => e = .returned (.bool true) ∧ Below w.heap.size w w' := by
  obtain ⟨A, c, hV, hc1, hc2⟩ := h.xb.own.form
  subst hV
  have hl : T.length = es.length := by have := h.xb.len; rw [List.length_map] at this; exact this
  have hle : es.length ≤ 4096 := h.gp.le
  have t0 := h.lt.blk.at (o := 0) rfl
  have t1 := h.lt.blk.at (o := 1) rfl
  have x0 := h.xb.blk.at (o := 0) rfl
  have x1 := h.xb.blk.at (o := 1) rfl
  have x2 := h.xb.blk.at (o := 2) rfl
  rw [hl] at x1
  have HD := Lib.hid h
  have HL := Lib.hid hl
  clear h hl
  go_enter Tryz.func10, Tryz.ntmps10
  go_wp2_with fail
  refine wp_region_noPanic ?_
  refine wp_region_held (S := fun W' => W'.cell? ⟨tb, 0, none⟩ = some (tP b) ∧ W'.cell? ⟨tb, 1, none⟩ = some (tP x) ∧ W'.cell? ⟨x, 0, none⟩ = some (.bool sym) ∧ W'.cell? ⟨x, 1, none⟩ = some (.slice A es.length c) ∧ W'.cell? ⟨x, 2, none⟩ = some (.bool f)) (by kernel_rfl) ?_
  change wpAnyH _ _ _ _ _ _ _ _ (World.drew _)
  obtain ⟨X0, hX0⟩ : ∃ X, X = World.drew w := ⟨_, rfl⟩
  have HBX := Lib.hid (show Below w.heap.size w X0 from by rw [hX0]; exact (Below.refl _ _).drew)
  rw [← hX0]
  clear hX0
  have HSX := Lib.hid (fun (W' : World) (hb : Below w.heap.size w W') => (show W'.cell? ⟨tb, 0, none⟩ = some (tP b) ∧ W'.cell? ⟨tb, 1, none⟩ = some (tP x) ∧ W'.cell? ⟨x, 0, none⟩ = some (.bool sym) ∧ W'.cell? ⟨x, 1, none⟩ = some (.slice A es.length c) ∧ W'.cell? ⟨x, 2, none⟩ = some (.bool f) from ⟨(HD.out.lt.blk.below hb HD.out.lt.blk.lt).at (o := 0) rfl, (HD.out.lt.blk.below hb HD.out.lt.blk.lt).at (o := 1) rfl, (HD.out.xb.blk.below hb HD.out.xb.blk.lt).at (o := 0) rfl, by rw [← HL.out]; exact (HD.out.xb.blk.below hb HD.out.xb.blk.lt).at (o := 1) rfl, (HD.out.xb.blk.below hb HD.out.xb.blk.lt).at (o := 2) rfl⟩))
  have HX := Lib.hid (HSX.out X0 HBX.out)
  refine takeH 0 11 (.pointer (some ⟨tb, 0, none⟩)) rfl rfl (by kernel_rfl) (by kernel_rfl) (by kernel_rfl) (fun _ _ _ h => h) rfl (fun w' h => by obtain ⟨h0, h1, h2, h3, h4⟩ := h; go_simp) HX.out ?_
  go_frame
  refine takeH 1 12 (.pointer (some ⟨tb, 0, none⟩)) rfl rfl (by kernel_rfl) (by kernel_rfl) (by kernel_rfl) (fun _ _ _ h => h) rfl (fun w' h => by obtain ⟨h0, h1, h2, h3, h4⟩ := h; go_simp) HX.out ?_
  go_frame
  refine takeH 2 13 (.pointer (some ⟨tb, 0, none⟩)) rfl rfl (by kernel_rfl) (by kernel_rfl) (by kernel_rfl) (fun _ _ _ h => h) rfl (fun w' h => by obtain ⟨h0, h1, h2, h3, h4⟩ := h; go_simp) HX.out ?_
  go_frame
  refine takeH 3 14 (tP b) rfl rfl (by kernel_rfl) (by kernel_rfl) (by kernel_rfl) (fun _ _ _ h => h) rfl (fun w' h => by obtain ⟨h0, h1, h2, h3, h4⟩ := h; go_simp) HX.out ?_
  go_frame
  refine takeH 5 16 (.pointer (some ⟨tb, 0, none⟩)) rfl rfl (by kernel_rfl) (by kernel_rfl) (by kernel_rfl) (fun _ _ _ h => h) rfl (fun w' h => by obtain ⟨h0, h1, h2, h3, h4⟩ := h; go_simp) HX.out ?_
  go_frame
  refine takeH 6 17 (.pointer (some ⟨tb, 0, none⟩)) rfl rfl (by kernel_rfl) (by kernel_rfl) (by kernel_rfl) (fun _ _ _ h => h) rfl (fun w' h => by obtain ⟨h0, h1, h2, h3, h4⟩ := h; go_simp) HX.out ?_
  go_frame
  refine takeH 7 18 (.pointer (some ⟨tb, 1, none⟩)) rfl rfl (by kernel_rfl) (by kernel_rfl) (by kernel_rfl) (fun _ _ _ h => h) rfl (fun w' h => by obtain ⟨h0, h1, h2, h3, h4⟩ := h; go_simp) HX.out ?_
  go_frame
  refine takeH 8 19 (tP x) rfl rfl (by kernel_rfl) (by kernel_rfl) (by kernel_rfl) (fun _ _ _ h => h) rfl (fun w' h => by obtain ⟨h0, h1, h2, h3, h4⟩ := h; go_simp) HX.out ?_
  go_frame
  refine takeH 9 20 (tP x) rfl rfl (by kernel_rfl) (by kernel_rfl) (by kernel_rfl) (fun _ _ _ h => h) rfl (fun w' h => by obtain ⟨h0, h1, h2, h3, h4⟩ := h; go_simp) HX.out ?_
  go_frame
  refine takeH 10 21 (.pointer (some ⟨x, 1, none⟩)) rfl rfl (by kernel_rfl) (by kernel_rfl) (by kernel_rfl) (fun _ _ _ h => h) rfl (fun w' h => by obtain ⟨h0, h1, h2, h3, h4⟩ := h; go_simp) HX.out ?_
  go_frame
  refine takeH 11 22 (.slice A es.length c) rfl rfl (by kernel_rfl) (by kernel_rfl) (by kernel_rfl) (fun _ _ _ h => h) rfl (fun w' h => by obtain ⟨h0, h1, h2, h3, h4⟩ := h; go_simp) HX.out ?_
  go_frame
  refine takeH 12 23 (.int .i64 (es.length : Int)) rfl rfl (by kernel_rfl) (by kernel_rfl) (by kernel_rfl) (fun _ _ _ h => h) rfl (fun w' h => by obtain ⟨h0, h1, h2, h3, h4⟩ := h; go_simp) HX.out ?_
  go_frame
  refine wpAnyH_all (rs := [4]) (by kernel_rfl) (by simp) ?_
  simp only [List.mem_singleton, forall_eq]
  refine wpOp_callD 15 rfl rfl rfl 13 #[tP b] (by go_simp) ?_
  refine (blen2_any (HD.out.below HBX.out).bx).mono ?_
  rintro e X1 ⟨rfl, rfl⟩
  refine ⟨_, rfl, HX.out, ?_⟩
  go_frame
  refine takeH 13 24 (.bool false) rfl rfl (by kernel_rfl) (by kernel_rfl) (by kernel_rfl) (fun _ _ _ h => h) rfl (fun w' h => by obtain ⟨h0, h1, h2, h3, h4⟩ := h; go_simp) HX.out ?_
  go_frame
  refine takeH 14 25 (.bool false) rfl rfl (by kernel_rfl) (by kernel_rfl) (by kernel_rfl) (fun _ _ _ h => h) rfl (fun w' h => by obtain ⟨h0, h1, h2, h3, h4⟩ := h; go_simp) HX.out ?_
  go_frame
  refine takeH 15 26 (.pointer (some ⟨tb, 0, none⟩)) rfl rfl (by kernel_rfl) (by kernel_rfl) (by kernel_rfl) (fun _ _ _ h => h) rfl (fun w' h => by obtain ⟨h0, h1, h2, h3, h4⟩ := h; go_simp) HX.out ?_
  go_frame
  refine takeH 16 27 (.pointer (some ⟨tb, 0, none⟩)) rfl rfl (by kernel_rfl) (by kernel_rfl) (by kernel_rfl) (fun _ _ _ h => h) rfl (fun w' h => by obtain ⟨h0, h1, h2, h3, h4⟩ := h; go_simp) HX.out ?_
  go_frame
  refine takeH 17 28 (.pointer (some ⟨tb, 0, none⟩)) rfl rfl (by kernel_rfl) (by kernel_rfl) (by kernel_rfl) (fun _ _ _ h => h) rfl (fun w' h => by obtain ⟨h0, h1, h2, h3, h4⟩ := h; go_simp) HX.out ?_
  go_frame
  refine takeH 18 29 (tP b) rfl rfl (by kernel_rfl) (by kernel_rfl) (by kernel_rfl) (fun _ _ _ h => h) rfl (fun w' h => by obtain ⟨h0, h1, h2, h3, h4⟩ := h; go_simp) HX.out ?_
  go_frame
  refine takeH 20 31 (.pointer (some ⟨tb, 0, none⟩)) rfl rfl (by kernel_rfl) (by kernel_rfl) (by kernel_rfl) (fun _ _ _ h => h) rfl (fun w' h => by obtain ⟨h0, h1, h2, h3, h4⟩ := h; go_simp) HX.out ?_
  go_frame
  refine takeH 21 32 (.pointer (some ⟨tb, 0, none⟩)) rfl rfl (by kernel_rfl) (by kernel_rfl) (by kernel_rfl) (fun _ _ _ h => h) rfl (fun w' h => by obtain ⟨h0, h1, h2, h3, h4⟩ := h; go_simp) HX.out ?_
  go_frame
  refine takeH 22 33 (.pointer (some ⟨tb, 1, none⟩)) rfl rfl (by kernel_rfl) (by kernel_rfl) (by kernel_rfl) (fun _ _ _ h => h) rfl (fun w' h => by obtain ⟨h0, h1, h2, h3, h4⟩ := h; go_simp) HX.out ?_
  go_frame
  refine takeH 23 34 (tP x) rfl rfl (by kernel_rfl) (by kernel_rfl) (by kernel_rfl) (fun _ _ _ h => h) rfl (fun w' h => by obtain ⟨h0, h1, h2, h3, h4⟩ := h; go_simp) HX.out ?_
  go_frame
  refine takeH 24 35 (tP x) rfl rfl (by kernel_rfl) (by kernel_rfl) (by kernel_rfl) (fun _ _ _ h => h) rfl (fun w' h => by obtain ⟨h0, h1, h2, h3, h4⟩ := h; go_simp) HX.out ?_
  go_frame
  refine takeH 25 36 (.pointer (some ⟨x, 2, none⟩)) rfl rfl (by kernel_rfl) (by kernel_rfl) (by kernel_rfl) (fun _ _ _ h => h) rfl (fun w' h => by obtain ⟨h0, h1, h2, h3, h4⟩ := h; go_simp) HX.out ?_
  go_frame
  refine takeH 26 37 (.bool f) rfl rfl (by kernel_rfl) (by kernel_rfl) (by kernel_rfl) (fun _ _ _ h => h) rfl (fun w' h => by obtain ⟨h0, h1, h2, h3, h4⟩ := h; go_simp) HX.out ?_
  go_frame
  refine wpAnyH_all (rs := [19]) (by kernel_rfl) (by simp) ?_
  simp only [List.mem_singleton, forall_eq]
  refine wpOp_callD 30 rfl rfl rfl 15 #[tP b] (by go_simp) ?_
  refine (bfull_any (HD.out.below HBX.out).bx).mono ?_
  rintro e X1 ⟨rfl, rfl⟩
  refine ⟨_, rfl, HX.out, ?_⟩
  go_frame
  refine takeH 27 38 (.bool false) rfl rfl (by kernel_rfl) (by kernel_rfl) (by kernel_rfl) (fun _ _ _ h => h) rfl (fun w' h => by obtain ⟨h0, h1, h2, h3, h4⟩ := h; go_simp) HX.out ?_
  go_frame
  refine takeH 28 39 (.bool false) rfl rfl (by kernel_rfl) (by kernel_rfl) (by kernel_rfl) (fun _ _ _ h => h) rfl (fun w' h => by obtain ⟨h0, h1, h2, h3, h4⟩ := h; go_simp) HX.out ?_
  go_frame
  refine takeH 29 40 (.bool false) rfl rfl (by kernel_rfl) (by kernel_rfl) (by kernel_rfl) (fun _ _ _ h => h) rfl (fun w' h => by obtain ⟨h0, h1, h2, h3, h4⟩ := h; go_simp) HX.out ?_
  go_frame
  refine takeH 30 41 (.pointer (some ⟨tb, 0, none⟩)) rfl rfl (by kernel_rfl) (by kernel_rfl) (by kernel_rfl) (fun _ _ _ h => h) rfl (fun w' h => by obtain ⟨h0, h1, h2, h3, h4⟩ := h; go_simp) HX.out ?_
  go_frame
  refine takeH 31 42 (.pointer (some ⟨tb, 0, none⟩)) rfl rfl (by kernel_rfl) (by kernel_rfl) (by kernel_rfl) (fun _ _ _ h => h) rfl (fun w' h => by obtain ⟨h0, h1, h2, h3, h4⟩ := h; go_simp) HX.out ?_
  go_frame
  refine takeH 32 43 (.pointer (some ⟨tb, 0, none⟩)) rfl rfl (by kernel_rfl) (by kernel_rfl) (by kernel_rfl) (fun _ _ _ h => h) rfl (fun w' h => by obtain ⟨h0, h1, h2, h3, h4⟩ := h; go_simp) HX.out ?_
  go_frame
  refine takeH 33 44 (tP b) rfl rfl (by kernel_rfl) (by kernel_rfl) (by kernel_rfl) (fun _ _ _ h => h) rfl (fun w' h => by obtain ⟨h0, h1, h2, h3, h4⟩ := h; go_simp) HX.out ?_
  go_frame
  refine takeH 35 46 (.pointer (some ⟨tb, 0, none⟩)) rfl rfl (by kernel_rfl) (by kernel_rfl) (by kernel_rfl) (fun _ _ _ h => h) rfl (fun w' h => by obtain ⟨h0, h1, h2, h3, h4⟩ := h; go_simp) HX.out ?_
  go_frame
  refine takeH 36 47 (.pointer (some ⟨tb, 0, none⟩)) rfl rfl (by kernel_rfl) (by kernel_rfl) (by kernel_rfl) (fun _ _ _ h => h) rfl (fun w' h => by obtain ⟨h0, h1, h2, h3, h4⟩ := h; go_simp) HX.out ?_
  go_frame
  refine takeH 37 48 (.pointer (some ⟨tb, 1, none⟩)) rfl rfl (by kernel_rfl) (by kernel_rfl) (by kernel_rfl) (fun _ _ _ h => h) rfl (fun w' h => by obtain ⟨h0, h1, h2, h3, h4⟩ := h; go_simp) HX.out ?_
  go_frame
  refine takeH 38 49 (tP x) rfl rfl (by kernel_rfl) (by kernel_rfl) (by kernel_rfl) (fun _ _ _ h => h) rfl (fun w' h => by obtain ⟨h0, h1, h2, h3, h4⟩ := h; go_simp) HX.out ?_
  go_frame
  refine takeH 39 50 (tP x) rfl rfl (by kernel_rfl) (by kernel_rfl) (by kernel_rfl) (fun _ _ _ h => h) rfl (fun w' h => by obtain ⟨h0, h1, h2, h3, h4⟩ := h; go_simp) HX.out ?_
  go_frame
  refine takeH 40 51 (.pointer (some ⟨x, 0, none⟩)) rfl rfl (by kernel_rfl) (by kernel_rfl) (by kernel_rfl) (fun _ _ _ h => h) rfl (fun w' h => by obtain ⟨h0, h1, h2, h3, h4⟩ := h; go_simp) HX.out ?_
  go_frame
  refine takeH 41 52 (.bool sym) rfl rfl (by kernel_rfl) (by kernel_rfl) (by kernel_rfl) (fun _ _ _ h => h) rfl (fun w' h => by obtain ⟨h0, h1, h2, h3, h4⟩ := h; go_simp) HX.out ?_
  go_frame
  refine wpAnyH_all (rs := [34]) (by kernel_rfl) (by simp) ?_
  simp only [List.mem_singleton, forall_eq]
  refine wpOp_callD 45 rfl rfl rfl 14 #[tP b] (by go_simp) ?_
  refine (bsym_any (HD.out.below HBX.out).bx).mono ?_
  rintro e X1 ⟨rfl, rfl⟩
  refine ⟨_, rfl, HX.out, ?_⟩
  go_frame
  refine takeH 42 53 (.bool false) rfl rfl (by kernel_rfl) (by kernel_rfl) (by kernel_rfl) (fun _ _ _ h => h) rfl (fun w' h => by obtain ⟨h0, h1, h2, h3, h4⟩ := h; go_simp) HX.out ?_
  go_frame
  refine takeH 43 54 (.bool false) rfl rfl (by kernel_rfl) (by kernel_rfl) (by kernel_rfl) (fun _ _ _ h => h) rfl (fun w' h => by obtain ⟨h0, h1, h2, h3, h4⟩ := h; go_simp) HX.out ?_
  go_frame
  refine wpAnyH_done (by kernel_rfl) ?_ _
  refine NoPanic.normal ?_
  have q0 := HX.out.1
  have q1 := HX.out.2.1
  have q2 := HX.out.2.2.2.1
  clear t0 t1 x0 x1 x2
  go_wp2_with fail
  go_loopw [3, 4, 5, 6, 63] (fun _ _ _ _ i wr => ∃ k : Nat, k ≤ es.length ∧ i = .int .i64 (k : Int) ∧ Below X0.heap.size X0 wr) (fun _ _ _ _ i _ => es.length - (intOf i).toNat)
  case atStart => exact ⟨0, by omega, rfl, Below.refl _ _⟩
  case round =>
    obtain ⟨k, hk, rfl, hbl⟩ := hrel
    have HBl := Lib.hid (HBX.out.trans (hbl.mono HBX.out.size))
    have HBq := Lib.hid hbl
    clear hbl
    by_cases hlt : k < es.length
    · have hlt' : (k : Int) < (es.length : Int) := by omega
      have hkT : k < T.length := by rw [HL.out]; exact hlt
      have hkM : k < (es.map enW).length := by rw [List.length_map]; exact hlt
      obtain ⟨g, o, hA, hgl, c0, c1, c2, c3, c4, c5⟩ := ((HD.out.xb.own.tmIn).below HBl.out (Nat.le_refl _)).six k hkT
      subst hA
      have HTO := Lib.hid (HD.out.xb.tm k hkT hkM)
      obtain ⟨y, hy⟩ : ∃ y, y = T[k] := ⟨_, rfl⟩
      rw [← hy] at c0 c1 c2 c3 c4 c5 HTO
      obtain ⟨by_, hby⟩ : ∃ n, n = wr.heap.size := ⟨_, rfl⟩
      obtain ⟨W1, hW1⟩ : ∃ W, W = wr.alloc (.cells #[.int .i64 y.kind, .slice y.KA y.km y.kc, .slice y.TA y.tm y.tc, .int .i64 y.rounds, .slice y.LA y.lm y.lc, .slice y.MA y.mm y.mc] tTm) := ⟨_, rfl⟩
      have hb1 : Below wr.heap.size wr W1 := by rw [hW1]; exact (Below.refl _ _).alloc (Nat.le_refl _) _
      have HB1 := Lib.hid (HBl.out.trans (hb1.mono HBl.out.size))
      have HBR := Lib.hid (HBq.out.trans (hb1.mono HBq.out.size))
      have HYB := Lib.hid (show Blk W1 by_ [.int .i64 y.kind, .slice y.KA y.km y.kc, .slice y.TA y.tm y.tc, .int .i64 y.rounds, .slice y.LA y.lm y.lc, .slice y.MA y.mm y.mc] from by rw [hW1, hby]; exact Blk.new wr _ tTm)
      have q0' := (HSX.out W1 HB1.out).1
      rw [hW1] at q0'
      have HTM := Lib.hid (Term_any (HD.out.below HB1.out).bx HD.out.gp k hlt)
      have HWE := Lib.hid hW1
      have HBY := Lib.hid hby
      clear hb1 hW1 hy hby q0 q1 q2
      obtain ⟨kd, KA, km, kc, TA, tm, tc, rd, LB, ln, ld, MB, mn, md⟩ := y
      go_wp2_with fail
      rw [← HWE.out, ← HBY.out]
      refine HTM.out.mono ?_
      rintro e X1 ⟨q, rfl, hq, hb1⟩
      have HQ := Lib.hid hq
      have HBT := Lib.hid hb1
      clear hq hb1 q0'
      obtain ⟨kq, QA, qm, qc, UA, um, uc, rq, LA, lm, lc, MA, mm, mc⟩ := q
      unfold tmA
      go_wp2_with fail
      obtain ⟨bz, hbz⟩ : ∃ n, n = X1.heap.size := ⟨_, rfl⟩
      obtain ⟨X2, hX2⟩ : ∃ W, W = X1.alloc (.cells #[.int .i64 kq, .slice QA qm qc, .slice UA um uc, .int .i64 rq, .slice LA lm lc, .slice MA mm mc] 55) := ⟨_, rfl⟩
      have hb2 : Below X1.heap.size X1 X2 := by rw [hX2]; exact (Below.refl _ _).alloc (Nat.le_refl _) _
      have HB2 := Lib.hid (HBT.out.trans (hb2.mono HBT.out.size))
      have HQB := Lib.hid (show Blk X2 bz [.int .i64 kq, .slice QA qm qc, .slice UA um uc, .int .i64 rq, .slice LA lm lc, .slice MA mm mc] from by rw [hX2, hbz]; exact Blk.new X1 _ _)
      have HQ2 := Lib.hid (HQ.out.below hb2)
      have HY2 := Lib.hid (HYB.out.below HB2.out HYB.out.lt)
      rw [← hX2, ← hbz]
      clear hX2 hbz hb2
      refine wp_region_noPanic ?_
      refine wp_region_held (S := fun W' => (W'.cell? ⟨bz, 0, none⟩ = some (.int .i64 kq) ∧ W'.cell? ⟨bz, 1, none⟩ = some (.slice QA qm qc) ∧ W'.cell? ⟨bz, 2, none⟩ = some (.slice UA um uc) ∧ W'.cell? ⟨bz, 3, none⟩ = some (.int .i64 rq) ∧ W'.cell? ⟨bz, 4, none⟩ = some (.slice LA lm lc) ∧ W'.cell? ⟨bz, 5, none⟩ = some (.slice MA mm mc)) ∧ W'.cell? ⟨by_, 0, none⟩ = some (.int .i64 kd) ∧ W'.cell? ⟨by_, 1, none⟩ = some (.slice KA km kc) ∧ W'.cell? ⟨by_, 2, none⟩ = some (.slice TA tm tc) ∧ W'.cell? ⟨by_, 3, none⟩ = some (.int .i64 rd) ∧ W'.cell? ⟨by_, 4, none⟩ = some (.slice LB ln ld) ∧ W'.cell? ⟨by_, 5, none⟩ = some (.slice MB mn md)) (by kernel_rfl) ?_
      change wpAnyH _ _ _ _ _ _ _ _ (World.drew _)
      obtain ⟨X3, hX3⟩ : ∃ X, X = World.drew X2 := ⟨_, rfl⟩
      have HB3 := Lib.hid (show Below X2.heap.size X2 X3 from by rw [hX3]; exact (Below.refl _ _).drew)
      rw [← hX3]
      clear hX3
      have HSZ := Lib.hid (fun (W' : World) (hb : Below X2.heap.size X2 W') => (show (W'.cell? ⟨bz, 0, none⟩ = some (.int .i64 kq) ∧ W'.cell? ⟨bz, 1, none⟩ = some (.slice QA qm qc) ∧ W'.cell? ⟨bz, 2, none⟩ = some (.slice UA um uc) ∧ W'.cell? ⟨bz, 3, none⟩ = some (.int .i64 rq) ∧ W'.cell? ⟨bz, 4, none⟩ = some (.slice LA lm lc) ∧ W'.cell? ⟨bz, 5, none⟩ = some (.slice MA mm mc)) ∧ W'.cell? ⟨by_, 0, none⟩ = some (.int .i64 kd) ∧ W'.cell? ⟨by_, 1, none⟩ = some (.slice KA km kc) ∧ W'.cell? ⟨by_, 2, none⟩ = some (.slice TA tm tc) ∧ W'.cell? ⟨by_, 3, none⟩ = some (.int .i64 rd) ∧ W'.cell? ⟨by_, 4, none⟩ = some (.slice LB ln ld) ∧ W'.cell? ⟨by_, 5, none⟩ = some (.slice MB mn md) from by
        have a := HQB.out.below hb HQB.out.lt
        have b' := HY2.out.below hb HY2.out.lt
        exact ⟨⟨a.at (o := 0) rfl, a.at (o := 1) rfl, a.at (o := 2) rfl, a.at (o := 3) rfl, a.at (o := 4) rfl, a.at (o := 5) rfl⟩, b'.at (o := 0) rfl, b'.at (o := 1) rfl, b'.at (o := 2) rfl, b'.at (o := 3) rfl, b'.at (o := 4) rfl, b'.at (o := 5) rfl⟩))
      have HX := Lib.hid (HSZ.out X3 HB3.out)
      refine takeH 0 78 (.bool true) rfl rfl (by kernel_rfl) (by kernel_rfl) (by kernel_rfl) (fun _ _ _ h => h) rfl (fun w' h => by obtain ⟨⟨h0, h1, h2, h3, h4, h5⟩, g0, g1, g2, g3, g4, g5⟩ := h; go_simp) HX.out ?_
      go_frame
      refine takeH 1 79 (.bool false) rfl rfl (by kernel_rfl) (by kernel_rfl) (by kernel_rfl) (fun _ _ _ h => h) rfl (fun w' h => by obtain ⟨⟨h0, h1, h2, h3, h4, h5⟩, g0, g1, g2, g3, g4, g5⟩ := h; go_simp) HX.out ?_
      go_frame
      refine takeH 2 80 (.bool false) rfl rfl (by kernel_rfl) (by kernel_rfl) (by kernel_rfl) (fun _ _ _ h => h) rfl (fun w' h => by obtain ⟨⟨h0, h1, h2, h3, h4, h5⟩, g0, g1, g2, g3, g4, g5⟩ := h; go_simp) HX.out ?_
      go_frame
      refine takeH 3 81 (.agg #[.int .i64 kq, .slice QA qm qc, .slice UA um uc, .int .i64 rq, .slice LA lm lc, .slice MA mm mc]) rfl rfl (by kernel_rfl) (by kernel_rfl) (by kernel_rfl) (fun _ _ _ h => h) rfl (fun w' h => by obtain ⟨⟨h0, h1, h2, h3, h4, h5⟩, g0, g1, g2, g3, g4, g5⟩ := h; go_simp) HX.out ?_
      go_frame
      refine takeH 5 83 (.agg #[.int .i64 kd, .slice KA km kc, .slice TA tm tc, .int .i64 rd, .slice LB ln ld, .slice MB mn md]) rfl rfl (by kernel_rfl) (by kernel_rfl) (by kernel_rfl) (fun _ _ _ h => h) rfl (fun w' h => by obtain ⟨⟨h0, h1, h2, h3, h4, h5⟩, g0, g1, g2, g3, g4, g5⟩ := h; go_simp) HX.out ?_
      go_frame
      refine wpAnyH_all (rs := [4]) (by kernel_rfl) (by simp) ?_
      simp only [List.mem_singleton, forall_eq]
      refine wpOp_callD 82 rfl rfl rfl 20 #[.agg #[.int .i64 kq, .slice QA qm qc, .slice UA um uc, .int .i64 rq, .slice LA lm lc, .slice MA mm mc]] (by go_simp) ?_
      refine (back_any ⟨kq, QA, qm, qc, UA, um, uc, rq, LA, lm, lc, MA, mm, mc⟩ X3).mono ?_
      rintro e X4 ⟨rfl, hb4⟩
      have HB4 := Lib.hid (HB3.out.trans (hb4.mono HB3.out.size))
      refine ⟨_, rfl, HSZ.out X4 HB4.out, ?_⟩
      go_frame
      clear hb4
      refine wpAnyH_all (rs := [6]) (by kernel_rfl) (by simp) ?_
      simp only [List.mem_singleton, forall_eq]
      refine wpOp_callD 84 rfl rfl rfl 11 #[.agg #[.int .i64 kq, .slice QA qm qc, .slice UA um uc, .int .i64 rq, .slice LA lm lc, .slice MA mm mc], .agg #[.int .i64 kd, .slice KA km kc, .slice TA tm tc, .int .i64 rd, .slice LB ln ld, .slice MB mn md]] (by go_simp; rfl) ?_
      have hsm := sameTm_any X4.heap.size ⟨kq, QA, qm, qc, UA, um, uc, rq, LA, lm, lc, MA, mm, mc⟩ ⟨kd, KA, km, kc, TA, tm, tc, rd, LB, ln, ld, MB, mn, md⟩ (enW es[k]) ((es.map enW)[k]) X4 (HQ2.out.below HB4.out).s (HTO.out.below (HB1.out.trans ((HB2.out.trans (HB4.out.mono HB2.out.size)).mono HB1.out.size))).s (Nat.le_refl _) (by
        rw [List.getElem_map]
        have := (HD.out.gp.g _ (List.getElem_mem hlt)).le
        unfold enW
        rw [List.length_map]
        omega)
      rw [List.getElem_map, decide_eq_true rfl] at hsm
      refine hsm.mono ?_
      rintro e X5 ⟨rfl, hb5⟩
      have HB5 := Lib.hid (HB4.out.trans (hb5.mono HB4.out.size))
      refine ⟨_, rfl, HSZ.out X5 HB5.out, ?_⟩
      go_frame
      have HX := Lib.hid (HSZ.out X5 HB5.out)
      clear hb5 hsm
      refine takeH 7 85 (.bool false) rfl rfl (by kernel_rfl) (by kernel_rfl) (by kernel_rfl) (fun _ _ _ h => h) rfl (fun w' h => by obtain ⟨⟨h0, h1, h2, h3, h4, h5⟩, g0, g1, g2, g3, g4, g5⟩ := h; go_simp) HX.out ?_
      go_frame
      refine takeH 8 86 (.bool false) rfl rfl (by kernel_rfl) (by kernel_rfl) (by kernel_rfl) (fun _ _ _ h => h) rfl (fun w' h => by obtain ⟨⟨h0, h1, h2, h3, h4, h5⟩, g0, g1, g2, g3, g4, g5⟩ := h; go_simp) HX.out ?_
      go_frame
      refine wpAnyH_done (by kernel_rfl) ?_ _
      refine NoPanic.normal ?_
      have HF := Lib.hid (HBR.out.trans ((HB2.out.trans (HB5.out.mono HB2.out.size)).mono HBR.out.size))
      go_wp2_with fail
      exact ⟨⟨k + 1, by omega, by go_num, HF.out⟩, by simp [intOf]; omega⟩
    · obtain rfl : k = es.length := by omega
      have q0' := (HSX.out wr HBl.out).1
      have q1' := (HSX.out wr HBl.out).2.1
      have q2' := (HSX.out wr HBl.out).2.2.2.1
      have HTB := Lib.hid (Term_bad (HD.out.below HBl.out).bx 0 (.inl (by omega)))
      clear q0 q1 q2
      go_wp2_with fail
      refine HTB.out.mono ?_
      rintro e X1 ⟨q, rfl, hb1⟩
      have HB1 := Lib.hid (HBl.out.trans (hb1.mono HBl.out.size))
      clear hb1 q0' q1' q2'
      obtain ⟨kq, QA, qm, qc, UA, um, uc, rq, LA, lm, lc, MA, mm, mc⟩ := q
      unfold tmA
      go_wp2_with fail
      obtain ⟨X2, hX2⟩ : ∃ W, W = X1.alloc (.cells #[.int .i64 kq, .slice QA qm qc, .slice UA um uc, .int .i64 rq, .slice LA lm lc, .slice MA mm mc] 55) := ⟨_, rfl⟩
      have HB2 := Lib.hid (show Below w.heap.size w X2 from by rw [hX2]; exact HB1.out.alloc HB1.out.size _)
      rw [← hX2]
      clear hX2
      have hsum : IntKind.i64.wrap ((es.length : Int) + 1) = (es.length : Int) + 1 := by rw [IntKind.wrap_i64]; omega
      refine wp_region_noPanic ?_
      refine wp_region_held (S := fun W' => W'.cell? ⟨tb, 0, none⟩ = some (tP b) ∧ W'.cell? ⟨tb, 1, none⟩ = some (tP x) ∧ W'.cell? ⟨x, 0, none⟩ = some (.bool sym) ∧ W'.cell? ⟨x, 1, none⟩ = some (.slice A es.length c) ∧ W'.cell? ⟨x, 2, none⟩ = some (.bool f)) (by kernel_rfl) ?_
      change wpAnyH _ _ _ _ _ _ _ _ (World.drew _)
      obtain ⟨X3, hX3⟩ : ∃ X, X = World.drew X2 := ⟨_, rfl⟩
      have HB3 := Lib.hid (show Below X2.heap.size X2 X3 from by rw [hX3]; exact (Below.refl _ _).drew)
      rw [← hX3]
      clear hX3
      have HC3 := Lib.hid (HB2.out.trans (HB3.out.mono HB2.out.size))
      have HX := Lib.hid (HSX.out X3 HC3.out)
      refine takeH 0 97 (.pointer (some ⟨tb, 0, none⟩)) rfl rfl (by kernel_rfl) (by kernel_rfl) (by kernel_rfl) (fun _ _ _ h => h) rfl (fun w' h => by obtain ⟨h0, h1, h2, h3, h4⟩ := h; first | (go_simp; done) | (go_simp; rw [hsum])) HX.out ?_
      go_frame
      refine takeH 1 98 (.pointer (some ⟨tb, 0, none⟩)) rfl rfl (by kernel_rfl) (by kernel_rfl) (by kernel_rfl) (fun _ _ _ h => h) rfl (fun w' h => by obtain ⟨h0, h1, h2, h3, h4⟩ := h; first | (go_simp; done) | (go_simp; rw [hsum])) HX.out ?_
      go_frame
      refine takeH 2 99 (.pointer (some ⟨tb, 0, none⟩)) rfl rfl (by kernel_rfl) (by kernel_rfl) (by kernel_rfl) (fun _ _ _ h => h) rfl (fun w' h => by obtain ⟨h0, h1, h2, h3, h4⟩ := h; first | (go_simp; done) | (go_simp; rw [hsum])) HX.out ?_
      go_frame
      refine takeH 3 100 (tP b) rfl rfl (by kernel_rfl) (by kernel_rfl) (by kernel_rfl) (fun _ _ _ h => h) rfl (fun w' h => by obtain ⟨h0, h1, h2, h3, h4⟩ := h; first | (go_simp; done) | (go_simp; rw [hsum])) HX.out ?_
      go_frame
      refine takeH 4 101 (.pointer (some ⟨tb, 0, none⟩)) rfl rfl (by kernel_rfl) (by kernel_rfl) (by kernel_rfl) (fun _ _ _ h => h) rfl (fun w' h => by obtain ⟨h0, h1, h2, h3, h4⟩ := h; first | (go_simp; done) | (go_simp; rw [hsum])) HX.out ?_
      go_frame
      refine takeH 5 102 (.pointer (some ⟨tb, 0, none⟩)) rfl rfl (by kernel_rfl) (by kernel_rfl) (by kernel_rfl) (fun _ _ _ h => h) rfl (fun w' h => by obtain ⟨h0, h1, h2, h3, h4⟩ := h; first | (go_simp; done) | (go_simp; rw [hsum])) HX.out ?_
      go_frame
      refine takeH 6 103 (.pointer (some ⟨tb, 1, none⟩)) rfl rfl (by kernel_rfl) (by kernel_rfl) (by kernel_rfl) (fun _ _ _ h => h) rfl (fun w' h => by obtain ⟨h0, h1, h2, h3, h4⟩ := h; first | (go_simp; done) | (go_simp; rw [hsum])) HX.out ?_
      go_frame
      refine takeH 7 104 (tP x) rfl rfl (by kernel_rfl) (by kernel_rfl) (by kernel_rfl) (fun _ _ _ h => h) rfl (fun w' h => by obtain ⟨h0, h1, h2, h3, h4⟩ := h; first | (go_simp; done) | (go_simp; rw [hsum])) HX.out ?_
      go_frame
      refine takeH 8 105 (tP x) rfl rfl (by kernel_rfl) (by kernel_rfl) (by kernel_rfl) (fun _ _ _ h => h) rfl (fun w' h => by obtain ⟨h0, h1, h2, h3, h4⟩ := h; first | (go_simp; done) | (go_simp; rw [hsum])) HX.out ?_
      go_frame
      refine takeH 9 106 (.pointer (some ⟨x, 1, none⟩)) rfl rfl (by kernel_rfl) (by kernel_rfl) (by kernel_rfl) (fun _ _ _ h => h) rfl (fun w' h => by obtain ⟨h0, h1, h2, h3, h4⟩ := h; first | (go_simp; done) | (go_simp; rw [hsum])) HX.out ?_
      go_frame
      refine takeH 10 107 (.slice A es.length c) rfl rfl (by kernel_rfl) (by kernel_rfl) (by kernel_rfl) (fun _ _ _ h => h) rfl (fun w' h => by obtain ⟨h0, h1, h2, h3, h4⟩ := h; first | (go_simp; done) | (go_simp; rw [hsum])) HX.out ?_
      go_frame
      refine takeH 11 108 (.int .i64 (es.length : Int)) rfl rfl (by kernel_rfl) (by kernel_rfl) (by kernel_rfl) (fun _ _ _ h => h) rfl (fun w' h => by obtain ⟨h0, h1, h2, h3, h4⟩ := h; first | (go_simp; done) | (go_simp; rw [hsum])) HX.out ?_
      go_frame
      refine takeH 12 109 (.int .i64 ((es.length : Int) + 1)) rfl rfl (by kernel_rfl) (by kernel_rfl) (by kernel_rfl) (fun _ _ _ h => h) rfl (fun w' h => by obtain ⟨h0, h1, h2, h3, h4⟩ := h; first | (go_simp; done) | (go_simp; rw [hsum])) HX.out ?_
      go_frame
      refine wpAnyH_all (rs := [13, 17]) (by kernel_rfl) (by simp) ?_
      simp only [List.mem_cons, List.not_mem_nil, or_false, forall_eq_or_imp, forall_eq]
      refine ⟨?_, ?_⟩
      · refine wpOp_callD 110 rfl rfl rfl 23 #[tP b, .int .i64 ((es.length : Int) + 1)] (by go_simp) ?_
        refine (Term_bad (HD.out.below HC3.out).bx ((es.length : Int) + 1) (.inr (by omega))).mono ?_
        rintro e X4 ⟨q2, rfl, hb4⟩
        have HC4 := Lib.hid (HC3.out.trans (hb4.mono HC3.out.size))
        have HB4 := Lib.hid hb4
        obtain ⟨kz2, ZA, zm, zc, ZB, yb, yc, rz, ZC, z3, z4, ZD, z5, z6⟩ := q2
        unfold tmA
        refine ⟨_, rfl, HSX.out X4 HC4.out, ?_⟩
        go_frame
        have HX := Lib.hid (HSX.out X4 HC4.out)
        clear hb4
        refine takeH 14 96 (.tuple #[.agg #[.int .i64 kz2, .slice ZA zm zc, .slice ZB yb yc, .int .i64 rz, .slice ZC z3 z4, .slice ZD z5 z6], .bool false]) rfl rfl (by kernel_rfl) (by kernel_rfl) (by kernel_rfl) (fun _ _ _ h => h) rfl (fun w' h => by obtain ⟨h0, h1, h2, h3, h4⟩ := h; go_simp) HX.out ?_
        go_frame
        refine takeH 15 111 (.agg #[.int .i64 kz2, .slice ZA zm zc, .slice ZB yb yc, .int .i64 rz, .slice ZC z3 z4, .slice ZD z5 z6]) rfl rfl (by kernel_rfl) (by kernel_rfl) (by kernel_rfl) (fun _ _ _ h => h) rfl (fun w' h => by obtain ⟨h0, h1, h2, h3, h4⟩ := h; go_simp) HX.out ?_
        go_frame
        refine takeH 16 112 (.bool false) rfl rfl (by kernel_rfl) (by kernel_rfl) (by kernel_rfl) (fun _ _ _ h => h) rfl (fun w' h => by obtain ⟨h0, h1, h2, h3, h4⟩ := h; go_simp) HX.out ?_
        go_frame
        refine wpAnyH_all (rs := [17]) (by kernel_rfl) (by simp) ?_
        simp only [List.mem_singleton, forall_eq]
        obtain ⟨X5, hX5⟩ : ∃ W, W = X4.alloc (.cells #[.int .i64 0, .slice none 0 0, .slice none 0 0, .int .i64 0, .slice none 0 0, .slice none 0 0] 55) := ⟨_, rfl⟩
        have HK5 := Lib.hid (show Blk X5 X4.heap.size [.int .i64 0, .slice none 0 0, .slice none 0 0, .int .i64 0, .slice none 0 0, .slice none 0 0] from by rw [hX5]; exact Blk.new X4 _ _)
        have HC5 := Lib.hid (show Below w.heap.size w X5 from by rw [hX5]; exact HC4.out.alloc HC4.out.size _)
        have HBK := Lib.hid HC4.out.size
        refine wpOp_runD 9 rfl rfl rfl (.pointer (some ⟨X4.heap.size, 0, none⟩)) (w' := X5) (by rw [hX5]; go_simp) ?_
        refine ⟨HSX.out X5 HC5.out, ?_⟩
        go_frame
        clear hX5
        refine wpAnyH_all (rs := [18]) (by kernel_rfl) (by simp) ?_
        simp only [List.mem_singleton, forall_eq]
        refine wpOp_storeN rfl rfl rfl 55 (.tmp 9) (.tmp 111) rfl X4.heap.size 0 #[.int .i64 kz2, .slice ZA zm zc, .slice ZB yb yc, .int .i64 rz, .slice ZC z3 z4, .slice ZD z5 z6] rfl rfl (HK5.out.there 0 6 (Nat.le_refl _)) (by kernel_rfl) (by simp [Value.oneCell']) ?_
        have HF := Lib.hid (below_setCells (b := X4.heap.size) (B := w.heap.size) HBK.out [.int .i64 kz2, .slice ZA zm zc, .slice ZB yb yc, .int .i64 rz, .slice ZC z3 z4, .slice ZD z5 z6] HC5.out 0)
        refine ⟨HSX.out _ HF.out, ?_⟩
        go_frame
        have HX := Lib.hid (HSX.out _ HF.out)
        refine takeH 19 10 (.bool false) rfl rfl (by kernel_rfl) (by kernel_rfl) (by kernel_rfl) (fun _ _ _ h => h) rfl (fun w' h => by obtain ⟨h0, h1, h2, h3, h4⟩ := h; go_simp) HX.out ?_
        go_frame
        refine wpAnyH_done (by kernel_rfl) ?_ _
        refine NoPanic.normal ?_
        go_wp2_with fail
        go_ret
        exact ⟨rfl, HF.out⟩
      · obtain ⟨X5, hX5⟩ : ∃ W, W = X3.alloc (.cells #[.int .i64 0, .slice none 0 0, .slice none 0 0, .int .i64 0, .slice none 0 0, .slice none 0 0] 55) := ⟨_, rfl⟩
        have HK5 := Lib.hid (show Blk X5 X3.heap.size [.int .i64 0, .slice none 0 0, .slice none 0 0, .int .i64 0, .slice none 0 0, .slice none 0 0] from by rw [hX5]; exact Blk.new X3 _ _)
        have HC5 := Lib.hid (show Below w.heap.size w X5 from by rw [hX5]; exact HC3.out.alloc HC3.out.size _)
        have HBK := Lib.hid HC3.out.size
        refine wpOp_runD 9 rfl rfl rfl (.pointer (some ⟨X3.heap.size, 0, none⟩)) (w' := X5) (by rw [hX5]; go_simp) ?_
        refine ⟨HSX.out X5 HC5.out, ?_⟩
        go_frame
        clear hX5
        refine wpAnyH_all (rs := [13]) (by kernel_rfl) (by simp) ?_
        simp only [List.mem_singleton, forall_eq]
        refine wpOp_callD 110 rfl rfl rfl 23 #[tP b, .int .i64 ((es.length : Int) + 1)] (by go_simp) ?_
        refine (Term_bad (HD.out.below HC5.out).bx ((es.length : Int) + 1) (.inr (by omega))).mono ?_
        rintro e X4 ⟨q2, rfl, hb4⟩
        have HC4 := Lib.hid (HC5.out.trans (hb4.mono HC5.out.size))
        have HB4 := Lib.hid hb4
        obtain ⟨kz2, ZA, zm, zc, ZB, yb, yc, rz, ZC, z3, z4, ZD, z5, z6⟩ := q2
        unfold tmA
        refine ⟨_, rfl, HSX.out X4 HC4.out, ?_⟩
        go_frame
        have HX := Lib.hid (HSX.out X4 HC4.out)
        clear hb4
        have HK4 := Lib.hid (HK5.out.below HB4.out HK5.out.lt)
        refine takeH 14 96 (.tuple #[.agg #[.int .i64 kz2, .slice ZA zm zc, .slice ZB yb yc, .int .i64 rz, .slice ZC z3 z4, .slice ZD z5 z6], .bool false]) rfl rfl (by kernel_rfl) (by kernel_rfl) (by kernel_rfl) (fun _ _ _ h => h) rfl (fun w' h => by obtain ⟨h0, h1, h2, h3, h4⟩ := h; go_simp) HX.out ?_
        go_frame
        refine takeH 15 111 (.agg #[.int .i64 kz2, .slice ZA zm zc, .slice ZB yb yc, .int .i64 rz, .slice ZC z3 z4, .slice ZD z5 z6]) rfl rfl (by kernel_rfl) (by kernel_rfl) (by kernel_rfl) (fun _ _ _ h => h) rfl (fun w' h => by obtain ⟨h0, h1, h2, h3, h4⟩ := h; go_simp) HX.out ?_
        go_frame
        refine takeH 16 112 (.bool false) rfl rfl (by kernel_rfl) (by kernel_rfl) (by kernel_rfl) (fun _ _ _ h => h) rfl (fun w' h => by obtain ⟨h0, h1, h2, h3, h4⟩ := h; go_simp) HX.out ?_
        go_frame
        refine wpAnyH_all (rs := [18]) (by kernel_rfl) (by simp) ?_
        simp only [List.mem_singleton, forall_eq]
        refine wpOp_storeN rfl rfl rfl 55 (.tmp 9) (.tmp 111) rfl X3.heap.size 0 #[.int .i64 kz2, .slice ZA zm zc, .slice ZB yb yc, .int .i64 rz, .slice ZC z3 z4, .slice ZD z5 z6] rfl rfl (HK4.out.there 0 6 (Nat.le_refl _)) (by kernel_rfl) (by simp [Value.oneCell']) ?_
        have HF := Lib.hid (below_setCells (b := X3.heap.size) (B := w.heap.size) HBK.out [.int .i64 kz2, .slice ZA zm zc, .slice ZB yb yc, .int .i64 rz, .slice ZC z3 z4, .slice ZD z5 z6] HC4.out 0)
        refine ⟨HSX.out _ HF.out, ?_⟩
        go_frame
        have HX := Lib.hid (HSX.out _ HF.out)
        refine takeH 19 10 (.bool false) rfl rfl (by kernel_rfl) (by kernel_rfl) (by kernel_rfl) (fun _ _ _ h => h) rfl (fun w' h => by obtain ⟨h0, h1, h2, h3, h4⟩ := h; go_simp) HX.out ?_
        go_frame
        refine wpAnyH_done (by kernel_rfl) ?_ _
        refine NoPanic.normal ?_
        go_wp2_with fail
        go_ret
        exact ⟨rfl, HF.out⟩
end Go.Proofs.YtlnjpmpddomjiaaGreatDoor
set_option maxRecDepth 100000
namespace Go.Proofs.YtlnjpmpddomjiaaGreatDoor
open Go.RowKit
attribute [local go_sem] Oper.semAt_some
set_option maxHeartbeats 8000000 in
theorem boxPlays_law (B : Nat) (sy : Bool) (v : Value) (ls : List OpX) (w : World) (hv : OpsX w B v ls) (hB : B ≤ w.heap.size) (hT : TabA w) (hU : TabB w) :
    Calls Tryz.prog 3 #[.bool sy, v] w fun e w' => e = .returned (.bool true) ∧ Below w.heap.size w w' := by
  have HGA := Lib.hid (And.intro (tabA_lt hT) (tabB_lt hU))
  have HV := Lib.hid hv
  have HT := Lib.hid hT
  have HU := Lib.hid hU
  have HBW := Lib.hid hB
  obtain ⟨SA, SC, rfl, hn1, hn2, _⟩ := hv
  clear hT hU hB
  go_enter Tryz.func3, Tryz.ntmps3
  go_wp2_with fail
  refine (awake5 w).mono ?_
  rintro e W1 ⟨rfl, hB1⟩
  have HB1 := Lib.hid hB1
  clear hB1
  go_wp2_with fail
  refine (new_box sy W1).mono ?_
  rintro e W2 ⟨b, m, rfl, hX, hB2⟩
  have HX2 := Lib.hid hX
  have HB2 := Lib.hid hB2
  clear hX hB2
  go_wp2_with fail
  obtain ⟨W3, hW3⟩ : ∃ W, W = (W2.alloc (.cells #[.bool sy, .slice none 0 0, .bool false] 30)).alloc (.cells #[tP b, tP W2.heap.size, .slice none 0 0] 33) := ⟨_, rfl⟩
  have hnew := td_new HX2.out HB2.out.size hW3
  have HTE3 := Lib.hid (show TE W3 W1.heap.size (W2.heap.size + 1) b W2.heap.size sy 0 from ⟨_, _, _, _, _, _, _, _, _, hnew.1, by simp, by simp⟩)
  have HB3 := Lib.hid (HB2.out.trans (hnew.2.mono HB2.out.size))
  rw [← hW3]
  clear hW3 hnew
  have HGB := Lib.hid (show 0 < W1.heap.size ∧ 2 < W1.heap.size ∧ B ≤ W1.heap.size from by have h1 := HGA.out; have h2 := HB1.out.size; have h3 := HBW.out; omega)
  have HKP := Lib.hid (fun (W : World) (hb : Below W1.heap.size W1 W) => (show TabA W ∧ TabB W ∧ Below w.heap.size w W ∧ W1.heap.size ≤ W.heap.size from ⟨(HT.out.below HB1.out HGA.out.1).below hb HGB.out.1, (HU.out.below HB1.out HGA.out.2).below hb HGB.out.2.1, HB1.out.trans (hb.mono HB1.out.size), hb.size⟩))
  go_loopw [6, 7, 19] (fun _ _ i wr => ∃ k : Nat, k ≤ ls.length ∧ i = .int .i64 (k : Int) ∧ TE wr W1.heap.size (W2.heap.size + 1) b W2.heap.size sy k ∧ k ≤ 25 ∧ Below W1.heap.size W1 wr) (fun _ _ i _ => ls.length - (intOf i).toNat)
  case atStart => exact ⟨0, by omega, rfl, HTE3.out, by omega, HB3.out⟩
  case round =>
    obtain ⟨k, hk, rfl, hte, hk25, hbl⟩ := hrel
    have HTE := Lib.hid hte
    have HBl := Lib.hid hbl
    clear hte hbl
    by_cases hlt : k < ls.length
    · have hlt' : (k : Int) < (ls.length : Int) := by omega
      obtain ⟨A2, C2, hv2, _, _, hx⟩ := HV.out
      injection hv2 with hv21 hv22 hv23
      subst hv21; subst hv23
      obtain ⟨sb, so, rfl, hsb, hx⟩ := hx (by omega)
      obtain ⟨hc0, hok⟩ := hx k hlt
      have HOK := Lib.hid (hok.below (HKP.out _ HBl.out).2.2.1 HBW.out)
      have hc : ∀ j v, (opC ls[k])[j]? = some v → wr.cell? ⟨sb, so + k * 7 + j, none⟩ = some v := fun j v hv => ((HKP.out _ HBl.out).2.2.1.cell (p := ⟨sb, so + k * 7 + j, none⟩) (by have := HBW.out; show sb < w.heap.size; omega)).trans (hc0 j v hv)
      clear hc0 hok
      obtain ⟨o, ho⟩ : ∃ o, o = ls[k] := ⟨_, rfl⟩
      rw [← ho] at hc HOK
      clear hx ho hv22
      obtain ⟨dd, p, q, A1, c1, l1, A2, c2, l2, r, raw⟩ := o
      have k0 := hc 0 _ rfl
      have k1 := hc 1 _ rfl
      have k2 := hc 2 _ rfl
      have k3 := hc 3 _ rfl
      have k4 := hc 4 _ rfl
      have k5 := hc 5 _ rfl
      have k6 := hc 6 _ rfl
      rw [Nat.add_zero] at k0
      clear hc
      by_cases hk20 : k < 25
      · have hk2 : ¬ (25 : Int) ≤ (k : Int) := by omega
        have HDO := Lib.hid (fun W (hb : Below wr.heap.size wr W) => do_te (HTE.out.below hb) (by omega) ⟨dd, p, q, A1, c1, l1, A2, c2, l2, r, raw⟩ B (HOK.out.below hb (Nat.le_trans HGB.out.2.2 HBl.out.size)) (Nat.le_trans HGB.out.2.2 (Nat.le_trans HBl.out.size hb.size)) (HKP.out W (HBl.out.trans (hb.mono HBl.out.size))).1 (HKP.out W (HBl.out.trans (hb.mono HBl.out.size))).2.1 (Nat.le_trans HBl.out.size hb.size) HGB.out.1 HGB.out.2.1)
        have HBN := Lib.hid (fun (W W' : World) (hb : Below wr.heap.size wr W) (hb' : Below W1.heap.size W W') => (show Below W1.heap.size W1 W' from (HBl.out.trans (hb.mono HBl.out.size)).trans hb'))
        go_wp2_with fail
        refine (HDO.out _ ((Below.refl _ _).alloc (Nat.le_refl _) _)).mono ?_
        rintro e W5 ⟨rfl, hte5, hb5⟩
        have HTE5 := Lib.hid (hte5)
        have HB5 := Lib.hid (HBN.out _ _ ((Below.refl _ _).alloc (Nat.le_refl _) _) hb5)
        clear hte5 hb5
        go_wp2_with fail
        exact ⟨⟨k + 1, by omega, by go_num, HTE5.out, by omega, HB5.out⟩, by simp [intOf]; omega⟩
      · have hk2 : (25 : Int) ≤ (k : Int) := by omega
        obtain ⟨WW, hWW⟩ : ∃ W, W = wr.alloc (.cells #[.int .u8 dd, .int .i64 p, .int .i64 q, .slice A1 l1.length c1, .slice A2 l2.length c2, .int .i64 r, .bool raw] 36) := ⟨_, rfl⟩
        have hbw : Below wr.heap.size wr WW := by rw [hWW]; exact (Below.refl _ _).alloc (Nat.le_refl _) _
        obtain ⟨m', rv, V, T, tv, vals, f, es, tags, htd, -, -⟩ := HTE.out.below hbw
        have HSM := Lib.hid htd
        have HBE := Lib.hid ((HKP.out _ (HBl.out.trans (hbw.mono HBl.out.size))).2.2.1)
        clear htd hbw
        go_wp2_with fail
        rw [← hWW]
        refine (same_td HSM.out).mono ?_
        rintro e W6 ⟨rfl, hb6⟩
        have HF := Lib.hid (HBE.out.trans (hb6.mono HBE.out.size))
        clear hb6
        go_wp2_with fail
        go_ret
        exact ⟨rfl, HF.out⟩
    · obtain rfl : k = ls.length := by omega
      obtain ⟨m', rv, V, T, tv, vals, f, es, tags, htd, -, -⟩ := HTE.out
      have HSM := Lib.hid htd
      have HBE := Lib.hid ((HKP.out _ HBl.out).2.2.1)
      clear htd
      go_wp2_with fail
      refine (same_td HSM.out).mono ?_
      rintro e W6 ⟨rfl, hb6⟩
      have HF := Lib.hid (HBE.out.trans (hb6.mono HBE.out.size))
      clear hb6
      go_wp2_with fail
      go_ret
      exact ⟨rfl, HF.out⟩
end Go.Proofs.YtlnjpmpddomjiaaGreatDoor
