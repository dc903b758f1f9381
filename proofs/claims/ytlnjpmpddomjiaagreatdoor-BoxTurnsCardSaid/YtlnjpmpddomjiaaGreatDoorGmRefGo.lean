/- The reference's Go, and its Sum. The reference's Sum. -/
import Derived.Test.YtlnjpmpddomjiaaGreatDoorGmRefTail
import Derived.Test.YtlnjpmpddomjiaaGreatDoorGmReg
import Derived.Test.YtlnjpmpddomjiaaGreatDoorGmMgA
set_option maxRecDepth 100000
namespace Go.Proofs.YtlnjpmpddomjiaaGreatDoor
open Go.RowKit
theorem run_from (pb po plen pcap k : Nat) (K : Int) (hK : K = (k : Int)) (hk : k ≤ plen) : ∃ o', (∀ (W : World), (Instr.sliceAt 34 (.slice (some ⟨pb, po, none⟩) plen pcap) (some (.int .i64 K)) none none).run Tryz.prog W = .ok (.slice (some ⟨pb, o', none⟩) (plen - k) (pcap - k)) W) ∧ (k < pcap → o' = po + k) := by
  subst hK
  have h1 : (k : Int) ≤ (plen : Int) := by omega
  by_cases h : pcap = k
  · exact ⟨po, fun W => by simp [go_sem, h1, h], fun h' => by omega⟩
  · exact ⟨po + k, fun W => by simp [go_sem, h1, h], fun _ => rfl⟩
theorem wpOp_loadMidD {P : Program} {ops : Array Oper} {Q : Exit → Act → World → Prop} {K : Act → World → Prop} {a : Act} {w : World} {i : Nat} {op : Oper} (dt : Tmp) (hi : ops[i]? = some op) (hdt : op.dst = some dt) (hw : Region.wanted op (yielded ops a.tmps) = true) (ty : TypeId) (x : Operand) (ho : op.op = .load ty x)
    (b o : Nat) (hx : a.eval x = .pointer (some ⟨b, o, none⟩)) (cs : List Value) (d : TypeDesc) (hc : w.rangeAt b o cs)
    (hu : P.underlying ty = some d) (hd : d.isRow = true) (hinf : (P.info? ty).map (·.size) = some cs.length) (h : K (a.put (some dt) (.agg cs.toArray)) w) : wpOp P ops Q i K a w :=
  wpOp_of_wp hi hw (wp_load_mid ty x ho b o hx cs d hc hu hd hinf (by rw [hdt]; exact h))
theorem Blk.st8 {W : World} {b : Nat} {s : St} (h : Blk W b s.cells) :
    W.cell? ⟨b, 0, none⟩ = some (vw s.a) ∧ W.cell? ⟨b, 1, none⟩ = some (vw s.b) ∧ W.cell? ⟨b, 2, none⟩ = some (vw s.c) ∧ W.cell? ⟨b, 3, none⟩ = some (vw s.d) ∧ W.cell? ⟨b, 4, none⟩ = some (vw s.e) ∧ W.cell? ⟨b, 5, none⟩ = some (vw s.f) ∧ W.cell? ⟨b, 6, none⟩ = some (vw s.g) ∧ W.cell? ⟨b, 7, none⟩ = some (vw s.h) :=
  ⟨h.at rfl, h.at rfl, h.at rfl, h.at rfl, h.at rfl, h.at rfl, h.at rfl, h.at rfl⟩
theorem Blk.st_range {W : World} {b : Nat} {s : St} (h : Blk W b s.cells) : W.rangeAt b 0 s.cells := h.range 0 8
structure GoIn (w : World) (B : Nat) (s : St) (l : List UInt8) (wr : World) (u : Value) (j : Nat) : Prop where
  le : 64 * j ≤ l.length
  sl : Sl wr w.heap.size u (l.drop (64 * j))
  box : Blk wr B (runN s l j).cells
  below : Below w.heap.size w wr
  lt : B < wr.heap.size
set_option maxRecDepth 100000 in
set_option maxHeartbeats 1000000 in
theorem refGo_any (s : St) (v : Value) (l : List UInt8) (w : World) (hT : TabB w) (hG : 2 < w.heap.size) (hs : Sl w w.heap.size v l) (hl : l.length ≤ 1000000) :
    Calls Tryz.prog 70 #[.agg s.cells.toArray, v] w fun e w' => ∃ v', e = .returned (.tuple #[.agg (stOf s l).cells.toArray, v']) ∧ Sl w' w.heap.size v' (restOf l) ∧ Below w.heap.size w w' := by
  have hz := zero_st
  have HT := Lib.hid hT; clear hT
  have HS := Lib.hid hs; clear hs
  go_enter Tryz.func70, Tryz.ntmps70
  go_wp2_with fail
  clear hz
  have hb1 : Below w.heap.size w ((w.alloc (.cells s.cells.toArray 112)).alloc (.cells #[.int .u32 0, .int .u32 0, .int .u32 0, .int .u32 0, .int .u32 0, .int .u32 0, .int .u32 0, .int .u32 0] 112)) := ((Below.refl _ _).alloc (Nat.le_refl _) _).alloc (by simp) _
  go_loopw [1] (fun u wr => ∃ j : Nat, GoIn w w.heap.size s l wr u j ∧ Blk wr (w.heap.size + 1) [.int .u32 0, .int .u32 0, .int .u32 0, .int .u32 0, .int .u32 0, .int .u32 0, .int .u32 0, .int .u32 0]) (fun u _ => match u with | .slice _ n _ => n | _ => 0)
  case atStart =>
    refine ⟨0, ⟨by omega, by simpa using HS.out.below hb1 (Nat.le_refl _), ?_, hb1, by simp; omega⟩, ?_⟩
    · rw [runN_zero]; exact (Blk.newAt w s.cells.toArray _ rfl rfl).alloc _
    · exact Blk.newAt _ _ _ (by simp) rfl
  case round =>
    obtain ⟨j, hI, hb2⟩ := hrel
    have HI := Lib.hid hI
    have HB2 := Lib.hid hb2; clear hb2
    obtain ⟨q, hq⟩ : ∃ q, q = l.drop (64 * j) := ⟨_, rfl⟩
    have hql : q.length = l.length - 64 * j := by rw [hq, List.length_drop]
    have hsq := hI.sl
    rw [← hq] at hsq
    obtain ⟨A, c, rfl, k0, k1, k2, k3⟩ := hsq
    have HK0 := Lib.hid k0; clear k0
    obtain ⟨S', hS'⟩ : ∃ S', S' = runN s l j := ⟨_, rfl⟩
    clear hI
    by_cases hlt : 64 ≤ q.length
    · obtain ⟨b, o, rfl, hb, hbs⟩ := k3 (by omega)
      obtain ⟨o2, hrun, ho2⟩ := run_from b o q.length c 64 64 rfl hlt
      have HBS := Lib.hid hbs; clear hbs k3
      have HO2 := Lib.hid ho2; clear ho2
      have HQ := Lib.hid hq; clear hq
      have HS' := Lib.hid hS'; clear hS'
      have HQL := Lib.hid hql; clear hql
      have hge : (64 : Int) ≤ (q.length : Int) := by omega
      have hge2 : (64 : Int) ≤ (c : Int) := by omega
      obtain ⟨q8, hq8⟩ : ∃ q8, q8 = q.take 64 := ⟨_, rfl⟩
      obtain ⟨S2, hS2⟩ : ∃ S2, S2 = compress S' q8 := ⟨_, rfl⟩
      have hst : Hid (Calls Tryz.prog 94 #[.agg S'.cells.toArray, .slice (some ⟨b, o, none⟩) 64 c] wr.drew fun e w' => e = .returned (.agg S2.cells.toArray) ∧ Below wr.heap.size wr w') := Lib.hid (by
        rw [hS2]
        exact (step_any S' b o c q8 wr.drew (HT.out.below HI.out.below.drew hG) (by have := HI.out.below.size; show _ < wr.heap.size; omega) (by rw [hq8, List.length_take]; omega) (by have := HI.out.below.size; show _ < wr.heap.size; omega) (by rw [hq8]; exact HBS.out.take _) (by omega) k2).mono fun e w' ⟨he, hb⟩ => ⟨he, ((Below.refl wr.heap.size wr).drew).trans hb⟩)
      have HS2 : Hid (S2 = runN s l (j + 1)) := Lib.hid (by rw [hS2, hq8, HS'.out, HQ.out, runN_succ])
      clear hS2 hq8
      have hbox : Blk wr w.heap.size S'.cells := by rw [HS'.out]; exact HI.out.box
      have HBX := Lib.hid hbox; clear hbox
      go_wp2_with fail
      refine wp_region_noPanic ?_
      refine wp_region_held (S := fun _ => True) (by kernel_rfl) ?_
      change wpAnyH _ _ _ _ _ _ _ _ wr.drew
      refine takeH 1 10 (Value.slice (some ⟨b, o, none⟩) q.length c) rfl rfl (by kernel_rfl) (by kernel_rfl) (by kernel_rfl) (fun _ _ _ h => h) rfl (fun w' hS => by go_simp) trivial ?_
      go_frame
      refine takeH 2 11 (Value.slice (some ⟨b, o, none⟩) 64 c) rfl rfl (by kernel_rfl) (by kernel_rfl) (by kernel_rfl) (fun _ _ _ h => h) rfl (fun w' hS => by go_simp) trivial ?_
      go_frame
      refine takeH 4 13 (Value.slice (some ⟨b, o, none⟩) q.length c) rfl rfl (by kernel_rfl) (by kernel_rfl) (by kernel_rfl) (fun _ _ _ h => h) rfl (fun w' hS => by go_simp) trivial ?_
      go_frame
      refine takeH 5 14 (Value.slice (some ⟨b, o2, none⟩) (q.length - 64) (c - 64)) rfl rfl (by kernel_rfl) (by kernel_rfl) (by kernel_rfl) (fun _ _ _ h => h) rfl (fun w' hS => by go_simp) trivial ?_
      go_frame
      refine wpAnyH_all (rs := [0]) (by kernel_rfl) (by simp) ?_
      simp only [List.mem_singleton, forall_eq]
      refine wpOp_loadMidD 9 rfl rfl rfl 112 (.tmp 2) rfl w.heap.size 0 rfl S'.cells _ HBX.out.st_range Tryz.underlying112 rfl info_st ⟨trivial, ?_⟩
      go_frame
      refine wpAnyH_all (rs := [3]) (by kernel_rfl) (by simp) ?_
      simp only [List.mem_singleton, forall_eq]
      refine wpOp_callD 12 rfl rfl rfl 94 #[.agg S'.cells.toArray, .slice (some ⟨b, o, none⟩) 64 c] (by go_simp) ?_
      refine hst.out.mono ?_
      rintro e w2 ⟨rfl, hB2⟩
      refine ⟨_, rfl, trivial, ?_⟩
      go_frame
      refine wpAnyH_all (rs := [6]) (by kernel_rfl) (by simp) ?_
      simp only [List.mem_singleton, forall_eq]
      have hx2 := HBX.out.below hB2 HI.out.lt
      refine wpOp_storeN rfl rfl rfl 112 (.tmp 2) (.tmp 12) rfl w.heap.size 0 S2.cells.toArray rfl rfl (hx2.there 0 8 (Nat.le_refl _)) info_st (cells_oneCell _) ⟨trivial, ?_⟩
      refine takeH 7 1 (Value.slice (some ⟨b, o2, none⟩) (q.length - 64) (c - 64)) rfl rfl (by kernel_rfl) (by kernel_rfl) (by kernel_rfl) (fun _ _ _ h => h) rfl (fun w' hS => by go_simp) trivial ?_
      go_frame
      refine wpAnyH_done (by kernel_rfl) ?_ _
      refine NoPanic.normal ?_
      have hx3 := hx2.setAll (vs := S2.cells) rfl
      have hB3 : Below w.heap.size w (w2.setCells w.heap.size 0 S2.cells) := below_setCells (Nat.le_refl _) _ (HI.out.below.trans (hB2.mono HI.out.below.size)) 0
      have hB23 : wr.grownBy (w2.setCells w.heap.size 0 S2.cells) (some w.heap.size) := (grown_of_below hB2 _).trans (grown_setCells _ _ _ _)
      have hI2 : GoIn w w.heap.size s l (w2.setCells w.heap.size 0 S2.cells) (.slice (some ⟨b, o2, none⟩) (q.length - 64) (c - 64)) (j + 1) := by
        have hl2 : (l.drop (64 * (j + 1))).length = q.length - 64 := by rw [List.length_drop, HQL.out]; omega
        refine ⟨by have := HQL.out; omega, ⟨_, c - 64, by rw [hl2], (fun h => by cases h), by omega, by omega, fun hp => ⟨b, o2, rfl, hb, ?_⟩⟩, ?_, hB3, Nat.lt_of_lt_of_le HI.out.lt hB23.size⟩
        · rw [HO2.out (by omega), show 64 * (j + 1) = 64 * j + 64 by omega, ← List.drop_drop, ← HQ.out]
          exact (HBS.out.grown hB23 (by simp; omega)).drop 64
        · rw [← HS2.out]; exact hx3
      have HI2 := Lib.hid hI2
      have HB22 : Hid (Blk (w2.setCells w.heap.size 0 S2.cells) (w.heap.size + 1) [.int .u32 0, .int .u32 0, .int .u32 0, .int .u32 0, .int .u32 0, .int .u32 0, .int .u32 0, .int .u32 0]) := Lib.hid (HB2.out.grown hB23 (by simp))
      clear hI2 hB23 hB3 hx3 hx2 hB2
      generalize World.setCells _ _ _ _ = w3 at HI2 HB22 ⊢
      go_wp2_with fail
      go_roundw
      case rel => exact ⟨j + 1, HI2.out, HB22.out⟩
      case measure => show q.length - 64 < q.length; omega
    · have hlt' : (q.length : Int) < 64 := by omega
      have hj : j = l.length / 64 := by have := HI.out.le; omega
      have HST : Hid (S' = stOf s l) := Lib.hid (by rw [hS', hj]; rfl)
      have HRS : Hid (q = restOf l) := Lib.hid (by rw [hq, hj]; rfl)
      have HK3 := Lib.hid k3; clear k3
      have hbox : Blk wr w.heap.size S'.cells := by rw [hS']; exact HI.out.box
      have HBX := Lib.hid hbox; clear hbox hS' hq hql
      go_wp2_with (first
        | ((with_reducible refine wpList_load_mid ?a1 112 (.tmp 2) ?a2 w.heap.size 0 ?a3 S'.cells _ HBX.out.st_range Tryz.underlying112 ?a4 ?a5 ?_); (case a1 => rfl); (case a2 => rfl); (case a3 => rfl); (case a4 => rfl); (case a5 => exact info_st))
        | ((with_reducible refine wpList_store_mid ?b1 112 (.tmp 4) (.tmp 15) ?b2 (w.heap.size + 1) 0 S'.cells.toArray ?b3 ?b4 ?b5 ?b6 (cells_oneCell _) ?_); (case b1 => rfl); (case b2 => rfl); (case b3 => rfl); (case b4 => rfl); (case b5 => exact HB2.out.there 0 8 (Nat.le_refl _)); (case b6 => exact info_st)))
      have hx3 := HB2.out.setAll (vs := S'.cells) rfl
      have hB3 := below_setCells (Nat.le_succ w.heap.size) S'.cells HI.out.below 0
      have hg3 := grown_setCells (w.heap.size + 1) S'.cells wr 0
      have hS3 : Sl (wr.setCells (w.heap.size + 1) 0 S'.cells) w.heap.size (.slice A q.length c) q := by
        exact ⟨_, _, rfl, HK0.out, k1, k2, fun hp => by obtain ⟨b, o, h1, h2, h3⟩ := HK3.out hp; exact ⟨b, o, h1, h2, h3.grown hg3 (by simp; omega)⟩⟩
      generalize World.setCells _ _ _ _ = w3 at hx3 hB3 hS3 ⊢
      obtain ⟨c0, c1, c2, c3, c4, c5, c6, c7⟩ := hx3.st8
      refine bodyPost_ret (v := .tuple #[.agg #[vw S'.a, vw S'.b, vw S'.c, vw S'.d, vw S'.e, vw S'.f, vw S'.g, vw S'.h], .slice A q.length c]) (by simp [results, Tryz.results70, go_sem, c0, c1, c2, c3, c4, c5, c6, c7]) rfl ⟨.slice A q.length c, ?_, ?_, hB3⟩
      · rw [← HST.out]
      · rw [← HRS.out]; exact hS3
end Go.Proofs.YtlnjpmpddomjiaaGreatDoor
set_option maxRecDepth 100000
namespace Go.Proofs.YtlnjpmpddomjiaaGreatDoor
open Go.RowKit
set_option maxRecDepth 100000 in
set_option maxHeartbeats 1000000 in
theorem refSum_any (B : Nat) (v : Value) (m : List UInt8) (w : World) (hT : TabB w) (hG : 2 < w.heap.size) (hs : Sl w B v m) (hB : B ≤ w.heap.size) (hl : m.length ≤ 100000) :
    Calls Tryz.prog 48 #[v] w fun e w' => ∃ v', e = .returned v' ∧ OwnB w' w.heap.size v' (sumL m) ∧ Below w.heap.size w w' := by
  have hz := zero_st
  have HT := Lib.hid hT; clear hT
  have HS := Lib.hid hs
  obtain ⟨A, c, rfl, _, k1, k2, _⟩ := hs
  have hun : un m.length = (m.length : Int) := un_lt _ (by omega)
  have htail : ∀ W, Hid (Calls Tryz.prog 72 #[.int .u64 (m.length : Int)] W fun e w' => ∃ v', e = .returned v' ∧ OwnB w' W.heap.size v' (padl m.length) ∧ Below W.heap.size W w') := fun W => Lib.hid (by have := refTail_any m.length W; rwa [hun] at this)
  obtain ⟨S', hS'⟩ : ∃ S', S' = stOf St.first (m ++ padl m.length) := ⟨_, rfl⟩
  have hSum : Hid (sumL m = wbs S'.list) := Lib.hid (by rw [hS']; unfold sumL; rfl)
  have hpl : (padl m.length).length ≤ 100 := by rw [padl_length]; omega
  have HS' := Lib.hid hS'
  clear hun hS'
  go_enter Tryz.func48, Tryz.ntmps48
  go_wp2_with fail
  refine (refFirst_any w).mono ?_
  rintro e w1 ⟨rfl, hB1⟩
  have HB1 := Lib.hid hB1
  have hz1 : w.heap.size ≤ w1.heap.size := hB1.size
  clear hB1
  go_wp2_with (at_builtin; ((with_reducible refine wpList_app_sl ?g1 (.tmp 7) (.tmp 8) ?g2 w.heap.size (.slice (some ⟨w1.heap.size, 0, none⟩) 0 0) [] m ?g3 ?g4 B (.slice A m.length c) ?g5 ?g6 ?g7 ?g8 ?_); (case g1 => rfl); (case g2 => rfl); (case g3 => rfl); (case g4 => exact (OwnB.empty w1).lower hz1); (case g5 => rfl); (case g6 => exact (HS.out.below HB1.out hB).below ((Below.refl _ _).alloc (Nat.le_refl _) _) (by omega)); (case g7 => simp; omega); (case g8 => simp; omega); intro v2 w2 hv hg; have Hg := Lib.hid ((HB1.out.alloc hz1 _).trans (((OwnB.empty w1).lower hz1).belowBase hg (by simp; omega))); clear hg; rw [List.nil_append] at hv; have Hv := Lib.hid hv; clear hv))
  refine (htail w2).out.mono ?_
  rintro e w3 ⟨v3, rfl, hO3, hB3⟩
  have HO3 := Lib.hid hO3.sl; clear hO3
  have Hv3 := Lib.hid (Hv.out.below hB3)
  have HB3 := Lib.hid (Hg.out.trans (hB3.mono Hg.out.size)); clear hB3
  go_wp2_with (at_builtin; ((with_reducible refine wpList_app_sl ?f1 (.tmp 9) (.tmp 13) ?f2 w.heap.size v2 m (padl m.length) ?f3 ?f4 w3.heap.size v3 ?f5 ?f6 ?f7 ?f8 ?_); (case f1 => rfl); (case f2 => rfl); (case f3 => rfl); (case f4 => exact Hv3.out); (case f5 => rfl); (case f6 => exact HO3.out); (case f7 => omega); (case f8 => exact HB3.out.size); intro v4 w4 hv hg; have Hg4 := Lib.hid (HB3.out.trans (Hv3.out.belowBase hg HB3.out.size)); clear hg; have Hv4 := Lib.hid hv.sl; clear hv))
  have hz4 := Hg4.out.size
  refine (refGo_any St.first v4 (m ++ padl m.length) w4 (HT.out.below Hg4.out hG) (by show _ < w4.heap.size; omega) Hv4.out (by rw [List.length_append]; omega)).mono ?_
  rintro e w5 ⟨v5, rfl, hS5, hB5⟩
  rw [← HS'.out]
  have HB5 := Lib.hid (Hg4.out.trans (hB5.mono hz4)); clear hB5 hS5
  clear hz4
  go_wp2_with fail
  refine (refOut_any S' _).mono ?_
  rintro e w6 ⟨v6, rfl, hO6, hB6⟩
  have HO6 := Lib.hid (hO6.lower (base' := w.heap.size) (by have := HB5.out.size; simp; omega)); clear hO6
  have HB6 := Lib.hid ((HB5.out.alloc HB5.out.size _).trans (hB6.mono (by have := HB5.out.size; simp; omega))); clear hB6
  go_wp2_with fail
  go_ret
  exact ⟨_, rfl, by rw [hSum.out]; exact HO6.out, HB6.out⟩
end Go.Proofs.YtlnjpmpddomjiaaGreatDoor
