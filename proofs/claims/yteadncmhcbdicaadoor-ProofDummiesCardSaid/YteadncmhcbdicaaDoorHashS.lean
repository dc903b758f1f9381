/- Sum of a Hash. -/
import Derived.Test.YteadncmhcbdicaaDoorHashN
namespace Go.Proofs.YteadncmhcbdicaaDoor
open Go.RowKit
theorem wpOp_runD {P : Program} {ops : Array Oper} {Q : Exit → Act → World → Prop} {K : Act → World → Prop} {a : Act} {w w' : World} {i : Nat} {o : Oper} (d : Tmp) (hi : ops[i]? = some o) (hd : o.dst = some d) (hw : Region.wanted o (yielded ops a.tmps) = true) (v : Value)
    (hr : (execOp a.eval o).run P w = .ok (.value v) w') (h : K (a.put (some d) v) w') : wpOp P ops Q i K a w :=
  wpOp_of_wp hi hw (by unfold Oper.wp; rw [hr]; show K (a.put o.dst v) w'; rw [hd]; exact h)
theorem takeHY {P : Program} {ops : Array Oper} {Q : Exit → Act → World → Prop} {a : Act} {w : World} {md : Region.Mode} {S : World → Prop} (i : Nat) (d : Tmp) {oi : Oper} (v : Value) {fuel : Nat} {listed : Array Bool} (hi : ops[i]? = some oi) (hd : oi.dst = some d)
    (hs : Region.noSelect ops = true) (hf : Region.free md ops listed i = true) (hr : (Region.ready md ops listed).contains i = true)
    (hQ : ∀ c (a : Act) w, Q (.panic c) (a.put oi.dst v) w → Q (.panic c) a w) (hy : YieldsIf P ops S oi v a) (hS : S w)
    (h : wpAnyH P md ops Q S fuel (listed.setIfInBounds i true) (a.put (some d) v) w) : wpAnyH P md ops Q S (fuel + 1) listed a w :=
  wpAnyH_take hi hs hf hr hQ hy hS (by rw [hd]; exact h)
theorem OwnB.src {w : World} {base hb : Nat} {v : Value} {l : List UInt8} (h : OwnB w base v l) (hlt : hb < base) (hl : l.length ≤ 4611686018427387904) : ∃ A c, v = .slice A l.length c ∧ Src w hb A l c := by
  rcases h.parts with ⟨rfl, rfl⟩ | ⟨g, cap, rfl, h1, h2, h3, h4, h5, _⟩
  · exact ⟨none, 0, rfl, by simp, by omega, by simp, fun hp => by simp at hp⟩
  · exact ⟨_, cap, rfl, h3, by unfold maxLen at h4; omega, hl, fun _ => ⟨g, 0, rfl, h2, by omega, h5⟩⟩
theorem TabA.grown {w w' : World} {row : Option Nat} (h : TabA w) (hg : w.grownBy w' row) (hne : some 0 ≠ row) : TabA w' := fun j hj => hg.cell (h j hj) hne
theorem HashAt.state {w : World} {b : Nat} {s : St} {rest : List UInt8} {n : Nat} (h : HashAt w b s rest n) : w.rangeAt b 0 s.cells := by
  obtain ⟨t, h1, _⟩ := h
  exact h1.blk.state
set_option maxRecDepth 100000 in
set_option maxHeartbeats 2000000 in
theorem sumH_any (hb : Nat) (s : St) (rest : List UInt8) (n : Nat) (w : World) (h : HashAt w hb s rest n) (hT : TabA w) :
    Calls Tryd.prog 26 #[.pointer (some ⟨hb, 0, none⟩)] w fun e w' => ∃ v', e = .returned v' ∧ OwnB w' w.heap.size v' (wbs (stOf s (rest ++ padl n)).list) ∧ Below w.heap.size w w' := by
  have hlt := h.lt
  have HA := Lib.hid h
  have hG := tab_lt hT
  have HT := Lib.hid hT; clear hT
  obtain ⟨t, h1, h2⟩ := h
  have hz := zero_hash
  have HI := Lib.hid h1; clear h1
  have H2 := Lib.hid h2; clear h2
  have HL := Lib.hid (show (hcells s t n).toArray.size = 73 by rw [List.size_toArray, hcells_length _ _ _ HI.out.len])
  go_enter Tryd.func26, Tryd.ntmps26
  go_wp2_with (first
    | ((with_reducible refine wpList_load_mid ?a1 73 (.tmp 7) ?a2 hb 0 ?a3 (hcells s t n) _ HI.out.range Tryd.underlying73 ?a4 ?a5 ?_); (case a1 => rfl); (case a2 => rfl); (case a3 => rfl); (case a4 => rfl); (case a5 => rw [hcells_length _ _ _ HI.out.len]; exact info_h))
    | ((with_reducible refine wpList_store_mid ?b1 73 (.tmp 3) (.tmp 8) ?b2 w.heap.size 0 (hcells s t n).toArray ?b3 ?b4 ?b5 ?b6 (hcells_one s t n) ?_); (case b1 => rfl); (case b2 => rfl); (case b3 => rfl); (case b4 => rfl); (case b5 => rw [HL.out]; exact (Blk.newAt (cs := hzero) _ _ _ rfl rfl).there 0 73 (by decide)); (case b6 => rw [HL.out]; exact info_h); (have hA1 : HashAt ((w.alloc (.cells hzero.toArray 73)).setCells w.heap.size 0 (hcells s t n)) w.heap.size s rest n ∧ Below w.heap.size w ((w.alloc (.cells hzero.toArray 73)).setCells w.heap.size 0 (hcells s t n)) := ⟨⟨t, ⟨(Blk.newAt (cs := hzero) _ _ _ rfl rfl).setAll (by rw [hcells_length _ _ _ HI.out.len]; decide), HI.out.len⟩, H2.out⟩, below_setCells (Nat.le_refl _) _ ((Below.refl _ _).alloc (Nat.le_refl _) _) 0⟩); (generalize World.setCells _ _ _ _ = W1 at hA1 ⊢); (have HA1 := Lib.hid hA1.1); (have HB1 := Lib.hid hA1.2); (clear hA1); (have hct : W1.cell? ⟨hb, 72, none⟩ = some (.int .u64 (un n)) := (HB1.out.cell (p := ⟨hb, 72, none⟩) hlt).trans (HI.out.blk.at (hcells_total s t n HI.out.len)))))
  clear hz
  refine (padding_any n W1).mono ?_
  rintro e w2 ⟨v2, rfl, hO2, hB2⟩
  have hw1 := HA1.out.lt
  obtain ⟨A2, c2, rfl, hS2⟩ := hO2.src (hb := w.heap.size) hw1 (by rw [padl_length]; omega)
  have HS2 := Lib.hid hS2; clear hS2 hO2
  have HB2 := Lib.hid (HB1.out.trans (hB2.mono HB1.out.size))
  have HA2 := Lib.hid (HA1.out.below hB2 hw1); clear hB2
  go_wp2_with fail
  refine (write_any w.heap.size s rest n A2 c2 (padl n) w2 HA2.out HS2.out (HT.out.below HB2.out hG) (by omega)).mono ?_
  rintro e w3 ⟨rfl, hA3, hg3⟩
  have HB3 := Lib.hid (HB2.out.grown hg3 HB2.out.size (fun k e => by cases e; exact Nat.le_refl _))
  have HA3 := Lib.hid hA3
  have hw3 := hA3.lt
  clear hA3 hg3
  obtain ⟨S', hS'⟩ : ∃ S', S' = stOf s (rest ++ padl n) := ⟨_, rfl⟩
  rw [← hS'] at HA3
  have HS' := Lib.hid hS'; clear hS'
  go_wp2_with fail
  refine wp_region_noPanic ?_
  refine wp_region_held (S := fun w' => w'.rangeAt w.heap.size 0 S'.cells) (by kernel_rfl) ?_
  change wpAnyH _ _ _ _ _ _ _ _ w3.drew
  have hS0 : w3.drew.rangeAt w.heap.size 0 S'.cells := HA3.out.state
  refine takeH 1 16 (Value.pointer (some ⟨w.heap.size, 0, none⟩)) rfl rfl (by kernel_rfl) (by kernel_rfl) (by kernel_rfl) (fun _ _ _ h => h) rfl (fun w' hS => by go_simp) hS0 ?_
  go_frame
  refine takeHY 2 17 (Value.agg S'.cells.toArray) rfl rfl (by kernel_rfl) (by kernel_rfl) (by kernel_rfl) (fun _ _ _ h => h) (yieldsIf_load_mid rfl 57 (.tmp 16) rfl w.heap.size 0 rfl S'.cells _ (fun _ h => h) Tryd.underlying57 rfl info_w8) hS0 ?_
  go_frame
  refine wpAnyH_all (rs := [0]) (by kernel_rfl) (by simp) ?_
  simp only [List.mem_singleton, forall_eq]
  have hmk : (Instr.makeSlice 26 (.int .i64 0) (.int .i64 32)).run Tryd.prog w3.drew = .ok (.slice (some ⟨w3.heap.size, 0, none⟩) 0 32) (w3.alloc (.cells (noughts 32) 5)).drew := make_bytes 0 32 (by omega) (by omega) w3.drew
  refine wpOp_runD 15 rfl rfl rfl (.slice (some ⟨w3.heap.size, 0, none⟩) 0 32) (w' := (w3.alloc (.cells (noughts 32) 5)).drew) (by go_simp) ?_
  clear hmk
  have hO4 : OwnB (w3.alloc (.cells (noughts 32) 5)).drew w3.heap.size (.slice (some ⟨w3.heap.size, 0, none⟩) 0 32) [] := OwnB.of_heap (Nat.le_refl _) (heap_alloc_new w3 _) (noughts_size _) (by unfold maxLen; omega) rfl (by simp) (by omega)
  have hB4 : Below w3.heap.size w3 (w3.alloc (.cells (noughts 32) 5)).drew := ((Below.refl _ _).alloc (Nat.le_refl _) _).drew
  have hs4 : w3.heap.size < (w3.alloc (.cells (noughts 32) 5)).drew.heap.size := by simp
  generalize (w3.alloc (.cells (noughts 32) 5)).drew = w4 at hO4 hB4 hs4 ⊢
  have hA4 := HA3.out.below hB4 hw3
  refine ⟨hA4.state, ?_⟩
  go_frame
  refine wpAnyH_all (rs := [3]) (by kernel_rfl) (by simp) ?_
  simp only [List.mem_singleton, forall_eq]
  refine wpOp_callD 18 rfl rfl rfl 37 #[.slice (some ⟨w3.heap.size, 0, none⟩) 0 32, .agg S'.cells.toArray] (by go_simp) ?_
  refine (appendWords_any w3.heap.size _ [] S' w4 hO4 (by simp) (by omega)).mono ?_
  rintro e w5 ⟨v5, rfl, hO5, hB5⟩
  rw [List.nil_append] at hO5
  refine ⟨_, rfl, (hA4.below hB5 hw3).state, ?_⟩
  go_frame
  refine takeH 4 2 v5 rfl rfl (by kernel_rfl) (by kernel_rfl) (by kernel_rfl) (fun _ _ _ h => h) rfl (fun w' hS => by go_simp) (hA4.below hB5 hw3).state ?_
  go_frame
  refine wpAnyH_done (by kernel_rfl) ?_ _
  refine NoPanic.normal ?_
  have HO5 := Lib.hid hO5; clear hO5 hS0
  have HB5 := Lib.hid (HB3.out.trans ((hB4.trans hB5).mono (Nat.le_of_lt hw3))); clear hB4 hB5 hA4 hO4
  go_wp2_with fail
  go_ret
  exact ⟨_, rfl, by rw [← HS'.out]; exact HO5.out.lower (Nat.le_of_lt hw3), HB5.out⟩
end Go.Proofs.YteadncmhcbdicaaDoor
