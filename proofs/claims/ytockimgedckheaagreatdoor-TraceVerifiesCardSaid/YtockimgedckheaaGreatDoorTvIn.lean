/- trace: slices.Insert of one event. -/
import Derived.Test.YtockimgedckheaaGreatDoorTvB
import Derived.Shelf.Spec.SlicesInsert
import Derived.Lib.AppendZerosOnto
set_option maxRecDepth 100000
namespace Go.Proofs.YtockimgedckheaaGreatDoor
open Go Go.RowKit Go.Shelf
attribute [local go_sem] Oper.semAt_some
theorem take_app_add {α : Type} (b : List α) (n : Nat) : ∀ a : List α, (a ++ b).take (a.length + n) = a ++ b.take n
  | [] => by simp
  | x :: t => by rw [List.length_cons, Nat.add_right_comm, List.cons_append, List.take_succ_cons, take_app_add b n t]; rfl
theorem run_copy_ev (w : World) (ty : TypeId) (b o dLen dCap : Nat) (a : Addr) (sLen sCap : Nat) (cs : List Value) (n : Nat) (hn : n = Nat.min sLen dLen) (hl5 : cs.length = n * 5)
    (hsrc : ∀ j v, cs[j]? = some v → w.cell? (a.add j) = some v) (hc : ∀ j, j < cs.length → (w.cell? ⟨b, o + j, none⟩).isSome = true) (hf : ∀ j, j < cs.length → w.frozen? ⟨b, o + j, none⟩ = false) (h1 : ∀ v ∈ cs, v.oneCell' = true) :
    (Builtin.copy_ #[tEvs, tEvs] ty #[.slice (some ⟨b, o, none⟩) dLen dCap, .slice (some a) sLen sCap]).run Tryz.prog w = .ok (goInt n) (w.setCells b o cs) := by
  obtain ⟨i0, hi, hz0, hz1, hz2⟩ := info_parts info_ev
  have hl := run_loadCells_list (P := Tryz.prog) w a cs hsrc
  have hst := run_storeCells_cells (P := Tryz.prog) b o cs 0 w (by simpa using hc) (by simpa using hf) h1
  simp only [Nat.add_zero] at hst
  rw [hl5] at hl
  simp [Builtin.copy_, run_underlying Tryz.underlying47, Builtin.lenOf, Builtin.firstCells, sizeOf, typeInfo, hi, hz1, ← hn, hl, hst]
set_option maxHeartbeats 2000000 in
theorem insert_room (base g cap vb : Nat) (l : List EvL) (q : EvL) (k : Nat) (w : World) (hO : OwnV tEv w base (.slice (some ⟨g, 0, none⟩) l.length cap) l) (hk : k < l.length) (hroom : l.length + 1 ≤ cap) (hl : l.length ≤ 100000) (hv : w.heap[vb]? = some (.cells q.cells.toArray tEv (0, 0))) (hne : vb ≠ g) :
    Calls Tryz.prog 30 #[.slice (some ⟨g, 0, none⟩) l.length cap, .int .i64 (k : Int), .slice (some ⟨vb, 0, none⟩) 1 1] w fun e w' => e = .returned (.slice (some ⟨g, 0, none⟩) (l.length + 1) cap) ∧ OwnV tEv w' base (.slice (some ⟨g, 0, none⟩) (l.length + 1) cap) (l.take k ++ q :: l.drop k) ∧ w.grownBy w' (some g) := by
  obtain ⟨cs, hheap, hcs, htk, hbg, hlc, hcm, _⟩ := hO.heap
  have hcm' : cap ≤ 9223372036854775807 := by unfold maxLen at hcm; exact hcm
  have hlen0 : cs.length = cap * 5 := hcs
  obtain ⟨n, hn⟩ : ∃ n, n = l.length := ⟨_, rfl⟩
  obtain ⟨D, hD⟩ : ∃ D, D = l.drop k := ⟨_, rfl⟩
  have hDl : D.length = l.length - k := by rw [hD, List.length_drop]
  rw [← hD]
  have hB : Blk w g cs := ⟨_, hheap⟩
  have hvl : (vcs D).length = 5 * D.length := vcs_len D
  have hql : (EvL.cells q).length = 5 := rfl
  have hcell : ∀ i u, (vcs D)[i]? = some u → cs[k * 5 + i]? = some u := by
    intro i u hu
    have hj2 : i < (vcs D).length := (List.getElem?_eq_some_iff.1 hu).1
    have h1 : (cs.take (l.length * 5))[k * 5 + i]? = (vcs l)[k * 5 + i]? := by rw [htk]
    rw [List.getElem?_take, if_pos (by omega)] at h1
    rw [h1, ← List.getElem?_drop, vcs_drop l k (by omega), ← hD]
    exact hu
  have hspare : ∀ j, j < cap * 5 → (w.cell? ⟨g, j, none⟩).isSome = true ∧ w.frozen? ⟨g, j, none⟩ = false := fun j hj => ⟨by rw [hB.cell, List.getElem?_eq_getElem (by omega)]; rfl, hB.free _⟩
  obtain ⟨W1, hW1⟩ : ∃ W1, W1 = w.drew.setCells g ((k + 1) * 5) (vcs D) := ⟨_, rfl⟩
  have hH1 := heap_setCellsV (w := w.drew) (vs := vcs D) hheap ((k + 1) * 5) (by omega)
  rw [← hW1] at hH1
  obtain ⟨cs1, hcs1⟩ : ∃ c : List Value, c = cs.take ((k + 1) * 5) ++ vcs D ++ cs.drop ((k + 1) * 5 + (vcs D).length) := ⟨_, rfl⟩
  rw [← hcs1] at hH1
  have hlen1 : cs1.length = cap * 5 := by rw [hcs1]; simp; omega
  have hB1 : Blk W1 g cs1 := ⟨_, hH1⟩
  have hcp1 : ∀ o1 o2 dl dc sl sc ty, o1 = (k + 1) * 5 → o2 = k * 5 → dl = n - k → dl ≤ sl → (Builtin.copy_ #[tEvs, tEvs] ty #[.slice (some ⟨g, o1, none⟩) dl dc, .slice (some ⟨g, o2, none⟩) sl sc]).run Tryz.prog w.drew = .ok (goInt ((n - k : Nat) : Int)) W1 := fun o1 o2 dl dc sl sc ty e1 e2 e3 e4 => by
    subst e1; subst e2
    have hsp1 : ∀ j, j < (vcs D).length → (w.cell? ⟨g, (k + 1) * 5 + j, none⟩).isSome = true ∧ w.frozen? ⟨g, (k + 1) * 5 + j, none⟩ = false := fun j hj => hspare _ (by omega)
    rw [hW1]
    exact run_copy_ev w.drew ty g ((k + 1) * 5) dl dc ⟨g, k * 5, none⟩ sl sc (vcs D) (n - k) (by simp only [Nat.min_def]; split <;> omega) (by omega) (fun j v hj => by rw [Addr.add_lit]; exact hB.at (hcell j v hj)) (fun j hj => (hsp1 j hj).1) (fun j hj => (hsp1 j hj).2) (vcs_one _)
  have hVB : Blk W1 vb q.cells := by
    rw [hW1]
    exact Blk.grown (w := w) ⟨_, hv⟩ ((grown_drewN (World.grownBy.refl w (some g)) 1).trans (grown_setCells g _ _ _)) (fun e => hne (Option.some.inj e))
  have hcp2 : ∀ o1 dl dc ty, o1 = k * 5 → 1 ≤ dl → (Builtin.copy_ #[tEvs, tEvs] ty #[.slice (some ⟨g, o1, none⟩) dl dc, .slice (some ⟨vb, 0, none⟩) 1 1]).run Tryz.prog W1 = .ok (goInt 1) (W1.setCells g (k * 5) q.cells) := fun o1 dl dc ty e1 e2 => by
    subst e1
    exact run_copy_ev W1 ty g _ dl dc ⟨vb, 0, none⟩ 1 1 q.cells 1 (by simp only [Nat.min_def]; split <;> omega) rfl (fun j v hj => by rw [Addr.add_lit, Nat.zero_add]; exact hVB.at hj) (fun j hj => by rw [hB1.cell, List.getElem?_eq_getElem (by omega)]; rfl) (fun j hj => hB1.free _) (by have := vcs_one [q]; simpa [vcs] using this)
  have hH2 := heap_setCellsV (w := W1) (vs := q.cells) hH1 (k * 5) (by omega)
  have hfin : Hid (OwnV tEv (W1.setCells g (k * 5) q.cells) base (.slice (some ⟨g, 0, none⟩) (n + 1) cap) (l.take k ++ q :: D)) := Lib.hid (by
    refine OwnV.of_heap hbg hH2 ?_ hcm (by rw [List.length_append, List.length_take, List.length_cons]; omega) ?_ (by omega)
    · simp only [List.length_append, List.length_take, List.length_drop]
      omega
    · have e0 : cs1.take (k * 5) = vcs (l.take k) := by
        rw [hcs1, List.append_assoc, List.take_append_of_le_length (by rw [List.length_take]; omega), List.take_take, Nat.min_eq_left (by omega), ← vcs_take l k (by omega), ← htk, List.take_take, Nat.min_eq_left (by omega)]
      have e1 : (cs1.drop (k * 5 + (EvL.cells q).length)).take ((n - k) * 5) = vcs D := by
        rw [hql, show k * 5 + 5 = (k + 1) * 5 by omega, hcs1, List.append_assoc, List.drop_append_of_le_length (by rw [List.length_take]; omega), List.drop_of_length_le (by rw [List.length_take]; omega), List.nil_append, List.take_append_of_le_length (by omega), List.take_of_length_le (by omega)]
      have e2 : (n + 1) * 5 = (cs1.take (k * 5) ++ EvL.cells q).length + (n - k) * 5 := by rw [List.length_append, List.length_take]; omega
      rw [e2, take_app_add, e1, e0]
      rw [vcs_app, List.append_assoc]; rfl)
  have hgr : Hid (w.grownBy (W1.setCells g (k * 5) q.cells) (some g)) := Lib.hid (by
    have h1 : w.grownBy W1 (some g) := by rw [hW1]; exact (grown_drewN (World.grownBy.refl w (some g)) 1).trans (grown_setCells g _ _ _)
    exact h1.trans (grown_setCells g _ _ _))
  have hov : ∀ o lb cb, (callFunc 60 #[.slice (some ⟨vb, 0, none⟩) 1 1, .slice (some ⟨g, o, none⟩) lb cb]).run Tryz.prog w = .ok (.value (.bool false)) w := fun o lb cb => by
    obtain ⟨i0, hi, hz0, hz1, hz2⟩ := info_parts info_ev
    rw [run_callFunc_extern Tryz.func60 (by kernel_rfl) (by kernel_rfl) (by kernel_rfl) (e := Extern.SlicesOverlaps.overlaps #[tEvs, tEvs] #[4]) (by kernel_rfl),
      Lib.run_overlaps_apart w tEvs 4 tEv Tryz.underlying47 5 (fun W => by simp [sizeOf, typeInfo, hi, hz1]) ⟨vb, 0, none⟩ ⟨g, o, none⟩ 1 1 lb cb hne tEv tEv 5 (cap * 5) (by unfold World.shape?; rw [hv]; rfl) (by unfold World.shape?; rw [hheap]; simp [hlen0]) (by omega) (by unfold World.frozen?; simp [hv]) (by unfold World.frozen?; simp [hv])]
    rfl
  have hz1 : ¬ ((k : Int) = (n : Int)) := by omega
  have hz1b : ((k : Int) == (n : Int)) = false := beq_eq_false_iff_ne.2 hz1
  have hz3 : ¬ ((cap : Int) < (n : Int) + 1) := by omega
  have hz3b : decide ((cap : Int) < (n : Int) + 1) = false := decide_eq_false hz3
  have hkn : k ≤ n := by omega
  have hk1n : k + 1 ≤ n := by omega
  have hk1 : (k : Int) + 1 ≤ (n : Int) := by omega
  have hck : ¬ (cap = k) := by omega
  have hck1 : ¬ (cap = k + 1) := by omega
  have hnc : n + 1 ≤ cap := by omega
  have hn63 : n ≤ 100000 := by omega
  have hw1 : IntKind.i64.wrap ((k : Int) + 1) = (k : Int) + 1 := by rw [IntKind.wrap_i64]; omega
  have hb1 : (0 : Int) ≤ (k : Int) + 1 := by omega
  have hb3 : (k : Int) + 1 ≤ (n : Int) + 1 := by omega
  have hb4 : (k : Int) ≤ (n : Int) + 1 := by omega
  have htn : ((k : Int) + 1).toNat = k + 1 := by omega
  have HCP1 := Lib.hid hcp1
  have HCP2 := Lib.hid hcp2
  have HOV := Lib.hid hov
  have HW1 := Lib.hid hW1
  rw [← hn]
  clear hcp1 hcp2 hov hO hheap hcs htk hB hcell hW1 hH1 hcs1 hlen1 hB1 hH2 hcm hDl hvl hD hspare hVB hv hql hlc hl hk hroom hn
  go_enter Tryz.func30, Tryz.ntmps30
  go_wp2_with (simp only [HOV.out])
  go_region_law ((refine step_copy_runI rfl _ _ tEvs tEvs rfl (.slice (some ⟨g, (k + 1) * 5, none⟩) (n + 1 - (k + 1)) (cap - (k + 1))) (.slice (some ⟨g, k * 5, none⟩) (n + 1 - k) (cap - k)) (by simp [Act.eval, Act.put]) (by simp [Act.eval, Act.put]) (HCP1.out _ _ _ _ _ _ _ rfl rfl (by omega) (by omega)) ?_))
  go_wp2_with ((with_reducible refine wpList_copy_runI _ ?ga (.tmp 80) (.tmp 81) tEvs tEvs ?gd (.slice (some ⟨g, k * 5, none⟩) (n + 1 - k) (cap - k)) (.slice (some ⟨vb, 0, none⟩) 1 1) ?ge ?gf (HCP2.out (k * 5) (n + 1 - k) (cap - k) _ rfl (by omega)) ?_); (case ga => rfl); (case gd => rfl); (case ge => rfl); (case gf => rfl))
  go_wp2_with fail
  go_ret
  exact ⟨rfl, hfin.out, hgr.out⟩
set_option maxHeartbeats 2000000 in
theorem insert_grow (base g cap vb : Nat) (l : List EvL) (q : EvL) (k : Nat) (w : World) (hO : OwnV tEv w base (.slice (some ⟨g, 0, none⟩) l.length cap) l) (hk : k < l.length) (hroom : cap < l.length + 1) (hl : l.length ≤ 100000) (hv : w.heap[vb]? = some (.cells q.cells.toArray tEv (0, 0))) :
    Calls Tryz.prog 30 #[.slice (some ⟨g, 0, none⟩) l.length cap, .int .i64 (k : Int), .slice (some ⟨vb, 0, none⟩) 1 1] w fun e w' => ∃ c, e = .returned (.slice (some ⟨w.heap.size, 0, none⟩) (l.length + 1) c) ∧ OwnV tEv w' w.heap.size (.slice (some ⟨w.heap.size, 0, none⟩) (l.length + 1) c) (l.take k ++ q :: l.drop k) ∧ Below w.heap.size w w' := by
  obtain ⟨cs, hheap, hcs, htk, hbg, hlc, hcm, _⟩ := hO.heap
  have hcm' : cap ≤ 9223372036854775807 := by unfold maxLen at hcm; exact hcm
  obtain ⟨i0, hi, hz0, hz1, hz2⟩ := info_parts info_ev
  obtain ⟨n, hn⟩ : ∃ n, n = l.length := ⟨_, rfl⟩
  obtain ⟨D, hD⟩ : ∃ D, D = l.drop k := ⟨_, rfl⟩
  have hDl : D.length = l.length - k := by rw [hD, List.length_drop]
  rw [← hD]
  have hB : Blk w g cs := ⟨_, hheap⟩
  have hvl : (vcs D).length = 5 * D.length := vcs_len D
  have hql : (EvL.cells q).length = 5 := rfl
  have hgw : g < w.heap.size := (Array.getElem?_eq_some_iff.1 hheap).1
  have hvw : vb < w.heap.size := (Array.getElem?_eq_some_iff.1 hv).1
  have hcell : ∀ i u, (vcs D)[i]? = some u → cs[k * 5 + i]? = some u := by
    intro i u hu
    have hj2 : i < (vcs D).length := (List.getElem?_eq_some_iff.1 hu).1
    have h1 : (cs.take (l.length * 5))[k * 5 + i]? = (vcs l)[k * 5 + i]? := by rw [htk]
    rw [List.getElem?_take, if_pos (by omega)] at h1
    rw [h1, ← List.getElem?_drop, vcs_drop l k (by omega), ← hD]
    exact hu
  have htk0 : cs.take (k * 5) = vcs (l.take k) := by
    rw [← vcs_take l k (by omega), ← htk, List.take_take, Nat.min_eq_left (by omega)]
  have hold : (Builtin.firstCells i0.size k (.slice (some ⟨g, 0, none⟩) k cap)).run Tryz.prog w.drew = .ok (vcs (l.take k)).toArray w.drew := by
    rw [hz1]
    exact run_firstCells_some w.drew 5 k ⟨g, 0, none⟩ k cap (vcs (l.take k)) (by rw [vcs_len, List.length_take]; omega) (fun j v hj => by
      rw [Addr.add_lit, Nat.zero_add]
      rw [← htk0, List.getElem?_take] at hj
      split at hj
      · exact hB.at hj
      · cases hj)
  have hik : k + (n + 1 - k) = n + 1 := by omega
  have hkk : (n : Int) + 1 - (k : Int) = ((n + 1 - k : Nat) : Int) := by omega
  obtain ⟨G, hG⟩ : ∃ G, G = grownCap w (n + 1) cap tEv := ⟨_, rfl⟩
  obtain ⟨ROW, hROW⟩ : ∃ ROW : Array Value, ROW = (vcs (l.take k)).toArray ++ Builtin.zeroCells (Value.cells zev) (n + 1 - k) ++ Builtin.zeroCells (Value.cells zev) (G - (n + 1)) := ⟨_, rfl⟩
  obtain ⟨W1, hW1⟩ : ∃ W1, W1 = w.drew.alloc (.cells ROW tEv) := ⟨_, rfl⟩
  have hrz : ∀ ty, (Builtin.append_ #[tEvs, 3] ty #[.slice (some ⟨g, 0, none⟩) k cap, .int .i64 ((n : Int) + 1 - (k : Int))]).run Tryz.prog w = .ok (.slice (some ⟨w.heap.size, 0, none⟩) (n + 1) G) W1 := fun ty => by
    have h := Lib.run_append_grow_zeros w tEvs 3 ty tEv i0 _ .i64 .i64 Tryz.underlying47 Tryz.underlying3 hi hz0 (some ⟨g, 0, none⟩) k cap (vcs (l.take k)) hold (n + 1 - k) (by omega) (by omega) (by omega) (by omega) (by rw [hz2]; omega) (by rw [hz2, hik]; exact growslice_fits (by omega) (by omega))
    rw [hik, ← hG, ← hROW, ← hW1] at h
    rw [hkk]
    exact h
  have hGn : n + 1 ≤ G := by rw [hG]; exact grownCap_ge w _ _ _
  have hGm : G ≤ maxLen := by rw [hG]; exact grownCap_le_maxLen w _ _ _ (by unfold maxLen; omega)
  have hG63 : G ≤ 9223372036854775807 := by unfold maxLen at hGm; omega
  have hzs : ∀ m, (Builtin.zeroCells (Value.cells zev) m).size = m * 5 := fun m => by
    have h5 : (Value.cells zev).size = 5 := by kernel_rfl
    simp [Builtin.zeroCells, h5]
  have hRs : ROW.size = G * 5 := by
    rw [hROW, Array.size_append, Array.size_append, hzs, hzs, List.size_toArray, vcs_len, List.length_take]
    omega
  have hRt : ROW.toList.take (k * 5) = vcs (l.take k) := by
    rw [hROW, Array.toList_append, Array.toList_append, List.append_assoc, List.take_append_of_le_length (by simp [vcs_len, List.length_take]; omega), List.take_of_length_le (by simp [vcs_len, List.length_take]; omega)]
  have hH1 : W1.heap[w.heap.size]? = some (.cells ROW.toList.toArray tEv (0, 0)) := by rw [hW1, Array.toArray_toList]; exact heap_alloc_new w.drew _
  obtain ⟨rl, hrl⟩ : ∃ rl, rl = ROW.toList := ⟨_, rfl⟩
  have hrll : rl.length = G * 5 := by rw [hrl]; simpa using hRs
  rw [← hrl] at hRt hH1
  have hg1 : Below w.heap.size w W1 := by rw [hW1]; exact ((Below.refl w.heap.size w).drew).alloc (Nat.le_refl _) _
  have hB1 : Blk W1 w.heap.size rl := ⟨_, hH1⟩
  have hVB : Blk W1 vb q.cells := Blk.below (w := w) ⟨_, hv⟩ hg1 hvw
  have hcpA : ∀ o1 dl dc ty, o1 = k * 5 → 1 ≤ dl → (Builtin.copy_ #[tEvs, tEvs] ty #[.slice (some ⟨w.heap.size, o1, none⟩) dl dc, .slice (some ⟨vb, 0, none⟩) 1 1]).run Tryz.prog W1 = .ok (goInt 1) (W1.setCells w.heap.size (k * 5) q.cells) := fun o1 dl dc ty e1 e2 => by
    subst e1
    exact run_copy_ev W1 ty w.heap.size (k * 5) dl dc ⟨vb, 0, none⟩ 1 1 q.cells 1 (by simp only [Nat.min_def]; split <;> omega) rfl (fun j v hj => by rw [Addr.add_lit, Nat.zero_add]; exact hVB.at hj) (fun j hj => by rw [hB1.cell, List.getElem?_eq_getElem (by omega)]; rfl) (fun j hj => hB1.free _) (by have := vcs_one [q]; simpa [vcs] using this)
  obtain ⟨W2, hW2⟩ : ∃ W2, W2 = W1.setCells w.heap.size (k * 5) q.cells := ⟨_, rfl⟩
  have hH2 := heap_setCellsV (w := W1) (vs := q.cells) hH1 (k * 5) (by omega)
  rw [← hW2] at hH2 hcpA
  obtain ⟨r2, hr2⟩ : ∃ r2, r2 = rl.take (k * 5) ++ q.cells ++ rl.drop (k * 5 + q.cells.length) := ⟨_, rfl⟩
  rw [← hr2] at hH2
  have hr2l : r2.length = G * 5 := by rw [hr2]; simp only [List.length_append, List.length_take, List.length_drop]; omega
  have hB2 : Blk W2 w.heap.size r2 := ⟨_, hH2⟩
  have hgr2 : W1.grownBy W2 (some w.heap.size) := by rw [hW2]; exact grown_setCells _ _ _ _
  have hOB : Blk W2 g cs := Blk.grown (Blk.below (w := w) hB hg1 hgw) hgr2 (fun e => by have := Option.some.inj e; omega)
  have hcpB : ∀ o1 o2 dl dc sl sc ty, o1 = (k + 1) * 5 → o2 = k * 5 → dl = n - k → dl ≤ sl → (Builtin.copy_ #[tEvs, tEvs] ty #[.slice (some ⟨w.heap.size, o1, none⟩) dl dc, .slice (some ⟨g, o2, none⟩) sl sc]).run Tryz.prog W2.drew = .ok (goInt ((n - k : Nat) : Int)) (W2.drew.setCells w.heap.size ((k + 1) * 5) (vcs D)) := fun o1 o2 dl dc sl sc ty e1 e2 e3 e4 => by
    subst e1; subst e2
    have hsp1 : ∀ j, j < (vcs D).length → (W2.cell? ⟨w.heap.size, (k + 1) * 5 + j, none⟩).isSome = true := fun j hj => by rw [hB2.cell, List.getElem?_eq_getElem (by omega)]; rfl
    exact run_copy_ev W2.drew ty w.heap.size ((k + 1) * 5) dl dc ⟨g, k * 5, none⟩ sl sc (vcs D) (n - k) (by simp only [Nat.min_def]; split <;> omega) (by omega) (fun j v hj => by rw [Addr.add_lit]; exact hOB.at (hcell j v hj)) (fun j hj => hsp1 j hj) (fun j hj => hB2.free _) (vcs_one _)
  have hH3 := heap_setCellsV (w := W2.drew) (vs := vcs D) hH2 ((k + 1) * 5) (by omega)
  have hfin : Hid (OwnV tEv (W2.drew.setCells w.heap.size ((k + 1) * 5) (vcs D)) w.heap.size (.slice (some ⟨w.heap.size, 0, none⟩) (n + 1) G) (l.take k ++ q :: D)) := Lib.hid (by
    refine OwnV.of_heap (Nat.le_refl _) hH3 ?_ hGm (by rw [List.length_append, List.length_take, List.length_cons]; omega) ?_ hGn
    · simp only [List.length_append, List.length_take, List.length_drop]
      omega
    · have e0 : r2.take ((k + 1) * 5) = vcs (l.take k) ++ q.cells := by
        rw [hr2, hRt, List.take_append_of_le_length (by simp only [List.length_append, vcs_len, List.length_take]; omega), List.take_of_length_le (by simp only [List.length_append, vcs_len, List.length_take]; omega)]
      rw [e0, List.take_append_of_le_length (by simp only [List.length_append, vcs_len, List.length_take]; omega), List.take_of_length_le (by simp only [List.length_append, vcs_len, List.length_take]; omega), vcs_app, List.append_assoc]
      rfl)
  have hbel : Hid (Below w.heap.size w (W2.drew.setCells w.heap.size ((k + 1) * 5) (vcs D))) := Lib.hid (by
    have h2 : Below w.heap.size w W2 := hg1.grown hgr2 hg1.size (fun r e => by cases e; exact Nat.le_refl _)
    exact below_setCells (Nat.le_refl _) _ h2.drew _)
  have hz1 : ¬ ((k : Int) = (n : Int)) := by omega
  have hz1b : ((k : Int) == (n : Int)) = false := beq_eq_false_iff_ne.2 hz1
  have hz3 : (cap : Int) < (n : Int) + 1 := by omega
  have hz3b : decide ((cap : Int) < (n : Int) + 1) = true := decide_eq_true hz3
  have hkn : k ≤ n := by omega
  have hk1n : k + 1 ≤ n := by omega
  have hk1 : (k : Int) + 1 ≤ (n : Int) := by omega
  have hkc : k ≤ cap := by omega
  have hck : ¬ (cap = k) := by omega
  have hGk : ¬ (G = k) := by omega
  have hGk1 : ¬ (G = k + 1) := by omega
  have hn63 : n ≤ 100000 := by omega
  have hw1 : IntKind.i64.wrap ((k : Int) + 1) = (k : Int) + 1 := by rw [IntKind.wrap_i64]; omega
  have hb1 : (0 : Int) ≤ (k : Int) + 1 := by omega
  have hb3 : (k : Int) + 1 ≤ (n : Int) + 1 := by omega
  have hb4 : (k : Int) ≤ (n : Int) + 1 := by omega
  have htn : ((k : Int) + 1).toNat = k + 1 := by omega
  have HRZ := Lib.hid hrz
  have HCA := Lib.hid hcpA
  have HCB := Lib.hid hcpB
  rw [← hn]
  clear hrz hcpA hcpB hO hheap hcs htk hB hcell hW1 hW2 hH1 hH2 hH3 hrll hB1 hB2 hOB hcm hDl hvl hD hVB hv hql hlc hl hk hroom hn hRt hrl hRs hzs hROW hG hold htk0 hik hkk hr2 hr2l hg1 hgr2 hGm hi hz0 hz2
  go_enter Tryz.func30, Tryz.ntmps30
  go_wp2_with (first
    | (at_builtin; (refine Lib.wpList_append_run _ rfl _ _ _ _ rfl _ _ rfl rfl _ _ (HRZ.out _) ?_))
    | ((with_reducible refine wpList_copy_runI _ ?ga (.tmp 43) (.tmp 44) tEvs tEvs ?gd (.slice (some ⟨w.heap.size, k * 5, none⟩) (n + 1 - k) (G - k)) (.slice (some ⟨vb, 0, none⟩) 1 1) ?ge ?gf (HCA.out (k * 5) (n + 1 - k) (G - k) _ rfl (by omega)) ?_); (case ga => rfl); (case gd => rfl); (case ge => rfl); (case gf => rfl)))
  go_region_law ((refine step_copy_runI rfl _ _ tEvs tEvs rfl (.slice (some ⟨w.heap.size, (k + 1) * 5, none⟩) (n + 1 - (k + 1)) (G - (k + 1))) (.slice (some ⟨g, k * 5, none⟩) (n - k) (cap - k)) (by simp [Act.eval, Act.put]) (by simp [Act.eval, Act.put]) (HCB.out _ _ _ _ _ _ _ rfl rfl (by omega) (by omega)) ?_))
  go_wp2_with fail
  go_ret
  exact ⟨_, rfl, hfin.out, hbel.out⟩
end Go.Proofs.YtockimgedckheaaGreatDoor
