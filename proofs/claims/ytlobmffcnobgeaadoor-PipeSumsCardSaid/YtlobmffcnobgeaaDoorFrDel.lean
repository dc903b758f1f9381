/- The library's Delete at the head of a slice of the call's own. -/
import Derived.Test.YtlobmffcnobgeaaDoorSlice
import Derived.Lib.SliceRun
import Derived.Deep.RegionLaw
namespace Go.Proofs.YtlobmffcnobgeaaDoor
open Go.RowKit

theorem heap_setCells {b : Nat} {t : TypeId} {vs : List Value} : ∀ {w : World} {cs : List Value} (_ : w.heap[b]? = some (.cells cs.toArray t (0, 0))) (o : Nat) (_ : o + vs.length ≤ cs.length), (w.setCells b o vs).heap[b]? = some (.cells (cs.take o ++ vs ++ cs.drop (o + vs.length)).toArray t (0, 0)) := by
  induction vs with
  | nil => intro w cs h o _; simpa [World.setCells] using h
  | cons v vs ih =>
    intro w cs h o hl
    simp only [List.length_cons] at hl
    have h0 : (w.setCell ⟨b, o, none⟩ v).heap[b]? = some (.cells (cs.set o v).toArray t (0, 0)) := by
      simp only [World.setCell]; rw [Array.getElem?_modify, if_pos rfl, h]; simp
    have h1 := ih h0 (o + 1) (by simp; omega)
    have e : (cs.set o v).take (o + 1) ++ vs ++ (cs.set o v).drop (o + 1 + vs.length) = cs.take o ++ v :: vs ++ cs.drop (o + (v :: vs).length) := by
      rw [List.take_set, List.drop_set_of_lt (by omega), List.take_succ_eq_append_getElem (by omega), List.set_append_right _ _ (by simp; omega)]
      simp [Nat.min_eq_left (show o ≤ cs.length by omega), show o + 1 + vs.length = o + (vs.length + 1) by omega]
    rw [← e]; exact h1
theorem OwnB.heap {w : World} {base g n cap : Nat} {l : List UInt8} (h : OwnB w base (.slice (some ⟨g, 0, none⟩) n cap) l) :
    ∃ cs : List Value, w.heap[g]? = some (.cells cs.toArray 5 (0, 0)) ∧ cs.length = cap ∧ cs.take l.length = l.map vb ∧ base ≤ g ∧ l.length ≤ cap ∧ cap ≤ maxLen ∧ n = l.length := by
  obtain ⟨h1, h2 | ⟨g', cap', cur, e, hb, hg, hc, hm, hs, ht⟩⟩ := h
  · exact absurd h2.1 (by simp)
  · injection e with e1 e2 e3
    injection e1 with e1
    injection e1 with e1 _ _
    subst e1 e3
    exact ⟨cur.toList, by simpa using hg, by simpa using hs, by simpa using ht, hb, hc, hm, e2⟩
set_option maxRecDepth 100000 in
set_option maxHeartbeats 1000000 in
theorem delete_any (base g cap : Nat) (l : List UInt8) (n : Nat) (w : World) (hO : OwnB w base (.slice (some ⟨g, 0, none⟩) l.length cap) l) (hn : n ≤ l.length) (h0 : 0 < n) (hl : l.length ≤ 1000000) :
    Calls Tryd.prog 38 #[.slice (some ⟨g, 0, none⟩) l.length cap, .int .i64 0, .int .i64 (n : Int)] w fun e w' => e = .returned (.slice (some ⟨g, 0, none⟩) (l.length - n) cap) ∧ OwnB w' base (.slice (some ⟨g, 0, none⟩) (l.length - n) cap) (l.drop n) ∧ w.grownBy w' (some g) := by
  obtain ⟨cs, hheap, hcs, htk, hbg, hlc, hcm, _⟩ := hO.heap
  have hcm' : cap ≤ 9223372036854775807 := by unfold maxLen at hcm; exact hcm
  obtain ⟨i0, hi, hz0, hz1, hz2⟩ := info_parts info_b
  obtain ⟨m, hm⟩ : ∃ m, m = l.length - n := ⟨_, rfl⟩
  rw [← hm]
  have hml : (l.drop n).length = m := by rw [List.length_drop, hm]
  have hB : Blk w g cs := ⟨_, hheap⟩
  have hcell : ∀ j (h : j < l.length), cs[j]? = some (vb l[j]) := by
    intro j h
    have := congrArg (fun x : List Value => x[j]?) htk
    simp only [List.getElem?_take, List.getElem?_map, List.getElem?_eq_getElem h, Option.map_some] at this
    rw [if_pos h] at this
    exact this
  obtain ⟨A, hA, hsrc⟩ : ∃ A : Addr, (if cap = n then some (⟨g, 0, none⟩ : Addr) else some ⟨g, n, none⟩) = some A ∧ Hid (∀ j u, ((l.drop n).map vb)[j]? = some u → w.drew.cell? (A.add j) = some u) := by
    refine ⟨if cap = n then ⟨g, 0, none⟩ else ⟨g, n, none⟩, by split <;> rfl, fun j u hu => ?_⟩
    rw [List.getElem?_map, List.getElem?_drop] at hu
    by_cases hj : n + j < l.length
    · rw [List.getElem?_eq_getElem hj] at hu
      cases hu
      rw [if_neg (by omega), Addr.add_lit]
      exact hB.at (hcell _ hj)
    · rw [List.getElem?_eq_none (by omega)] at hu; cases hu
  have hspare : Hid (∀ j, j < ((l.drop n).map vb).length → (w.drew.cell? ⟨g, 0 + 0 * 1 + j, none⟩).isSome = true ∧ w.drew.frozen? ⟨g, 0 + 0 * 1 + j, none⟩ = false) := Lib.hid fun j hj => by
    have hj' : j < cs.length := by simp at hj; omega
    refine ⟨?_, hB.free _⟩
    show (w.cell? _).isSome = true
    rw [hB.cell, show 0 + 0 * 1 + j = j by omega, List.getElem?_eq_getElem hj']; rfl
  obtain ⟨W1, hW1⟩ : ∃ W1, W1 = w.drew.setCells g (0 + 0 * 1) ((l.drop n).map vb) := ⟨_, rfl⟩
  have hH1 := heap_setCells (w := w.drew) (vs := (l.drop n).map vb) hheap (0 + 0 * 1) (by simp; omega)
  rw [← hW1] at hH1
  obtain ⟨cs1, hcs1⟩ : ∃ c : List Value, c = cs.take (0 + 0 * 1) ++ (l.drop n).map vb ++ cs.drop (0 + 0 * 1 + ((l.drop n).map vb).length) := ⟨_, rfl⟩
  rw [← hcs1] at hH1
  have hlen1 : cs1.length = cap := by rw [hcs1]; simp; omega
  have htk1 : cs1.take m = (l.drop n).map vb := by
    rw [hcs1]; simp
    rw [List.take_append_of_le_length (by simp; omega), List.take_of_length_le (by simp; omega)]
  have hB1 : Blk W1 g cs1 := ⟨_, hH1⟩
  have hcl : ∀ ty, (Builtin.clear_ #[29] ty #[.slice (some ⟨g, m, none⟩) n (cap - m)]).run Tryd.prog W1 = .ok (.tuple #[]) (W1.setCells g m (List.replicate n (.int .u8 0))) := fun ty =>
    Lib.run_clear_slice W1 29 5 ty (.int .u8 0) Tryd.underlying29 (fun w => by kernel_rfl) rfl rfl g m n (cap - m) h0 (fun j hj => by rw [hB1.cell, List.getElem?_eq_getElem (by omega)]; rfl) (fun j hj => hB1.free _)
  have hH2 := heap_setCells (w := W1) (vs := List.replicate n (.int .u8 0)) hH1 m (by simp; omega)
  have hfin : Hid (OwnB (W1.setCells g m (List.replicate n (.int .u8 0))) base (.slice (some ⟨g, 0, none⟩) m cap) (l.drop n)) := Lib.hid (by
    refine OwnB.of_heap (cur := (cs1.take m ++ List.replicate n (Value.int .u8 0) ++ cs1.drop (m + (List.replicate n (Value.int .u8 0)).length)).toArray) hbg hH2 (by simp; omega) hcm hml ?_ (by omega)
    show List.take m (cs1.take m ++ List.replicate n (Value.int .u8 0) ++ _) = _
    rw [List.append_assoc, List.take_append_of_le_length (by simp; omega), List.take_take, Nat.min_self, htk1])
  have hgr : Hid (w.grownBy (W1.setCells g m (List.replicate n (.int .u8 0))) (some g)) := Lib.hid (by
    have h1 : w.grownBy W1 (some g) := by rw [hW1]; exact (grown_drewN (World.grownBy.refl w (some g)) 1).trans (grown_setCells g _ _ _)
    exact h1.trans (grown_setCells g _ _ _))
  have hW : Hid (W1 = w.drew.setCells g (0 + 0 * 1) ((l.drop n).map vb)) := hW1
  have s1 : Hid (((l.drop n).map vb).length = m * 1) := Lib.hid (by simp; omega)
  have s2 : Hid (∀ u ∈ (l.drop n).map vb, u.oneCell' = true) := Lib.hid (oneCell_bytes _)
  have hnc : n ≤ cap := by omega
  have hmc : m ≤ cap := by omega
  have hne : ¬ cap = m := by omega
  have hn0 : ((0 : Int) == (n : Int)) = false := by simp; omega
  have hsub : l.length - m = n := by omega
  have hml2 : m ≤ l.length := by omega
  subst hm
  have hcl2 : ∀ ty, (Builtin.clear_ #[29] ty #[.slice (some ⟨g, l.length - n, none⟩) (l.length - (l.length - n)) (cap - (l.length - n))]).run Tryd.prog W1 = .ok (.tuple #[]) (W1.setCells g (l.length - n) (List.replicate n (.int .u8 0))) := by
    rw [show l.length - (l.length - n) = n from by omega]; exact hcl
  clear hcl
  clear hO hheap hcs htk hB hcell hW1 hH1 hcs1 hlen1 htk1 hB1 hH2 hml hcm hsub
  go_enter Tryd.func38, Tryd.ntmps38
  go_wp2_with fail
  go_region_law ((refine step_append_room rfl (.tmp 22) (.tmp 25) 29 rfl 5 i0 1 Tryd.underlying29 hi hz1 g 0 0 cap (by go_simp) A (l.length - n) (cap - n) ((l.drop n).map vb) (by simp [Act.eval, Act.put]) s1.out hsrc.out s2.out (by omega) hspare.out ?_; rw [← hW.out]))
  go_wp2_with fail
  go_ret
  exact ⟨rfl, hfin.out, hgr.out⟩
end Go.Proofs.YtlobmffcnobgeaaDoor
