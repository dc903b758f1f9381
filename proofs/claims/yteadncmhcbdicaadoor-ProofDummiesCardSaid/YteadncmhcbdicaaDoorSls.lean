/- Arguments that are slices of slices of bytes. -/
import Derived.Test.YteadncmhcbdicaaDoorArgs
import Derived.Deep.Slices
set_option maxRecDepth 100000
namespace Go.Proofs.YteadncmhcbdicaaDoor
open Go.ChangeShapes Go.WideShapes Go.ChangeAt Go.RowKit

/-- The slice v, nil or not, holds slices that hold the bytes ls, all of them below block B. -/
def Sls (w : World) (B : Nat) (v : Value) (ls : List (List UInt8)) : Prop :=
  ∃ A c, v = .slice A ls.length c ∧ ls.length ≤ c ∧ c ≤ 9223372036854775807 ∧ (0 < ls.length → ∃ b o, A = some ⟨b, o, none⟩ ∧ b < B ∧ ∀ j (h : j < ls.length), ∃ vj, w.cell? ⟨b, o + j, none⟩ = some vj ∧ Sl w B vj ls[j])
section
variable {H : Type} {enc : TypeId × Value → H}
theorem open_sl_trod {W : World} {base fuel : Nat} {v : Value} {x : DataW H × List MemPlace} (hf : DataW.trod enc Tryd.prog W base (fun _ => true) true fuel 26 [v] = some x) :
    ∃ l : List UInt8, Sl W W.heap.size v l := by
  rcases open_ints Tryd.underlying26 Tryd.underlying5 cells_u8 hf with ⟨hcs, _⟩ | ⟨a, len, cap, zs, hcs, _, hl, hm, hz, _, hcell, hwz⟩
  · simp only [List.cons.injEq, and_true] at hcs
    subst hcs
    exact ⟨[], none, 0, rfl, fun _ => rfl, by simp, by omega, fun h => by simp at h⟩
  · simp only [List.cons.injEq, and_true] at hcs
    subst hcs
    simp only [if_true] at hz
    have hlen : ((zs.take len).map fun n => UInt8.ofNat n.toNat).length = len := by simp; omega
    refine ⟨(zs.take len).map fun n => UInt8.ofNat n.toNat, some a, cap, by rw [hlen], (fun h => by cases h), by rw [hlen]; exact hl, by unfold maxLen at hm; omega, fun h0 => ?_⟩
    rw [hlen] at h0
    obtain ⟨ab, ao, spot⟩ := a
    have hspot : spot = none := by simpa [Addr.add] using World.cell?_spot (hcell 0 (by omega))
    subst hspot
    have hlt : ab < W.heap.size := by
      have := hcell 0 (by omega)
      rw [Addr.add_lit] at this
      exact World.block_lt_of_cell? W ⟨ab, ao + 0, none⟩ this
    refine ⟨ab, ao, rfl, hlt, fun j hj => ?_⟩
    rw [hlen] at hj
    have hcj := hcell j (by omega)
    rw [Addr.add_lit] at hcj
    rw [hcj]
    have hb := range_u8 hwz j
    have e : zs.getD j 0 = zs[j]'(by omega) := by simp [List.getD, List.getElem?_eq_getElem (show j < zs.length by omega)]
    have e2 : zs[j]?.getD 0 = zs[j]'(by omega) := by simp [List.getElem?_eq_getElem (show j < zs.length by omega)]
    rw [e]
    rw [e2] at hb
    simp only [List.getElem_map, List.getElem_take]
    have e3 : bn (UInt8.ofNat (zs[j]'(by omega)).toNat) = zs[j]'(by omega) := by unfold bn; rw [UInt8.toNat_ofNat']; omega
    rw [vb, e3]
theorem cells_bytes : Tryd.prog.cellsOf 26 = 1 := by kernel_rfl
theorem choose_list {α : Type} (n : Nat) (p : Nat → α → Prop) (h : ∀ i, i < n → ∃ x, p i x) : ∃ l : List α, l.length = n ∧ ∀ i (hi : i < l.length), p i l[i] := by
  induction n with
  | zero => exact ⟨[], rfl, fun i hi => by simp at hi⟩
  | succ n ih =>
    obtain ⟨l, hl, hp⟩ := ih (fun i hi => h i (by omega))
    obtain ⟨x, hx⟩ := h n (by omega)
    refine ⟨l ++ [x], by simp [hl], fun i hi => ?_⟩
    by_cases h1 : i < l.length
    · rw [List.getElem_append_left h1]; exact hp i h1
    · have e : i = n := by simp at hi; omega
      subst e
      rw [List.getElem_append_right (by omega)]
      simpa [hl] using hx
theorem open_sls {W : World} {base : Nat} {v : Value} {d : DataW H} {ps : List MemPlace} (hval : Value.okWide Tryd.prog W .any base 52 v) (h : DataW.Trod enc Tryd.prog W 0 (fun _ => true) true 52 v d ps) :
    ∃ ls : List (List UInt8), Sls W W.heap.size v ls := by
  obtain ⟨a1, len, cap, rfl⟩ := okWide_slice Tryd.underlying52 hval
  obtain ⟨fuel, hf⟩ := h
  rcases Go.Deep.open_slice1 Tryd.underlying52 cells_bytes hf with ⟨hcs, _⟩ | ⟨a, len', cap', m, n, V, D, Pl, hcs, _, hl, hm, hmm, _, hx⟩
  · simp [Value.cells] at hcs
    obtain ⟨rfl, rfl, rfl⟩ := hcs
    exact ⟨[], none, 0, rfl, by simp, by omega, fun h => by simp at h⟩
  · simp [Value.cells] at hcs
    obtain ⟨rfl, rfl, rfl⟩ := hcs
    simp only [if_true] at hmm
    subst hmm
    obtain ⟨ls, hls, hp⟩ := choose_list len (fun i l => Sl W W.heap.size (V i) l) (fun i hi => open_sl_trod (hx i (by omega)).2)
    refine ⟨ls, some a, m, by rw [hls], by rw [hls]; exact hl, by unfold maxLen at hm; omega, fun h0 => ?_⟩
    rw [hls] at h0
    obtain ⟨ab, ao, spot⟩ := a
    have hspot : spot = none := by simpa [Addr.add] using World.cell?_spot (hx 0 (by omega)).1
    subst hspot
    have hlt : ab < W.heap.size := by
      have := (hx 0 (by omega)).1
      rw [Addr.add_lit] at this
      exact World.block_lt_of_cell? W ⟨ab, ao + 0, none⟩ this
    refine ⟨ab, ao, rfl, hlt, fun j hj => ⟨V j, ?_, hp j hj⟩⟩
    have hcj := (hx j (by omega)).1
    rw [Addr.add_lit] at hcj
    exact hcj
end
end Go.Proofs.YteadncmhcbdicaaDoor
