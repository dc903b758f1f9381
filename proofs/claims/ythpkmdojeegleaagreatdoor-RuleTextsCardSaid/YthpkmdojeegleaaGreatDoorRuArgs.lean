/- An argument that is a slice of rules. -/
import Derived.Test.YthpkmdojeegleaaGreatDoorRuArg
import Derived.Deep.Strs
set_option maxRecDepth 100000
namespace Go.Proofs.YthpkmdojeegleaaGreatDoor
open Go.ChangeShapes Go.WideShapes Go.ChangeAt Go.RowKit Go.Shelf
/-- Rules that came in. -/
def RusArg (W : World) (v : Value) (ls : List RuL) : Prop := RlIn W W.heap.size v ls ∧ ∀ r ∈ ls, GoodR r
theorem choose_r {α : Type} (n : Nat) (p : Nat → α → Prop) (h : ∀ i, i < n → ∃ x, p i x) : ∃ l : List α, l.length = n ∧ ∀ i (hi : i < l.length), p i l[i] := by
  induction n with
  | zero => exact ⟨[], rfl, fun i hi => by simp at hi⟩
  | succ k ih =>
    obtain ⟨l, hl, hp⟩ := ih (fun i hi => h i (by omega))
    obtain ⟨x, hx⟩ := h k (by omega)
    refine ⟨l ++ [x], by rw [List.length_append, hl]; rfl, fun i hi => ?_⟩
    by_cases hik : i < l.length
    · rw [List.getElem_append_left hik]; exact hp i hik
    · have : i = k := by rw [List.length_append] at hi; simp at hi; omega
      subst this
      rw [List.getElem_append_right (by omega)]
      simpa [hl] using hx
section
variable {H : Type} {enc : TypeId × Value → H}
theorem int_of_trodR {W : World} {base fuel : Nat} {v : Value} {x : DataW H × List MemPlace} (hf : DataW.trod enc Tryz.prog W base (fun _ => true) true fuel 3 [v] = some x) : ∃ k : Int, v = .int .i64 k := by
  obtain ⟨n, hv, _, _⟩ := DataW.trod_int Tryz.underlying3 hf
  simp only [List.cons.injEq, and_true] at hv
  exact ⟨n, hv⟩
theorem bool_of_trodR {W : World} {base fuel : Nat} {v : Value} {x : DataW H × List MemPlace} (hf : DataW.trod enc Tryz.prog W base (fun _ => true) true fuel 4 [v] = some x) : ∃ b : Bool, v = .bool b := by
  obtain ⟨n, hv, _⟩ := DataW.trod_bool Tryz.underlying4 hf
  simp only [List.cons.injEq, and_true] at hv
  exact ⟨n, hv⟩
theorem trod_struct6r {P : Program} {w : World} {base : Nat} {spare : Nat → Bool} {held : Bool} {t : TypeId} {f0 f1 f2 f3 f4 f5 : Field} {fuel : Nat} {cs : List Value} {x : DataW H × List MemPlace} (ht : P.underlying t = some (.struct #[f0, f1, f2, f3, f4, f5])) (h : DataW.trod enc P w base spare held fuel t cs = some x) :
    ∃ y0 y1 y2 y3 y4 y5 n, DataW.trod enc P w base spare held n f0.type ((cs.drop f0.offset).take (P.cellsOf f0.type)) = some y0 ∧
      DataW.trod enc P w base spare held n f1.type ((cs.drop f1.offset).take (P.cellsOf f1.type)) = some y1 ∧ DataW.trod enc P w base spare held n f2.type ((cs.drop f2.offset).take (P.cellsOf f2.type)) = some y2 ∧
      DataW.trod enc P w base spare held n f3.type ((cs.drop f3.offset).take (P.cellsOf f3.type)) = some y3 ∧ DataW.trod enc P w base spare held n f4.type ((cs.drop f4.offset).take (P.cellsOf f4.type)) = some y4 ∧
      DataW.trod enc P w base spare held n f5.type ((cs.drop f5.offset).take (P.cellsOf f5.type)) = some y5 := by
  obtain ⟨xs, n, _, rfl, hl, hlen, hf⟩ := DataW.trod_struct ht h
  match xs, hlen with
  | [y0, y1, y2, y3, y4, y5], _ => exact ⟨y0, y1, y2, y3, y4, y5, n, by simpa using hf 0 f0 rfl, by simpa using hf 1 f1 rfl, by simpa using hf 2 f2 rfl, by simpa using hf 3 f3 rfl, by simpa using hf 4 f4 rfl, by simpa using hf 5 f5 rfl⟩
theorem open_rus {W : World} {base : Nat} {v : Value} {d : DataW H} {ps : List MemPlace} (hval : Value.okWide Tryz.prog W .any base 28 v) (h : DataW.Trod enc Tryz.prog W 0 (fun _ => true) true 28 v d ps) :
    ∃ ls, RusArg W v ls := by
  obtain ⟨a1, len, cap, rfl⟩ := okWide_slice Tryz.underlying28 hval
  obtain ⟨fuel, hf⟩ := h
  rcases Go.Deep.open_slice Tryz.underlying28 hf with ⟨hcs, _⟩ | ⟨a, len', cap', m, n, D, Pl, hcs, _, hl, hm, hmm, _, hx⟩
  · simp [Value.cells] at hcs
    obtain ⟨rfl, rfl, rfl⟩ := hcs
    exact ⟨[], ⟨none, 0, rfl, by simp, by omega, fun h => by simp at h⟩, fun r h => by cases h⟩
  · simp [Value.cells] at hcs
    obtain ⟨rfl, rfl, rfl⟩ := hcs
    simp only [if_true] at hmm
    subst hmm
    rw [cells_ru] at hx
    obtain ⟨ab, ao, spot⟩ := a
    have hs0 : 0 < len → spot = none := by
      intro h0
      obtain ⟨cs, hc, _⟩ := hx 0 (by omega)
      have k0 := (World.cells?_some hc).2.2 0 (by omega)
      have hl0 : cs.length = 6 := (World.cells?_some hc).2.1
      rw [List.getElem?_eq_getElem (by omega)] at k0
      simpa [Addr.add] using World.cell?_spot k0
    have key : ∀ i, i < len → ∃ x : RuL, (∀ k, k < 6 → W.cell? ⟨ab, ao + i * 6 + k, none⟩ = (rcl x)[k]?) ∧ GoodR x := by
      intro i hi
      obtain ⟨cs, hc, ht⟩ := hx i (by omega)
      obtain ⟨_, hcl, hat⟩ := World.cells?_some hc
      obtain ⟨c0, c1, c2, c3, c4, c5, rfl⟩ := six_of hcl
      obtain ⟨y0, y1, y2, y3, y4, y5, n', h0, h1, h2, h3, h4, h5⟩ := trod_struct6r Tryz.underlying33 ht
      have hspot : spot = none := hs0 (by omega)
      subst hspot
      obtain ⟨n0, rfl⟩ := bool_of_trodR (v := c0) h0
      obtain ⟨s1, rfl, hl1⟩ := str_of_trodR (v := c1) h1
      obtain ⟨s2, rfl, hl2⟩ := str_of_trodR (v := c2) h2
      obtain ⟨s3, rfl, hl3⟩ := str_of_trodR (v := c3) h3
      obtain ⟨n4, rfl⟩ := int_of_trodR (v := c4) h4
      obtain ⟨n5, rfl⟩ := int_of_trodR (v := c5) h5
      refine ⟨⟨n0, s1, s2, s3, n4, n5⟩, fun k hk => ?_, ⟨hl1, hl2, hl3⟩⟩
      have kk := hat k hk
      rw [Go.Deep.add_add, Addr.add_lit] at kk
      rw [Nat.add_assoc, kk]
      rfl
    obtain ⟨ls, hls, hp⟩ := choose_r len _ key
    refine ⟨ls, ⟨some ⟨ab, ao, spot⟩, m, by rw [hls], by rw [hls]; exact hl, by unfold maxLen at hm; omega, fun h0 => ?_⟩, fun x hx => ?_⟩
    · have hs := hs0 (by omega)
      subst hs
      have hlt : ab < W.heap.size := World.block_lt_of_cell? W ⟨ab, ao + 0 * 6 + 0, none⟩ ((hp 0 h0).1 0 (by omega))
      exact ⟨ab, ao, rfl, hlt, fun k hk => (hp k hk).1⟩
    · obtain ⟨k, hk, rfl⟩ := List.getElem_of_mem hx
      exact (hp k hk).2
end
end Go.Proofs.YthpkmdojeegleaaGreatDoor
