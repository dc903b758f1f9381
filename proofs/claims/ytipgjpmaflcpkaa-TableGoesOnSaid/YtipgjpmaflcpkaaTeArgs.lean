/- table: an argument that is a slice of Ops. -/
import Derived.Test.YtipgjpmaflcpkaaTeDoN
import Derived.Test.YtipgjpmaflcpkaaArgs0
import Derived.Deep.Strs
set_option maxRecDepth 100000
namespace Go.Proofs.Ytipgjpmaflcpkaa
open Go.ChangeShapes Go.WideShapes Go.ChangeAt Go.RowKit Go.Shelf
theorem choose_g {α : Type} (n : Nat) (p : Nat → α → Prop) (h : ∀ i, i < n → ∃ x, p i x) : ∃ l : List α, l.length = n ∧ ∀ i (hi : i < l.length), p i l[i] := by
  induction n with
  | zero => exact ⟨[], rfl, fun i hi => by simp at hi⟩
  | succ k ih =>
    obtain ⟨l, hl, hp⟩ := ih (fun i hi => h i (by omega))
    obtain ⟨x, hx⟩ := h k (by omega)
    refine ⟨l ++ [x], by rw [List.length_append, hl]; rfl, fun i hi => ?_⟩
    by_cases hik : i < l.length
    · rw [List.getElem_append_left hik]; exact hp i hik
    · have : i = k := by rw [List.length_append] at hi; simp at hi; omega
      subst this
      rw [List.getElem_append_right (by omega)]
      simpa [hl] using hx
/-- The slice v, nil or not, holds the Ops ls, all of them below block B. -/
def TOps (w : World) (B : Nat) (v : Value) (ls : List (Int × List UInt8 × Int)) : Prop :=
  ∃ A c, v = .slice A ls.length c ∧ ls.length ≤ c ∧ c ≤ 9223372036854775807 ∧ (0 < ls.length → ∃ b o, A = some ⟨b, o, none⟩ ∧ b < B ∧ ∀ j (h : j < ls.length), w.cell? ⟨b, o + j * 3, none⟩ = some (.int .u8 ls[j].1) ∧ w.cell? ⟨b, o + j * 3 + 1, none⟩ = some (strT ls[j].2.1) ∧ w.cell? ⟨b, o + j * 3 + 2, none⟩ = some (.int .i64 ls[j].2.2) ∧ (0 ≤ ls[j].1 ∧ ls[j].1 ≤ 255) ∧ ls[j].2.1.length ≤ 9223372036854775807)
section
variable {H : Type} {enc : TypeId × Value → H}
theorem cells_top : Try.prog.cellsOf 33 = 3 := by kernel_rfl
theorem byte_of_trodG {W : World} {base fuel : Nat} {v : Value} {x : DataW H × List MemPlace} (hf : DataW.trod enc Try.prog W base (fun _ => true) true fuel 5 [v] = some x) : ∃ k : Int, v = .int .u8 k ∧ 0 ≤ k ∧ k ≤ 255 := by
  obtain ⟨n, hv, _, hw⟩ := DataW.trod_int Try.underlying5 hf
  simp only [List.cons.injEq, and_true] at hv
  subst hv
  simp [Lit.wf, IntKind.min, IntKind.max, IntKind.bits, IntKind.signed] at hw
  exact ⟨n, rfl, by omega, by omega⟩
theorem str_of_trodG {W : World} {base fuel : Nat} {v : Value} {x : DataW H × List MemPlace} (hf : DataW.trod enc Try.prog W base (fun _ => true) true fuel 9 [v] = some x) : ∃ s : List UInt8, v = strT s ∧ s.length ≤ 9223372036854775807 := by
  obtain ⟨s1, hv, _, hs1⟩ := DataW.trod_string Try.underlying9 hf
  simp only [List.cons.injEq, and_true] at hv
  subst hv
  exact ⟨s1.data.toList, by simp, by unfold maxLen at hs1; simpa using hs1⟩
theorem int_of_trodG {W : World} {base fuel : Nat} {v : Value} {x : DataW H × List MemPlace} (hf : DataW.trod enc Try.prog W base (fun _ => true) true fuel 3 [v] = some x) : ∃ t : Int, v = .int .i64 t := by
  obtain ⟨n, hv, _, _⟩ := DataW.trod_int Try.underlying3 hf
  simp only [List.cons.injEq, and_true] at hv
  subst hv
  exact ⟨n, rfl⟩
theorem open_ops {W : World} {base : Nat} {v : Value} {d : DataW H} {ps : List MemPlace} (hval : Value.okWide Try.prog W .any base 22 v) (h : DataW.Trod enc Try.prog W 0 (fun _ => true) true 22 v d ps) :
    ∃ ls, TOps W W.heap.size v ls := by
  obtain ⟨a1, len, cap, rfl⟩ := okWide_slice Try.underlying22 hval
  obtain ⟨fuel, hf⟩ := h
  rcases Go.Deep.open_slice Try.underlying22 hf with ⟨hcs, _⟩ | ⟨a, len', cap', m, n, D, Pl, hcs, _, hl, hm, hmm, _, hx⟩
  · simp [Value.cells] at hcs
    obtain ⟨rfl, rfl, rfl⟩ := hcs
    exact ⟨[], none, 0, rfl, by simp, by omega, fun h => by simp at h⟩
  · simp [Value.cells] at hcs
    obtain ⟨rfl, rfl, rfl⟩ := hcs
    simp only [if_true] at hmm
    subst hmm
    rw [cells_top] at hx
    obtain ⟨ab, ao, spot⟩ := a
    have hs0 : 0 < len → spot = none := by
      intro h0
      obtain ⟨cs, hc, _⟩ := hx 0 (by omega)
      have k0 := (World.cells?_some hc).2.2 0 (by omega)
      have hl0 : cs.length = 3 := (World.cells?_some hc).2.1
      rw [List.getElem?_eq_getElem (by omega)] at k0
      simpa [Addr.add] using World.cell?_spot k0
    have key : ∀ i, i < len → ∃ x : Int × List UInt8 × Int, W.cell? ⟨ab, ao + i * 3, none⟩ = some (.int .u8 x.1) ∧ W.cell? ⟨ab, ao + i * 3 + 1, none⟩ = some (strT x.2.1) ∧ W.cell? ⟨ab, ao + i * 3 + 2, none⟩ = some (.int .i64 x.2.2) ∧ (0 ≤ x.1 ∧ x.1 ≤ 255) ∧ x.2.1.length ≤ 9223372036854775807 := by
      intro i hi
      obtain ⟨cs, hc, ht⟩ := hx i (by omega)
      obtain ⟨_, hcl, hat⟩ := World.cells?_some hc
      obtain ⟨c0, c1, c2, rfl⟩ : ∃ c0 c1 c2, cs = [c0, c1, c2] := by
        match cs, hcl with
        | [c0, c1, c2], _ => exact ⟨c0, c1, c2, rfl⟩
      obtain ⟨y0, y1, y2, n', _, _, h0, h1, h2⟩ := Go.Deep.trod_struct3 Try.underlying33 ht
      have k0 := hat 0 (by omega)
      have k1 := hat 1 (by omega)
      have k2 := hat 2 (by omega)
      rw [Go.Deep.add_add] at k0 k1 k2
      have hspot : spot = none := hs0 (by omega)
      subst hspot
      rw [Addr.add_lit] at k0 k1 k2
      obtain ⟨b0, rfl, b1, b2⟩ := byte_of_trodG (v := c0) h0
      obtain ⟨s1, e1, hl1⟩ := str_of_trodG (v := c1) h1
      obtain ⟨t2, e2⟩ := int_of_trodG (v := c2) h2
      subst e1; subst e2
      exact ⟨(b0, s1, t2), k0, k1, k2, ⟨b1, b2⟩, hl1⟩
    obtain ⟨ls, hls, hp⟩ := choose_g len _ key
    refine ⟨ls, some ⟨ab, ao, spot⟩, m, by rw [hls], by rw [hls]; exact hl, by unfold maxLen at hm; omega, fun h0 => ?_⟩
    have hs := hs0 (by omega)
    subst hs
    have hlt : ab < W.heap.size := World.block_lt_of_cell? W ⟨ab, ao + 0 * 3, none⟩ (hp 0 h0).1
    exact ⟨ab, ao, rfl, hlt, fun j hj => hp j hj⟩
end
end Go.Proofs.Ytipgjpmaflcpkaa
