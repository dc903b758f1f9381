/- An argument that is a slice of Ops. -/
import Derived.Test.YtgldfobfchnkeaaSls
import Derived.Deep.Strs
namespace Go.Proofs.Ytgldfobfchnkeaa
open Go.ChangeShapes Go.WideShapes Go.ChangeAt Go.RowKit

/-- The slice v, nil or not, holds the Ops ls, all of them below block B. -/
def Ops (w : World) (B : Nat) (v : Value) (ls : List (UInt8 × List UInt8 × UInt8)) : Prop :=
  ∃ A c, v = .slice A ls.length c ∧ ls.length ≤ c ∧ c ≤ 9223372036854775807 ∧ (0 < ls.length → ∃ b o, A = some ⟨b, o, none⟩ ∧ b < B ∧ ∀ j (h : j < ls.length), w.cell? ⟨b, o + j * 3, none⟩ = some (vb ls[j].1) ∧ (∃ vj, w.cell? ⟨b, o + j * 3 + 1, none⟩ = some vj ∧ Sl w B vj ls[j].2.1) ∧ w.cell? ⟨b, o + j * 3 + 2, none⟩ = some (vb ls[j].2.2))
section
variable {H : Type} {enc : TypeId × Value → H}
theorem cells_op : Try.prog.cellsOf 49 = 3 := by kernel_rfl
theorem byte_of_trod {W : World} {base fuel : Nat} {v : Value} {x : DataW H × List MemPlace} (hf : DataW.trod enc Try.prog W base (fun _ => true) true fuel 5 [v] = some x) : ∃ k : UInt8, v = vb k := by
  obtain ⟨n, hv, _, hw⟩ := DataW.trod_int Try.underlying5 hf
  simp only [List.cons.injEq, and_true] at hv
  subst hv
  have h2 : 0 ≤ n ∧ n < 256 := by
    simp [Lit.wf, IntKind.min, IntKind.max, IntKind.bits, IntKind.signed] at hw
    omega
  refine ⟨UInt8.ofNat n.toNat, ?_⟩
  have e : bn (UInt8.ofNat n.toNat) = n := by unfold bn; rw [UInt8.toNat_ofNat']; omega
  rw [vb, e]
theorem open_ops {W : World} {base : Nat} {v : Value} {d : DataW H} {ps : List MemPlace} (hval : Value.okWide Try.prog W .any base 42 v) (h : DataW.Trod enc Try.prog W 0 (fun _ => true) true 42 v d ps) :
    ∃ ls, Ops W W.heap.size v ls := by
  obtain ⟨a1, len, cap, rfl⟩ := okWide_slice Try.underlying42 hval
  obtain ⟨fuel, hf⟩ := h
  rcases Go.Deep.open_slice Try.underlying42 hf with ⟨hcs, _⟩ | ⟨a, len', cap', m, n, D, Pl, hcs, _, hl, hm, hmm, _, hx⟩
  · simp [Value.cells] at hcs
    obtain ⟨rfl, rfl, rfl⟩ := hcs
    exact ⟨[], none, 0, rfl, by simp, by omega, fun h => by simp at h⟩
  · simp [Value.cells] at hcs
    obtain ⟨rfl, rfl, rfl⟩ := hcs
    simp only [if_true] at hmm
    subst hmm
    rw [cells_op] at hx
    obtain ⟨ab, ao, spot⟩ := a
    have hs0 : 0 < len → spot = none := by
      intro h0
      obtain ⟨cs, hc, _⟩ := hx 0 (by omega)
      have k0 := (World.cells?_some hc).2.2 0 (by omega)
      have hl0 : cs.length = 3 := (World.cells?_some hc).2.1
      rw [List.getElem?_eq_getElem (by omega)] at k0
      simpa [Addr.add] using World.cell?_spot k0
    have key : ∀ i, i < len → ∃ x : UInt8 × List UInt8 × UInt8, W.cell? ⟨ab, ao + i * 3, none⟩ = some (vb x.1) ∧ (∃ vj, W.cell? ⟨ab, ao + i * 3 + 1, none⟩ = some vj ∧ Sl W W.heap.size vj x.2.1) ∧ W.cell? ⟨ab, ao + i * 3 + 2, none⟩ = some (vb x.2.2) := by
      intro i hi
      obtain ⟨cs, hc, ht⟩ := hx i (by omega)
      obtain ⟨_, hcl, hat⟩ := World.cells?_some hc
      obtain ⟨c0, c1, c2, rfl⟩ : ∃ c0 c1 c2, cs = [c0, c1, c2] := by
        match cs, hcl with
        | [c0, c1, c2], _ => exact ⟨c0, c1, c2, rfl⟩
      obtain ⟨y0, y1, y2, n', _, _, h0, h1, h2⟩ := Go.Deep.trod_struct3 Try.underlying49 ht
      have k0 := hat 0 (by omega)
      have k1 := hat 1 (by omega)
      have k2 := hat 2 (by omega)
      rw [Go.Deep.add_add] at k0 k1 k2
      have hspot : spot = none := hs0 (by omega)
      subst hspot
      rw [Addr.add_lit] at k0 k1 k2
      obtain ⟨b0, rfl⟩ := byte_of_trod (v := c0) h0
      obtain ⟨b2, rfl⟩ := byte_of_trod (v := c2) h2
      obtain ⟨l1, hl1⟩ := open_sl_trod (v := c1) h1
      exact ⟨(b0, l1, b2), k0, ⟨c1, k1, hl1⟩, k2⟩
    obtain ⟨ls, hls, hp⟩ := choose_list len _ key
    refine ⟨ls, some ⟨ab, ao, spot⟩, m, by rw [hls], by rw [hls]; exact hl, by unfold maxLen at hm; omega, fun h0 => ?_⟩
    have hs := hs0 (by omega)
    subst hs
    have hlt : ab < W.heap.size := World.block_lt_of_cell? W ⟨ab, ao + 0 * 3, none⟩ (hp 0 h0).1
    exact ⟨ab, ao, rfl, hlt, fun j hj => hp j hj⟩
end
end Go.Proofs.Ytgldfobfchnkeaa
