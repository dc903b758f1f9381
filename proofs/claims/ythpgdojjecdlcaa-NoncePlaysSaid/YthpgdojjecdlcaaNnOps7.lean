/- nonce: an argument that is a slice of Ops (seven fields). -/
import Derived.Test.YthpgdojjecdlcaaNnOnce
import Derived.Test.YthpgdojjecdlcaaArgs0
import Derived.Deep.Strs
set_option maxRecDepth 100000
namespace Go.Proofs.Ythpgdojjecdlcaa
open Go.ChangeShapes Go.WideShapes Go.ChangeAt Go.RowKit Go.Shelf
theorem choose_g {α : Type} (n : Nat) (p : Nat → α → Prop) (h : ∀ i, i < n → ∃ x, p i x) : ∃ l : List α, l.length = n ∧ ∀ i (hi : i < l.length), p i l[i] := by
  induction n with
  | zero => exact ⟨[], rfl, fun i hi => by simp at hi⟩
  | succ k ih =>
    obtain ⟨l, hl, hp⟩ := ih (fun i hi => h i (by omega))
    obtain ⟨x, hx⟩ := h k (by omega)
    refine ⟨l ++ [x], by rw [List.length_append, hl]; rfl, fun i hi => ?_⟩
    by_cases hik : i < l.length
    · rw [List.getElem_append_left hik]; exact hp i hik
    · have : i = k := by rw [List.length_append] at hi; simp at hi; omega
      subst this
      rw [List.getElem_append_right (by omega)]
      simpa [hl] using hx
/-- An Op: what to do, a text, which one, whether an own one, a count, ticks, how far back. -/
structure OpN where
  d : Int
  x : List UInt8
  wh : Int
  ow : Bool
  c : Int
  t : Int
  bk : Int
def opC (o : OpN) : List Value := [.int .u8 o.d, strT o.x, .int .u8 o.wh, .bool o.ow, .int .u32 o.c, .int .u32 o.t, .int .u8 o.bk]
structure OpN.ok (o : OpN) : Prop where
  d : 0 ≤ o.d ∧ o.d ≤ 255
  x : o.x.length ≤ 9223372036854775807
  wh : 0 ≤ o.wh ∧ o.wh ≤ 255
  c : 0 ≤ o.c ∧ o.c ≤ 4294967295
  t : 0 ≤ o.t ∧ o.t ≤ 4294967295
  bk : 0 ≤ o.bk ∧ o.bk ≤ 255
/-- The slice v, nil or not, holds the Ops ls, all of them below block B. -/
def NOps (w : World) (B : Nat) (v : Value) (ls : List OpN) : Prop :=
  ∃ A c, v = .slice A ls.length c ∧ ls.length ≤ c ∧ c ≤ 9223372036854775807 ∧ (0 < ls.length → ∃ b o, A = some ⟨b, o, none⟩ ∧ b < B ∧ ∀ j (h : j < ls.length), (∀ k v, (opC ls[j])[k]? = some v → w.cell? ⟨b, o + j * 7 + k, none⟩ = some v) ∧ ls[j].ok)
section
variable {H : Type} {enc : TypeId × Value → H}
theorem cells_op7 : Try.prog.cellsOf 42 = 7 := by kernel_rfl
theorem u8_of_trod {W : World} {base fuel : Nat} {v : Value} {x : DataW H × List MemPlace} (hf : DataW.trod enc Try.prog W base (fun _ => true) true fuel 5 [v] = some x) : ∃ k : Int, v = .int .u8 k ∧ 0 ≤ k ∧ k ≤ 255 := by
  obtain ⟨n, hv, _, hw⟩ := DataW.trod_int Try.underlying5 hf
  simp only [List.cons.injEq, and_true] at hv
  subst hv
  simp [Lit.wf, IntKind.min, IntKind.max, IntKind.bits, IntKind.signed] at hw
  exact ⟨n, rfl, by omega, by omega⟩
theorem u32_of_trod {W : World} {base fuel : Nat} {v : Value} {x : DataW H × List MemPlace} (hf : DataW.trod enc Try.prog W base (fun _ => true) true fuel 40 [v] = some x) : ∃ k : Int, v = .int .u32 k ∧ 0 ≤ k ∧ k ≤ 4294967295 := by
  obtain ⟨n, hv, _, hw⟩ := DataW.trod_int Try.underlying40 hf
  simp only [List.cons.injEq, and_true] at hv
  subst hv
  simp [Lit.wf, IntKind.min, IntKind.max, IntKind.bits, IntKind.signed] at hw
  exact ⟨n, rfl, by omega, by omega⟩
theorem str_of_trod {W : World} {base fuel : Nat} {v : Value} {x : DataW H × List MemPlace} (hf : DataW.trod enc Try.prog W base (fun _ => true) true fuel 9 [v] = some x) : ∃ s : List UInt8, v = strT s ∧ s.length ≤ 9223372036854775807 := by
  obtain ⟨s1, hv, _, hs1⟩ := DataW.trod_string Try.underlying9 hf
  simp only [List.cons.injEq, and_true] at hv
  subst hv
  exact ⟨s1.data.toList, by simp, by unfold maxLen at hs1; simpa using hs1⟩
theorem bool_of_trod {W : World} {base fuel : Nat} {v : Value} {x : DataW H × List MemPlace} (hf : DataW.trod enc Try.prog W base (fun _ => true) true fuel 4 [v] = some x) : ∃ b : Bool, v = .bool b := by
  obtain ⟨n, hv, _⟩ := DataW.trod_bool Try.underlying4 hf
  simp only [List.cons.injEq, and_true] at hv
  exact ⟨n, hv⟩
theorem trod_struct7 {P : Program} {w : World} {base : Nat} {spare : Nat → Bool} {held : Bool} {t : TypeId} {f0 f1 f2 f3 f4 f5 f6 : Field} {fuel : Nat} {cs : List Value} {x : DataW H × List MemPlace} (ht : P.underlying t = some (.struct #[f0, f1, f2, f3, f4, f5, f6])) (h : DataW.trod enc P w base spare held fuel t cs = some x) :
    ∃ y0 y1 y2 y3 y4 y5 y6 n, DataW.trod enc P w base spare held n f0.type ((cs.drop f0.offset).take (P.cellsOf f0.type)) = some y0 ∧
      DataW.trod enc P w base spare held n f1.type ((cs.drop f1.offset).take (P.cellsOf f1.type)) = some y1 ∧ DataW.trod enc P w base spare held n f2.type ((cs.drop f2.offset).take (P.cellsOf f2.type)) = some y2 ∧
      DataW.trod enc P w base spare held n f3.type ((cs.drop f3.offset).take (P.cellsOf f3.type)) = some y3 ∧ DataW.trod enc P w base spare held n f4.type ((cs.drop f4.offset).take (P.cellsOf f4.type)) = some y4 ∧
      DataW.trod enc P w base spare held n f5.type ((cs.drop f5.offset).take (P.cellsOf f5.type)) = some y5 ∧ DataW.trod enc P w base spare held n f6.type ((cs.drop f6.offset).take (P.cellsOf f6.type)) = some y6 := by
  obtain ⟨xs, n, _, rfl, hl, hlen, hf⟩ := DataW.trod_struct ht h
  match xs, hlen with
  | [y0, y1, y2, y3, y4, y5, y6], _ => exact ⟨y0, y1, y2, y3, y4, y5, y6, n, by simpa using hf 0 f0 rfl, by simpa using hf 1 f1 rfl, by simpa using hf 2 f2 rfl, by simpa using hf 3 f3 rfl, by simpa using hf 4 f4 rfl, by simpa using hf 5 f5 rfl, by simpa using hf 6 f6 rfl⟩
theorem open_ops {W : World} {base : Nat} {v : Value} {d : DataW H} {ps : List MemPlace} (hval : Value.okWide Try.prog W .any base 23 v) (h : DataW.Trod enc Try.prog W 0 (fun _ => true) true 23 v d ps) :
    ∃ ls, NOps W W.heap.size v ls := by
  obtain ⟨a1, len, cap, rfl⟩ := okWide_slice Try.underlying23 hval
  obtain ⟨fuel, hf⟩ := h
  rcases Go.Deep.open_slice Try.underlying23 hf with ⟨hcs, _⟩ | ⟨a, len', cap', m, n, D, Pl, hcs, _, hl, hm, hmm, _, hx⟩
  · simp [Value.cells] at hcs
    obtain ⟨rfl, rfl, rfl⟩ := hcs
    exact ⟨[], none, 0, rfl, by simp, by omega, fun h => by simp at h⟩
  · simp [Value.cells] at hcs
    obtain ⟨rfl, rfl, rfl⟩ := hcs
    simp only [if_true] at hmm
    subst hmm
    rw [cells_op7] at hx
    obtain ⟨ab, ao, spot⟩ := a
    have hs0 : 0 < len → spot = none := by
      intro h0
      obtain ⟨cs, hc, _⟩ := hx 0 (by omega)
      have k0 := (World.cells?_some hc).2.2 0 (by omega)
      have hl0 : cs.length = 7 := (World.cells?_some hc).2.1
      rw [List.getElem?_eq_getElem (by omega)] at k0
      simpa [Addr.add] using World.cell?_spot k0
    have key : ∀ i, i < len → ∃ x : OpN, (∀ k v, (opC x)[k]? = some v → W.cell? ⟨ab, ao + i * 7 + k, none⟩ = some v) ∧ x.ok := by
      intro i hi
      obtain ⟨cs, hc, ht⟩ := hx i (by omega)
      obtain ⟨_, hcl, hat⟩ := World.cells?_some hc
      obtain ⟨c0, c1, c2, c3, c4, c5, c6, rfl⟩ : ∃ c0 c1 c2 c3 c4 c5 c6, cs = [c0, c1, c2, c3, c4, c5, c6] := by
        match cs, hcl with
        | [c0, c1, c2, c3, c4, c5, c6], _ => exact ⟨c0, c1, c2, c3, c4, c5, c6, rfl⟩
      obtain ⟨y0, y1, y2, y3, y4, y5, y6, n', h0, h1, h2, h3, h4, h5, h6⟩ := trod_struct7 Try.underlying42 ht
      have hspot : spot = none := hs0 (by omega)
      subst hspot
      obtain ⟨n0, rfl, b01, b02⟩ := u8_of_trod (v := c0) h0
      obtain ⟨s1, rfl, hl1⟩ := str_of_trod (v := c1) h1
      obtain ⟨n2, rfl, b21, b22⟩ := u8_of_trod (v := c2) h2
      obtain ⟨n3, rfl⟩ := bool_of_trod (v := c3) h3
      obtain ⟨n4, rfl, b41, b42⟩ := u32_of_trod (v := c4) h4
      obtain ⟨n5, rfl, b51, b52⟩ := u32_of_trod (v := c5) h5
      obtain ⟨n6, rfl, b61, b62⟩ := u8_of_trod (v := c6) h6
      refine ⟨⟨n0, s1, n2, n3, n4, n5, n6⟩, fun k v hv => ?_, ⟨⟨b01, b02⟩, hl1, ⟨b21, b22⟩, ⟨b41, b42⟩, ⟨b51, b52⟩, ⟨b61, b62⟩⟩⟩
      have hk : k < 7 := (List.getElem?_eq_some_iff.1 hv).1
      have kk := hat k hk
      rw [Go.Deep.add_add, Addr.add_lit] at kk
      rw [Nat.add_assoc, kk]
      exact hv
    obtain ⟨ls, hls, hp⟩ := choose_g len _ key
    refine ⟨ls, some ⟨ab, ao, spot⟩, m, by rw [hls], by rw [hls]; exact hl, by unfold maxLen at hm; omega, fun h0 => ?_⟩
    have hs := hs0 (by omega)
    subst hs
    have hlt : ab < W.heap.size := World.block_lt_of_cell? W ⟨ab, ao + 0 * 7 + 0, none⟩ ((hp 0 h0).1 0 _ rfl)
    exact ⟨ab, ao, rfl, hlt, fun j hj => hp j hj⟩
end
end Go.Proofs.Ythpgdojjecdlcaa
