/- An argument that is a slice of pairs of texts. An argument that is a head. -/
import Derived.Test.YtajclihnoedecaaGreatDoorHdPi
import Derived.Test.YtajclihnoedecaaGreatDoorArgs
import Derived.Deep.Strs
set_option maxRecDepth 100000
namespace Go.Proofs.YtajclihnoedecaaGreatDoor
open Go.ChangeShapes Go.WideShapes Go.ChangeAt Go.RowKit Go.Shelf
theorem choose_p {α : Type} (n : Nat) (p : Nat → α → Prop) (h : ∀ i, i < n → ∃ x, p i x) : ∃ l : List α, l.length = n ∧ ∀ i (hi : i < l.length), p i l[i] := by
  induction n with
  | zero => exact ⟨[], rfl, fun i hi => by simp at hi⟩
  | succ k ih =>
    obtain ⟨l, hl, hp⟩ := ih (fun i hi => h i (by omega))
    obtain ⟨x, hx⟩ := h k (by omega)
    refine ⟨l ++ [x], by rw [List.length_append, hl]; rfl, fun i hi => ?_⟩
    by_cases hik : i < l.length
    · rw [List.getElem_append_left hik]; exact hp i hik
    · have : i = k := by rw [List.length_append] at hi; simp at hi; omega
      subst this
      rw [List.getElem_append_right (by omega)]
      simpa [hl] using hx
/-- Pairs that lie in memory, each of texts that there may be. -/
def PrArg (W : World) (v : Value) (ls : Prs) : Prop := PrIn W v ls ∧ ∀ x ∈ ls, x.1.length ≤ 9223372036854775807 ∧ x.2.length ≤ 9223372036854775807
section
variable {H : Type} {enc : TypeId × Value → H}
theorem cells_pr : Tryz.prog.cellsOf 51 = 2 := by kernel_rfl
theorem str_of_trodP {W : World} {base fuel : Nat} {v : Value} {x : DataW H × List MemPlace} (hf : DataW.trod enc Tryz.prog W base (fun _ => true) true fuel 9 [v] = some x) : ∃ s : List UInt8, v = str s ∧ s.length ≤ 9223372036854775807 := by
  obtain ⟨s1, hv, _, hs1⟩ := DataW.trod_string Tryz.underlying9 hf
  simp only [List.cons.injEq, and_true] at hv
  subst hv
  exact ⟨s1.data.toList, by simp, by unfold maxLen at hs1; simpa using hs1⟩
theorem open_prs {W : World} {base : Nat} {v : Value} {d : DataW H} {ps : List MemPlace} (hval : Value.okWide Tryz.prog W .any base 27 v) (h : DataW.Trod enc Tryz.prog W 0 (fun _ => true) true 27 v d ps) :
    ∃ ls, PrArg W v ls := by
  obtain ⟨a1, len, cap, rfl⟩ := okWide_slice Tryz.underlying27 hval
  obtain ⟨fuel, hf⟩ := h
  rcases Go.Deep.open_slice Tryz.underlying27 hf with ⟨hcs, _⟩ | ⟨a, len', cap', m, n, D, Pl, hcs, _, hl, hm, hmm, _, hx⟩
  · simp [Value.cells] at hcs
    obtain ⟨rfl, rfl, rfl⟩ := hcs
    exact ⟨[], ⟨none, 0, rfl, by simp, by omega, fun k hk => by simp at hk⟩, fun x hx => by cases hx⟩
  · simp [Value.cells] at hcs
    obtain ⟨rfl, rfl, rfl⟩ := hcs
    simp only [if_true] at hmm
    subst hmm
    rw [cells_pr] at hx
    obtain ⟨ab, ao, spot⟩ := a
    have hs0 : 0 < len → spot = none := by
      intro h0
      obtain ⟨cs, hc, _⟩ := hx 0 (by omega)
      have k0 := (World.cells?_some hc).2.2 0 (by omega)
      have hl0 : cs.length = 2 := (World.cells?_some hc).2.1
      rw [List.getElem?_eq_getElem (by omega)] at k0
      simpa [Addr.add] using World.cell?_spot k0
    have key : ∀ i, i < len → ∃ x : List UInt8 × List UInt8, (W.cell? ⟨ab, ao + i * 2, none⟩ = some (str x.1) ∧ W.cell? ⟨ab, ao + i * 2 + 1, none⟩ = some (str x.2)) ∧ x.1.length ≤ 9223372036854775807 ∧ x.2.length ≤ 9223372036854775807 := by
      intro i hi
      obtain ⟨cs, hc, ht⟩ := hx i (by omega)
      obtain ⟨_, hcl, hat⟩ := World.cells?_some hc
      obtain ⟨c0, c1, rfl⟩ : ∃ c0 c1, cs = [c0, c1] := by
        match cs, hcl with
        | [c0, c1], _ => exact ⟨c0, c1, rfl⟩
      obtain ⟨y0, y1, n', _, _, h0, h1⟩ := trod_struct2 Tryz.underlying51 ht
      have k0 := hat 0 (by omega)
      have k1 := hat 1 (by omega)
      rw [Go.Deep.add_add] at k0 k1
      have hspot : spot = none := hs0 (by omega)
      subst hspot
      rw [Addr.add_lit] at k0 k1
      obtain ⟨s0, e0, hl0⟩ := str_of_trodP (v := c0) h0
      obtain ⟨s1, e1, hl1⟩ := str_of_trodP (v := c1) h1
      subst e0; subst e1
      exact ⟨(s0, s1), ⟨k0, k1⟩, hl0, hl1⟩
    obtain ⟨ls, hls, hp⟩ := choose_p len _ key
    refine ⟨ls, ⟨some ⟨ab, ao, spot⟩, m, by rw [hls], by rw [hls]; exact hl, by unfold maxLen at hm; omega, fun k hk => ?_⟩, fun x hx => ?_⟩
    · have hs := hs0 (by omega)
      subst hs
      exact ⟨ab, ao, rfl, (hp k hk).1⟩
    · obtain ⟨k, hk, rfl⟩ := List.getElem_of_mem hx
      exact (hp k hk).2
end
end Go.Proofs.YtajclihnoedecaaGreatDoor
set_option maxRecDepth 100000
namespace Go.Proofs.YtajclihnoedecaaGreatDoor
open Go.ChangeShapes Go.WideShapes Go.ChangeAt Go.RowKit Go.Shelf
/-- A head that lies in memory. -/
def HdArg (W : World) (v : Value) (a b : List UInt8) (st : Int) (u : Value) (ls : Prs) : Prop := v = .agg #[str a, str b, .int .i64 st, u] ∧ a.length ≤ 9223372036854775807 ∧ b.length ≤ 9223372036854775807 ∧ PrArg W u ls ∧ (Lit.int .i64 st).wf = true
section
variable {H : Type} {enc : TypeId × Value → H}
theorem cells_hd : Tryz.prog.cellsOf 29 = 4 := by kernel_rfl
theorem four_of {α : Type} {l : List α} (h : l.length = 4) : ∃ a b c d, l = [a, b, c, d] := by
  match l, h with
  | [a, b, c, d], _ => exact ⟨a, b, c, d, rfl⟩
theorem open_prsC {W : World} {fuel : Nat} {v : Value} {x : DataW H × List MemPlace} (hf : DataW.trod enc Tryz.prog W 0 (fun _ => true) true fuel 27 [v] = some x) :
    ∃ ls, PrArg W v ls := by
  rcases Go.Deep.open_slice Tryz.underlying27 hf with ⟨hcs, _⟩ | ⟨a, len, cap, m, n, D, Pl, hcs, _, hl, hm, hmm, _, hx⟩
  · simp only [List.cons.injEq, and_true] at hcs
    subst hcs
    exact ⟨[], ⟨none, 0, rfl, by simp, by omega, fun k hk => by simp at hk⟩, fun x hx => by cases hx⟩
  · simp only [List.cons.injEq, and_true] at hcs
    subst hcs
    simp only [if_true] at hmm
    subst hmm
    rw [cells_pr] at hx
    obtain ⟨ab, ao, spot⟩ := a
    have hs0 : 0 < len → spot = none := by
      intro h0
      obtain ⟨cs, hc, _⟩ := hx 0 (by omega)
      have k0 := (World.cells?_some hc).2.2 0 (by omega)
      have hl0 : cs.length = 2 := (World.cells?_some hc).2.1
      rw [List.getElem?_eq_getElem (by omega)] at k0
      simpa [Addr.add] using World.cell?_spot k0
    have key : ∀ i, i < len → ∃ x : List UInt8 × List UInt8, (W.cell? ⟨ab, ao + i * 2, none⟩ = some (str x.1) ∧ W.cell? ⟨ab, ao + i * 2 + 1, none⟩ = some (str x.2)) ∧ x.1.length ≤ 9223372036854775807 ∧ x.2.length ≤ 9223372036854775807 := by
      intro i hi
      obtain ⟨cs, hc, ht⟩ := hx i (by omega)
      obtain ⟨_, hcl, hat⟩ := World.cells?_some hc
      obtain ⟨c0, c1, rfl⟩ : ∃ c0 c1, cs = [c0, c1] := by
        match cs, hcl with
        | [c0, c1], _ => exact ⟨c0, c1, rfl⟩
      obtain ⟨y0, y1, n', _, _, h0, h1⟩ := trod_struct2 Tryz.underlying51 ht
      have k0 := hat 0 (by omega)
      have k1 := hat 1 (by omega)
      rw [Go.Deep.add_add] at k0 k1
      have hspot : spot = none := hs0 (by omega)
      subst hspot
      rw [Addr.add_lit] at k0 k1
      obtain ⟨s0, e0, hl0⟩ := str_of_trodP (v := c0) h0
      obtain ⟨s1, e1, hl1⟩ := str_of_trodP (v := c1) h1
      subst e0; subst e1
      exact ⟨(s0, s1), ⟨k0, k1⟩, hl0, hl1⟩
    obtain ⟨ls, hls, hp⟩ := choose_p len _ key
    refine ⟨ls, ⟨some ⟨ab, ao, spot⟩, m, by rw [hls], by rw [hls]; exact hl, by unfold maxLen at hm; omega, fun k hk => ?_⟩, fun x hx => ?_⟩
    · have hs := hs0 (by omega)
      subst hs
      exact ⟨ab, ao, rfl, (hp k hk).1⟩
    · obtain ⟨k, hk, rfl⟩ := List.getElem_of_mem hx
      exact (hp k hk).2
theorem open_hd {W : World} {base : Nat} {v : Value} {d : DataW H} {ps : List MemPlace} (hval : Value.okWide Tryz.prog W .any base 29 v) (h : DataW.Trod enc Tryz.prog W 0 (fun _ => true) true 29 v d ps) :
    ∃ a b st u ls, HdArg W v a b st u ls := by
  obtain ⟨cs, rfl, hsz⟩ := okWide_struct Tryz.underlying29 hval
  obtain ⟨fuel, hf⟩ := h
  rw [show Value.cells (.agg cs) = cs by simp [Value.cells]] at hf
  obtain ⟨xs, n, _, _, _, hlen, hat⟩ := DataW.trod_struct Tryz.underlying29 hf
  rw [cells_hd] at hsz
  obtain ⟨c0, c1, c2, c3, hc⟩ := four_of (l := cs.toList) (by simpa using hsz)
  obtain ⟨y0, y1, y2, y3, rfl⟩ := four_of (l := xs) hlen
  have hcs : cs = #[c0, c1, c2, c3] := by rw [← Array.toArray_toList (xs := cs), hc]
  rw [hc] at hat
  have h0 := hat 0 _ rfl
  have h1 := hat 1 _ rfl
  have h2 := hat 2 _ rfl
  have h3 := hat 3 _ rfl
  obtain ⟨a, ea, ha⟩ := str_of_trodP (v := c0) h0
  obtain ⟨b, eb, hb⟩ := str_of_trodP (v := c1) h1
  obtain ⟨st, es, _, hst⟩ := DataW.trod_int Tryz.underlying3 h2
  obtain ⟨ls, hls⟩ := open_prsC (v := c3) h3
  have es2 : c2 = .int .i64 st := by
    have : [c2] = [Value.int .i64 st] := es
    simpa using this
  subst ea; subst eb; subst es2; subst hcs
  exact ⟨a, b, st, c3, ls, rfl, ha, hb, hls, hst⟩
end
end Go.Proofs.YtajclihnoedecaaGreatDoor
