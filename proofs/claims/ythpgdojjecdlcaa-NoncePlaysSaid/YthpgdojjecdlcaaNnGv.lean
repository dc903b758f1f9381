/- nonce: the law's row of what was given out; what an operation of a Store leaves of rows and maps. -/
import Derived.Test.YthpgdojjecdlcaaNnWin
import Derived.Laws.AppendOwnNone
set_option maxRecDepth 100000
namespace Go.Proofs.Ythpgdojjecdlcaa
open Go.RowKit Go.Shelf
abbrev tGv : TypeId := 60
theorem info_gv : (Try.prog.info? tGv).map (fun i => (i.zero, i.size, i.bytes)) = some (some (.agg #[.string ⟨#[]⟩, .int .u64 0]), 2, 24) := by kernel_rfl
/-- The cells of nonces and their ticks in a row. -/
def gv (G : PLn) : List Value := G.flatMap fun q => [strT q.2.s, u64v q.2.a]
theorem gv_snoc (G : PLn) (q : List UInt8 × VT) : gv (G ++ [q]) = gv G ++ [strT q.2.s, u64v q.2.a] := by unfold gv; rw [List.flatMap_append]; simp
theorem gv_at : ∀ (G : PLn) (i : Nat) (h : i < G.length), (gv G)[i * 2]? = some (strT (G[i]).2.s) ∧ (gv G)[i * 2 + 1]? = some (u64v (G[i]).2.a)
  | [], i, h => by simp at h
  | q :: t, 0, _ => ⟨rfl, rfl⟩
  | q :: t, i + 1, h => by
    have := gv_at t i (by simpa using h)
    refine ⟨?_, ?_⟩
    · rw [show (i + 1) * 2 = i * 2 + 2 by omega]; exact this.1
    · rw [show (i + 1) * 2 + 1 = i * 2 + 1 + 2 by omega]; exact this.2
theorem wpList_appG {w : World} {ops : Array Oper} {rest : List Oper} {o : Oper} {a : Act} {Q : Exit → Act → World → Prop} (hgd : o.guard = none) (s x : Operand) (ho : o.op = .call { callee := .builtin .append, args := #[s, x], argTypes := #[57, 57] })
    (base : Nat) (v : Value) (n : Nat) (cs : List Value) (hs : a.eval s = v) (hown : w.ownsRow base tGv 2 v n cs) (g : Nat) (y : List UInt8) (t : Int) (hx : a.eval x = .slice (some ⟨g, 0, none⟩) 1 1)
    (hg : w.heap[g]? = some (.cells #[strT y, u64v t] tGv (0, 0))) (hlen : n ≤ 100000) (hbase : base ≤ w.heap.size)
    (h : ∀ v' w', w'.ownsRow base tGv 2 v' (n + 1) (cs ++ [strT y, u64v t]) → w.grownBy w' v.ownBlock → wpList Try.prog ops Q rest (a.put o.dst v') w') : wpList Try.prog ops Q (o :: rest) a w := by
  obtain ⟨i0, hi, hz0, hz1, hz2⟩ := info_parts info_gv
  refine wpList_append_own w hgd s x 57 ho base tGv i0 _ 2 24 Try.underlying57 hi hz0 hz1 hz2 rfl (by decide) v n cs hs hown ⟨g, 0, none⟩ 1 1 [strT y, u64v t] hx rfl ?_ ?_ (by unfold maxLen; omega) (by omega) hbase (fun v' w' g1 g2 _ => h v' w' g1 g2)
  · intro j u hu
    have hadd : (⟨g, 0, none⟩ : Addr).add j = ⟨g, j, none⟩ := by unfold Addr.add; split <;> simp_all
    rw [hadd]
    simpa [World.cell?, hg] using hu
  · intro u hu
    simp at hu
    rcases hu with rfl | rfl <;> rfl
section
variable {w w1 w' : World} {base S T m cap : Nat} {f : NF} {l : PLn}
theorem NS.mne (h : NS w base S T m cap f l) {g : Nat} {c : Array Value} {t : TypeId} {fz : Nat × Nat} (hg : w.heap[g]? = some (.cells c t fz)) : g ≠ m := by
  rintro rfl
  obtain ⟨⟨xs, ht, _⟩, _, _⟩ := h
  obtain ⟨D, ⟨es, clock, hb, _⟩, _⟩ := ht.map
  rw [hg] at hb; cases hb
theorem FrN.row (hf : FrN base m w w') (hn : NS w base S T m cap f l) {b n z : Nat} {e : TypeId} {v : Value} {xs : List Value} (h : w.ownsRow b e z v n xs) (ht : e ≠ tT ∧ e ≠ tE ∧ e ≠ tSt) : w'.ownsRow b e z v n xs := by
  obtain ⟨h1, h2 | ⟨g, cp, cur, rfl, hbg, hg, h3⟩⟩ := h
  · exact ⟨h1, .inl h2⟩
  · exact ⟨h1, .inr ⟨g, cp, cur, rfl, hbg, hf.kp g _ hg (Oth.cells ht) (hn.mne hg), h3⟩⟩
/-- A row that grows leaves a Store alone. -/
theorem NS.grown (h : NS w base S T m cap f l) {row : Option Nat} (hg : w.grownBy w' row) (hr : ∀ g, row = some g → ∃ c t fz, w.heap[g]? = some (.cells c t fz) ∧ t ≠ tT ∧ t ≠ tE ∧ t ≠ tSt) : NS w' base S T m cap f l := by
  have hS : some S ≠ row := by
    intro e
    obtain ⟨c, t, fz, k1, _, _, k4⟩ := hr S e.symm
    have := h.blk
    unfold BlkT at this
    rw [k1] at this
    exact k4 (by cases this; rfl)
  obtain ⟨⟨xs, ht, e, h1, h2, h3⟩, hblk, hlo⟩ := h
  refine ⟨⟨xs, ht.eqs (fun k hk => ?_), e, h1, h2, h3⟩, hblk.grown hg hS, hlo⟩
  refine hg.block k (tbk_lt ht k hk) (fun e => ?_)
  obtain ⟨c, t, fz, k1, k2, k3, _⟩ := hr k e.symm
  rcases List.mem_cons.1 hk with rfl | hk
  · have := ht.tbl
    unfold BlkT at this
    rw [k1] at this
    exact k2 (by cases this; rfl)
  · rcases List.mem_cons.1 hk with rfl | hk
    · obtain ⟨D, ⟨es, clock, hb, _⟩, _⟩ := ht.map
      rw [k1] at hb; cases hb
    · obtain ⟨y, hy, rfl⟩ := List.mem_map.1 hk
      obtain ⟨cs, hb⟩ := chn_ty xs none none ht.chn y hy
      unfold BlkT at hb
      rw [k1] at hb
      exact k3 (by cases hb; rfl)
theorem row_cells {b n z : Nat} {e : TypeId} {v : Value} {xs : List Value} (h : w.ownsRow b e z v n xs) (ht : e ≠ tT ∧ e ≠ tE ∧ e ≠ tSt) : ∀ g, v.ownBlock = some g → ∃ c t fz, w.heap[g]? = some (.cells c t fz) ∧ t ≠ tT ∧ t ≠ tE ∧ t ≠ tSt := by
  intro g hg
  rcases h.2 with ⟨rfl, _⟩ | ⟨g', cp, cur, rfl, _, hh, _⟩
  · simp [Value.ownBlock] at hg
  · have : g' = g := by simpa [Value.ownBlock] using hg
    subst this
    exact ⟨_, _, _, hh, ht⟩
end
end Go.Proofs.Ythpgdojjecdlcaa
