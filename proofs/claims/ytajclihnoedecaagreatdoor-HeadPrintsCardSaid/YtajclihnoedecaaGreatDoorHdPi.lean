/- Pairs that lie in memory; an append of one pair. -/
import Derived.Test.YtajclihnoedecaaGreatDoorHdPar
import Derived.Test.YtajclihnoedecaaGreatDoorReg
import Derived.Deep.RegionLaw
set_option maxRecDepth 100000
namespace Go.Proofs.YtajclihnoedecaaGreatDoor
open Go.RowKit Go.Shelf
abbrev Prs : Type := List (List UInt8 × List UInt8)
/-- Pairs that lie in memory. -/
def PrIn (W : World) (v : Value) (xs : Prs) : Prop :=
  ∃ A c, v = .slice A xs.length c ∧ xs.length ≤ c ∧ c ≤ 9223372036854775807 ∧ ∀ k (hk : k < xs.length), ∃ g o, A = some ⟨g, o, none⟩ ∧ W.cell? ⟨g, o + k * 2, none⟩ = some (str (xs[k]'hk).1) ∧ W.cell? ⟨g, o + k * 2 + 1, none⟩ = some (str (xs[k]'hk).2)
theorem prc_at : ∀ (xs : Prs) (k : Nat) (hk : k < xs.length), (prc xs)[k * 2]? = some (str (xs[k]'hk).1) ∧ (prc xs)[k * 2 + 1]? = some (str (xs[k]'hk).2)
  | [], k, hk => by simp at hk
  | x :: t, 0, hk => ⟨rfl, rfl⟩
  | x :: t, k + 1, hk => by
    have ih := prc_at t k (by simpa using hk)
    have e : prc (x :: t) = str x.1 :: str x.2 :: prc t := rfl
    rw [e, show (k + 1) * 2 = k * 2 + 1 + 1 by omega, List.getElem?_cons_succ, List.getElem?_cons_succ, List.getElem?_cons_succ, List.getElem?_cons_succ]
    exact ih
theorem OwnP.prIn {W : World} {base : Nat} {v : Value} {xs : Prs} (h : OwnP W base v xs) : PrIn W v xs := by
  obtain ⟨h1, ⟨h2, h3⟩ | ⟨g, cap, cur, h0, hb, hg, hc, hm, h3⟩⟩ := id h
  · have hx : xs = [] := List.eq_nil_of_length_eq_zero h3
    subst hx
    exact ⟨none, 0, h2, by simp, by omega, fun k hk => by simp at hk⟩
  · refine ⟨_, cap, h0, hc, by unfold maxLen at hm; omega, fun k hk => ⟨g, 0, rfl, ?_, ?_⟩⟩
    · have := World.ownsRow.cells h (g := g) (by rw [h0]; rfl) (k * 2) _ (prc_at xs k hk).1
      rwa [Addr.add_lit] at this
    · have := World.ownsRow.cells h (g := g) (by rw [h0]; rfl) (k * 2 + 1) _ (prc_at xs k hk).2
      rwa [Addr.add_lit] at this
theorem PrIn.below {W W' : World} {v : Value} {xs : Prs} (h : PrIn W v xs) (hb : Below W.heap.size W W') : PrIn W' v xs := by
  obtain ⟨A, c, e, h1, h2, h⟩ := h
  refine ⟨A, c, e, h1, h2, fun k hk => ?_⟩
  obtain ⟨g, o, hg, h1, h2⟩ := h k hk
  exact ⟨g, o, hg, cell_below h1 hb, cell_below h2 hb⟩
theorem step_appP {w : World} {ops : Array Oper} {o : Oper} {a : Act} {K : Act → World → Prop} {Q : Exit → Act → World → Prop} {E : Prop} (hgd : o.guard = none) (s x : Operand) (ho : o.op = .call { callee := .builtin .append, args := #[s, x], argTypes := #[27, 27] })
    (base : Nat) (v : Value) (xs : Prs) (hs : a.eval s = v) (hown : OwnP w base v xs) (gb : Nat) (q r : List UInt8) (hx : a.eval x = .slice (some ⟨gb, 0, none⟩) 1 1)
    (hnew : w.heap[gb]? = some (.cells #[str q, str r] 51 (0, 0))) (hn : xs.length ≤ 100000) (hbase : base ≤ w.heap.size)
    (h : ∀ v' w', OwnP w' base v' (xs ++ [(q, r)]) → w.grownBy w' v.ownBlock → K (a.put o.dst v') w') : if Region.wanted o (yielded ops a.tmps) = true then Oper.wp Tryz.prog o a w K Q else E := by
  rw [if_pos (show Region.wanted o (yielded ops a.tmps) = true by simp [Region.wanted, hgd])]
  obtain ⟨i0, hi, hz0, hz1, hz2⟩ := info_parts info_pr
  refine wp_append_own w s x 27 ho base 51 i0 (.agg #[str [], str []]) 2 32 Tryz.underlying27 hi hz0 hz1 hz2 rfl (by decide) v xs.length (prc xs) hs hown ⟨gb, 0, none⟩ 1 1 [str q, str r] hx rfl (World.news_of_block hnew) (by simp [Value.oneCell']) (by unfold maxLen; omega) (by omega) hbase ?_
  intro v' w' h1 h2 _
  refine h v' w' ?_ h2
  unfold OwnP
  rw [List.length_append, prc_snoc]
  exact h1
theorem World.heap_size_drewX (w : World) : w.drew.heap.size = w.heap.size := rfl
theorem wpOp_valueW {P : Program} {ops : Array Oper} {Q : Exit → Act → World → Prop} {K : Act → World → Prop} {a : Act} {w : World} {i : Nat} {o : Oper} (d : Tmp) (hi : ops[i]? = some o) (hd : o.dst = some d) (hw : Region.wanted o (yielded ops a.tmps) = true) (v : Value) (w' : World) (hr : (execOp a.eval o).run P w = .ok (.value v) w') (h : K (a.put (some d) v) w') : wpOp P ops Q i K a w :=
  wpOp_of_wp hi hw (by unfold Oper.wp; rw [hr]; rw [← hd] at h; exact h)
theorem wpOp_appP {ops : Array Oper} {Q : Exit → Act → World → Prop} {K : Act → World → Prop} {a : Act} {w : World} {i : Nat} {o : Oper} (d : Tmp) (hi : ops[i]? = some o) (hd : o.dst = some d) (hgd : o.guard = none) (s x : Operand) (ho : o.op = .call { callee := .builtin .append, args := #[s, x], argTypes := #[27, 27] })
    (base : Nat) (v : Value) (xs : Prs) (hs : a.eval s = v) (hown : OwnP w base v xs) (gb : Nat) (q r : List UInt8) (hx : a.eval x = .slice (some ⟨gb, 0, none⟩) 1 1)
    (hnew : w.heap[gb]? = some (.cells #[str q, str r] 51 (0, 0))) (hn : xs.length ≤ 100000) (hbase : base ≤ w.heap.size)
    (h : ∀ v' w', OwnP w' base v' (xs ++ [(q, r)]) → w.grownBy w' v.ownBlock → K (a.put (some d) v') w') : wpOp Tryz.prog ops Q i K a w := by
  refine wpOp_of_wp hi (by simp [Region.wanted, hgd]) ?_
  obtain ⟨i0, hi, hz0, hz1, hz2⟩ := info_parts info_pr
  refine wp_append_own w s x 27 ho base 51 i0 (.agg #[str [], str []]) 2 32 Tryz.underlying27 hi hz0 hz1 hz2 rfl (by decide) v xs.length (prc xs) hs hown ⟨gb, 0, none⟩ 1 1 [str q, str r] hx rfl (World.news_of_block hnew) (by simp [Value.oneCell']) (by unfold maxLen; omega) (by omega) hbase ?_
  intro v' w' h1 h2 _
  rw [hd]
  refine h v' w' ?_ h2
  unfold OwnP
  rw [List.length_append, prc_snoc]
  exact h1
end Go.Proofs.YtajclihnoedecaaGreatDoor
