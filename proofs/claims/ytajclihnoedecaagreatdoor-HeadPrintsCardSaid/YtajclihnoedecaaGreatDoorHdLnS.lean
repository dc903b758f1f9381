/- Lines that lie in memory: rows of the call's own, appending, reading; two rows alike. -/
import Derived.Test.YtajclihnoedecaaGreatDoorHdLn
import Derived.Test.YtajclihnoedecaaGreatDoorHdPar
import Derived.Deep.DeepCutAuto
import Derived.StillTailTactics
set_option maxRecDepth 100000
namespace Go.Proofs.YtajclihnoedecaaGreatDoor
open Go.RowKit Go.Shelf
attribute [local go_sem] Oper.semAt_some
theorem info_ln : (Tryz.prog.info? 61).map (fun i => (i.zero, i.size, i.bytes)) = some (some (.agg #[str [], .bool false]), 2, 24) := by kernel_rfl
/-- The cells of signs. -/
def lnc (xs : List (List UInt8 × Bool)) : List Value := xs.flatMap fun x => [str x.1, .bool x.2]
theorem lnc_snoc (xs : List (List UInt8 × Bool)) (x : List UInt8 × Bool) : lnc (xs ++ [x]) = lnc xs ++ [str x.1, .bool x.2] := by unfold lnc; simp
theorem lnc_len (xs : List (List UInt8 × Bool)) : (lnc xs).length = 2 * xs.length := by
  induction xs with
  | nil => rfl
  | cons x t ih => show (_ :: _ :: lnc t).length = _; rw [List.length_cons, List.length_cons, ih, List.length_cons]; omega
/-- A row of signs of the call's own. -/
def OwnLn (w : World) (base : Nat) (v : Value) (xs : List (List UInt8 × Bool)) : Prop := w.ownsRow base 61 2 v xs.length (lnc xs)
theorem OwnLn.below {w w' : World} {base : Nat} {v : Value} {xs : List (List UInt8 × Bool)} (h : OwnLn w base v xs) (hb : Below w.heap.size w w') : OwnLn w' base v xs :=
  World.ownsRow.kept h (grown_of_below hb none) (by by_cases e : v.ownBlock = none; exact .inl e; exact .inr e)
theorem wpList_appLn {w : World} {ops : Array Oper} {rest : List Oper} {o : Oper} {a : Act} {Q : Exit → Act → World → Prop} (hgd : o.guard = none) (s x : Operand) (ho : o.op = .call { callee := .builtin .append, args := #[s, x], argTypes := #[56, 56] })
    (base : Nat) (v : Value) (xs : List (List UInt8 × Bool)) (hs : a.eval s = v) (hown : OwnLn w base v xs) (gb : Nat) (q : List UInt8) (r : Bool) (hx : a.eval x = .slice (some ⟨gb, 0, none⟩) 1 1)
    (hnew : w.heap[gb]? = some (.cells #[str q, .bool r] 61 (0, 0))) (hn : xs.length ≤ 100000) (hbase : base ≤ w.heap.size)
    (h : ∀ v' w', OwnLn w' base v' (xs ++ [(q, r)]) → w.grownBy w' v.ownBlock → wpList Tryz.prog ops Q rest (a.put o.dst v') w') : wpList Tryz.prog ops Q (o :: rest) a w := by
  obtain ⟨i0, hi, hz0, hz1, hz2⟩ := info_parts info_ln
  refine wpList_append_own w hgd s x 56 ho base 61 i0 (.agg #[str [], .bool false]) 2 24 Tryz.underlying56 hi hz0 hz1 hz2 rfl (by decide) v xs.length (lnc xs) hs hown ⟨gb, 0, none⟩ 1 1 [str q, .bool r] hx rfl (World.news_of_block hnew) (by simp [Value.oneCell']) (by unfold maxLen; omega) (by omega) hbase ?_
  intro v' w' h1 h2 _
  refine h v' w' ?_ h2
  unfold OwnLn
  rw [List.length_append, lnc_snoc]
  exact h1
/-- Signs that lie in memory. -/
def LnIn (W : World) (v : Value) (xs : List (List UInt8 × Bool)) : Prop :=
  ∃ A c, v = .slice A xs.length c ∧ ∀ k (hk : k < xs.length), ∃ g, A = some ⟨g, 0, none⟩ ∧ W.cell? ⟨g, 0 + k * 2, none⟩ = some (str (xs[k]'hk).1) ∧ W.cell? ⟨g, 0 + k * 2 + 1, none⟩ = some (.bool (xs[k]'hk).2)
theorem lnc_at : ∀ (xs : List (List UInt8 × Bool)) (k : Nat) (hk : k < xs.length), (lnc xs)[k * 2]? = some (str (xs[k]'hk).1) ∧ (lnc xs)[k * 2 + 1]? = some (.bool (xs[k]'hk).2)
  | [], k, hk => by simp at hk
  | x :: t, 0, hk => ⟨rfl, rfl⟩
  | x :: t, k + 1, hk => by
    have ih := lnc_at t k (by simpa using hk)
    have e : lnc (x :: t) = str x.1 :: .bool x.2 :: lnc t := rfl
    rw [e, show (k + 1) * 2 = k * 2 + 1 + 1 by omega, List.getElem?_cons_succ, List.getElem?_cons_succ, List.getElem?_cons_succ, List.getElem?_cons_succ]
    exact ih
theorem OwnLn.lnIn {W : World} {base : Nat} {v : Value} {xs : List (List UInt8 × Bool)} (h : OwnLn W base v xs) : LnIn W v xs := by
  obtain ⟨h1, ⟨h2, h3⟩ | ⟨g, cap, cur, h0, hb, hg, h3⟩⟩ := id h
  · have hx : xs = [] := by
      first
        | exact List.eq_nil_of_length_eq_zero h3
        | exact List.eq_nil_of_length_eq_zero (by rw [lnc_len] at h1; omega)
    subst hx
    exact ⟨none, 0, h2, fun k hk => by simp at hk⟩
  · refine ⟨_, cap, h0, fun k hk => ⟨g, rfl, ?_, ?_⟩⟩
    · have := World.ownsRow.cells h (g := g) (by rw [h0]; rfl) (k * 2) _ (lnc_at xs k hk).1
      rwa [Addr.add_lit] at this
    · have := World.ownsRow.cells h (g := g) (by rw [h0]; rfl) (k * 2 + 1) _ (lnc_at xs k hk).2
      rwa [Addr.add_lit] at this
theorem LnIn.below {W W' : World} {v : Value} {xs : List (List UInt8 × Bool)} (h : LnIn W v xs) (hb : Below W.heap.size W W') : LnIn W' v xs := by
  obtain ⟨A, c, e, h⟩ := h
  refine ⟨A, c, e, fun k hk => ?_⟩
  obtain ⟨g, hg, h1, h2⟩ := h k hk
  exact ⟨g, hg, (hb.cell (p := ⟨g, 0 + k * 2, none⟩) (World.block_lt_of_cell? W _ h1)).trans h1, (hb.cell (p := ⟨g, 0 + k * 2 + 1, none⟩) (World.block_lt_of_cell? W _ h2)).trans h2⟩
theorem wpListIn_appLn {F : Fence} {n : Nat} {w : World} {ops : Array Oper} {rest : List Oper} {o : Oper} {a : Act} {Q : Exit → Act → World → Prop} (hgd : o.guard = none) (s x : Operand) (ho : o.op = .call { callee := .builtin .append, args := #[s, x], argTypes := #[56, 56] })
    (base : Nat) (v : Value) (xs : List (List UInt8 × Bool)) (hs : a.eval s = v) (hown : OwnLn w base v xs) (gb : Nat) (q : List UInt8) (r : Bool) (hx : a.eval x = .slice (some ⟨gb, 0, none⟩) 1 1)
    (hnew : w.heap[gb]? = some (.cells #[str q, .bool r] 61 (0, 0))) (hn : xs.length ≤ 100000) (hbase : base ≤ w.heap.size)
    (h : ∀ v' w', OwnLn w' base v' (xs ++ [(q, r)]) → w.grownBy w' v.ownBlock → wpListIn F n Tryz.prog ops Q rest (a.put o.dst v') w') : wpListIn F n Tryz.prog ops Q (o :: rest) a w := by
  obtain ⟨i0, hi, hz0, hz1, hz2⟩ := info_parts info_ln
  refine wpListIn_append_own w hgd s x 56 ho base 61 i0 (.agg #[str [], .bool false]) 2 24 Tryz.underlying56 hi hz0 hz1 hz2 rfl (by decide) v xs.length (lnc xs) hs hown ⟨gb, 0, none⟩ 1 1 [str q, .bool r] hx rfl (World.news_of_block hnew) (by simp [Value.oneCell']) (by unfold maxLen; omega) (by omega) hbase ?_
  intro v' w' h1 h2 _
  refine h v' w' ?_ h2
  unfold OwnLn
  rw [List.length_append, lnc_snoc]
  exact h1
theorem LnIn.take {W : World} {A : Option Addr} {c n m : Nat} {xs : List (List UInt8 × Bool)} (h : LnIn W (.slice A n c) xs) (hn : n = xs.length) (hm : m ≤ xs.length) : LnIn W (.slice A m c) (xs.take m) := by
  subst hn
  obtain ⟨A', c', e, h⟩ := h
  injection e with e1 e2 e3
  subst e1 e3
  have hl : (xs.take m).length = m := by rw [List.length_take]; omega
  refine ⟨A, c, by rw [hl], fun k hk => ?_⟩
  obtain ⟨g, hg, h1, h2⟩ := h k (by omega)
  rw [List.getElem_take]
  exact ⟨g, hg, h1, h2⟩
theorem slice_hL (A : Option Addr) (n c k : Nat) (hk : k ≤ c) (w : World) : (Instr.slice 56 (.slice A n c) none (some (.int .i64 (k : Int))) none).run Tryz.prog w = .ok (.slice A k c) w := by
  rw [run_slice_h w 56 A n c Tryz.underlying56 .i64 k (by omega) (by omega)]
  by_cases h0 : c = 0 <;> simp [sliced, go_sem, h0]
theorem OwnLn.cap {W : World} {base : Nat} {v : Value} {xs : List (List UInt8 × Bool)} (h : OwnLn W base v xs) : ∃ A c, v = .slice A xs.length c ∧ xs.length ≤ c := by
  obtain ⟨h1, ⟨h2, h3⟩ | ⟨g, cap, cur, h0, hb, hg, h3⟩⟩ := id h
  · have hx : xs = [] := by
      first
        | exact List.eq_nil_of_length_eq_zero h3
        | exact List.eq_nil_of_length_eq_zero (by rw [lnc_len] at h1; omega)
    subst hx
    exact ⟨none, 0, h2, by simp⟩
  · exact ⟨_, cap, h0, h3.1⟩
theorem OwnLn.form {W : World} {base : Nat} {v : Value} {xs : List (List UInt8 × Bool)} (h : OwnLn W base v xs) : ∃ A c, v = .slice A xs.length c := by
  obtain ⟨h1, ⟨h2, h3⟩ | ⟨g, cap, cur, h0, hb, hg, h3⟩⟩ := id h
  · have hx : xs = [] := by
      first
        | exact List.eq_nil_of_length_eq_zero h3
        | exact List.eq_nil_of_length_eq_zero (by rw [lnc_len] at h1; omega)
    subst hx
    exact ⟨none, 0, h2⟩
  · exact ⟨_, cap, h0⟩
end Go.Proofs.YtajclihnoedecaaGreatDoor
