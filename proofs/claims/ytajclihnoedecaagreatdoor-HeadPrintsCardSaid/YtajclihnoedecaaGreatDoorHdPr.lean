/- Rows of pairs of texts of the call's own; what the closure of ParseRequest does. -/
import Derived.Test.YtajclihnoedecaaGreatDoorHdSize
import Derived.Test.YtajclihnoedecaaGreatDoorOwnT
import Derived.Test.YtajclihnoedecaaGreatDoorRangeOw
import Derived.Deep.AppendLies
namespace Go.Proofs.YtajclihnoedecaaGreatDoor
open Go.RowKit Go.Shelf
attribute [local go_sem] Oper.semAt_some
theorem info_pr : (Tryz.prog.info? 51).map (fun i => (i.zero, i.size, i.bytes)) = some (some (.agg #[str [], str []]), 2, 32) := by kernel_rfl
/-- The cells of pairs. -/
def prc (xs : List (List UInt8 × List UInt8)) : List Value := xs.flatMap fun x => [str x.1, str x.2]
theorem prc_snoc (xs : List (List UInt8 × List UInt8)) (x : List UInt8 × List UInt8) : prc (xs ++ [x]) = prc xs ++ [str x.1, str x.2] := by unfold prc; simp
theorem prc_len (xs : List (List UInt8 × List UInt8)) : (prc xs).length = 2 * xs.length := by
  induction xs with
  | nil => rfl
  | cons x t ih => show (_ :: _ :: prc t).length = _; rw [List.length_cons, List.length_cons, ih, List.length_cons]; omega
/-- A row of pairs of the call's own. -/
def OwnP (w : World) (base : Nat) (v : Value) (xs : List (List UInt8 × List UInt8)) : Prop := w.ownsRow base 51 2 v xs.length (prc xs)
theorem OwnP.below {w w' : World} {base : Nat} {v : Value} {xs : List (List UInt8 × List UInt8)} (h : OwnP w base v xs) (hb : Below w.heap.size w w') : OwnP w' base v xs :=
  World.ownsRow.kept h (grown_of_below hb none) (by by_cases e : v.ownBlock = none; exact .inl e; exact .inr e)
theorem OwnP.form {W : World} {base : Nat} {v : Value} {xs : List (List UInt8 × List UInt8)} (h : OwnP W base v xs) : ∃ A c, v = .slice A xs.length c := by
  obtain ⟨h1, ⟨h2, h3⟩ | ⟨g, cap, cur, h0, hb, hg, h3⟩⟩ := id h
  · have hx : xs = [] := List.eq_nil_of_length_eq_zero h3
    subst hx
    exact ⟨none, 0, h2⟩
  · exact ⟨_, cap, h0⟩
theorem wpListIn_appP {F : Fence} {n : Nat} {w : World} {ops : Array Oper} {rest : List Oper} {o : Oper} {a : Act} {Q : Exit → Act → World → Prop} (hgd : o.guard = none) (s x : Operand) (ho : o.op = .call { callee := .builtin .append, args := #[s, x], argTypes := #[27, 27] })
    (base : Nat) (v : Value) (xs : List (List UInt8 × List UInt8)) (hs : a.eval s = v) (hown : OwnP w base v xs) (gb : Nat) (q r : List UInt8) (hx : a.eval x = .slice (some ⟨gb, 0, none⟩) 1 1)
    (hnew : w.heap[gb]? = some (.cells #[str q, str r] 51 (0, 0))) (hn : xs.length ≤ 100000) (hbase : base ≤ w.heap.size)
    (h : ∀ v' w', OwnP w' base v' (xs ++ [(q, r)]) → w.grownBy w' v.ownBlock → wpListIn F n Tryz.prog ops Q rest (a.put o.dst v') w') : wpListIn F n Tryz.prog ops Q (o :: rest) a w := by
  obtain ⟨i0, hi, hz0, hz1, hz2⟩ := info_parts info_pr
  refine wpListIn_append_own w hgd s x 27 ho base 51 i0 (.agg #[str [], str []]) 2 32 Tryz.underlying27 hi hz0 hz1 hz2 rfl (by decide) v xs.length (prc xs) hs hown ⟨gb, 0, none⟩ 1 1 [str q, str r] hx rfl (World.news_of_block hnew) (by simp [Value.oneCell']) (by unfold maxLen; omega) (by omega) hbase ?_
  intro v' w' h1 h2 _
  refine h v' w' ?_ h2
  unfold OwnP
  rw [List.length_append, prc_snoc]
  exact h1
theorem wpListIn_appT {F : Fence} {n : Nat} {w : World} {ops : Array Oper} {rest : List Oper} {o : Oper} {a : Act} {Q : Exit → Act → World → Prop} (hgd : o.guard = none) (s x : Operand) (ho : o.op = .call { callee := .builtin .append, args := #[s, x], argTypes := #[82, 82] })
    (base : Nat) (v : Value) (l : List (List UInt8)) (y : List UInt8) (hs : a.eval s = v) (hown : OwnT w base v l) (gb : Nat) (hx : a.eval x = .slice (some ⟨gb, 0, none⟩) 1 1)
    (hnew : w.heap[gb]? = some (.cells #[str y] 9 (0, 0))) (hn : l.length ≤ 100000) (hbase : base ≤ w.heap.size)
    (h : ∀ v' w', OwnT w' base v' (l ++ [y]) → w.grownBy w' v.ownBlock → wpListIn F n Tryz.prog ops Q rest (a.put o.dst v') w') : wpListIn F n Tryz.prog ops Q (o :: rest) a w := by
  obtain ⟨i0, hi, hz0, hz1, hz2⟩ := info_parts info_s
  refine wpListIn_append_own w hgd s x 82 ho base 9 i0 (str []) 1 16 Tryz.underlying82 hi hz0 hz1 hz2 rfl (by decide) v l.length (l.map str) hs hown ⟨gb, 0, none⟩ 1 1 [str y] hx rfl (World.news_of_block hnew) (by simp [Value.oneCell']) (by unfold maxLen; omega) (by omega) hbase ?_
  intro v' w' h1 h2 _
  refine h v' w' ?_ h2
  unfold OwnT
  rw [List.length_append, List.map_append]
  exact h1
theorem OwnT.slice {W : World} {base : Nat} {v : Value} {xs : List (List UInt8)} (h : OwnT W base v xs) : ∃ A c, v = .slice A xs.length c := by
  rcases h.form with ⟨h1, h2⟩ | ⟨g, cap, h1, -⟩
  · subst h2; exact ⟨none, 0, h1⟩
  · exact ⟨_, cap, h1⟩
/-- The closure of ParseRequest: it fills in the first two cells of its block. -/
theorem start_any (l : List UInt8) (r : Nat) (x y z : Value) (w : World) (hE : Env w) (hs : l.length ≤ 100000) (hk : Blk w r [x, y, z]) :
    Calls Tryz.prog 30 #[str l, .pointer (some ⟨r, 0, none⟩)] w fun e w' => e = .returned (.bool (reqT l).2.2) ∧ w.grownBy w' (some r) ∧ Blk w' r [str (reqT l).1, str (reqT l).2.1, z] := by
  have HC := Lib.hid (reqLine_any l w hE hs)
  obtain ⟨A, B, b, hc⟩ : ∃ A B b, reqT l = (A, B, b) := ⟨_, _, _, rfl⟩
  rw [hc] at HC ⊢
  have HK := Lib.hid hk
  clear hc hE hk
  go_enter Tryz.func30, Tryz.ntmps30
  go_wp2_with fail
  refine HC.out.mono ?_
  rintro e w1 ⟨rfl, hB⟩
  have hk1 := HK.out.below hB HK.out.lt
  have c0 := hk1.at (o := 0) rfl
  have c1 := hk1.at (o := 1) rfl
  have f0 := hk1.free 0
  have f1 := hk1.free 1
  have hlt := hk1.lt
  have HB := Lib.hid hB; have HK1 := Lib.hid hk1; clear hB hk1 HC
  go_wp2_with fail
  go_ret
  exact ⟨rfl, ((grown_of_below HB.out (some r)).trans (grown_set _ ⟨r, 0, none⟩ _)).trans (grown_set _ ⟨r, 1, none⟩ _), (HK1.out.set 0 _).set 1 _⟩
end Go.Proofs.YtajclihnoedecaaGreatDoor
