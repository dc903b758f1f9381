/- box's reference: rows of terms in memory; the steps that append to them. (By mktm.py out of RkA.) -/
import Derived.Test.YtlnjpmpddomjiaaGreatDoorGmMgA
import Derived.Test.YtlnjpmpddomjiaaGreatDoorGmReg
import Derived.Test.YtlnjpmpddomjiaaGreatDoorGmKc
import Derived.Laws.AppendOwnNone
import Derived.Deep.AppendLies
import Derived.Lib.SliceRun
import Derived.Lib.Hide
import Derived.Deep.RegionLaw
import Derived.OwnWalk
import Derived.Deep.QuietTactic
import Derived.BigQuiet
import Derived.StillTailTactics
set_option maxRecDepth 100000
namespace Go.Proofs.YtlnjpmpddomjiaaGreatDoor
open Go.RowKit
attribute [local go_sem] Oper.semAt_some
abbrev tTm : TypeId := 41
abbrev tTms : TypeId := 28
/-- A term of the reference: kind, where its key and its text lie, rounds, where its list and its mask lie. -/
structure TmL where
  kind : Int
  KA : Option Addr
  km : Nat
  kc : Nat
  TA : Option Addr
  tm : Nat
  tc : Nat
  rounds : Int
  LA : Option Addr
  lm : Nat
  lc : Nat
  MA : Option Addr
  mm : Nat
  mc : Nat
def TmL.cells (k : TmL) : List Value := [.int .i64 k.kind, .slice k.KA k.km k.kc, .slice k.TA k.tm k.tc, .int .i64 k.rounds, .slice k.LA k.lm k.lc, .slice k.MA k.mm k.mc]
def tmA (k : TmL) : Value := .agg #[.int .i64 k.kind, .slice k.KA k.km k.kc, .slice k.TA k.tm k.tc, .int .i64 k.rounds, .slice k.LA k.lm k.lc, .slice k.MA k.mm k.mc]
abbrev ztm : Value := .agg #[.int .i64 0, .slice none 0 0, .slice none 0 0, .int .i64 0, .slice none 0 0, .slice none 0 0]
theorem info_tm : (Tryz.prog.info? tTm).map (fun i => (i.zero, i.size, i.bytes)) = some (some ztm, 6, 112) := by kernel_rfl
/-- The cells of terms. -/
def tms (xs : List TmL) : List Value := xs.flatMap TmL.cells
theorem tms_snoc (xs : List TmL) (x : TmL) : tms (xs ++ [x]) = tms xs ++ TmL.cells x := by unfold tms; simp
theorem tms_app (xs ys : List TmL) : tms (xs ++ ys) = tms xs ++ tms ys := by unfold tms; simp
theorem tms_len (xs : List TmL) : (tms xs).length = 6 * xs.length := by
  induction xs with
  | nil => rfl
  | cons x t ih => show (TmL.cells x ++ tms t).length = _; rw [List.length_append, ih, List.length_cons]; show 6 + _ = _; omega
theorem tms_at : ∀ (xs : List TmL) (k : Nat) (hk : k < xs.length) (i : Nat), i < 6 → (tms xs)[k * 6 + i]? = (TmL.cells (xs[k]'hk))[i]?
  | [], k, hk, _, _ => by simp at hk
  | x :: t, 0, hk, i, hi => by
    show (TmL.cells x ++ tms t)[0 * 6 + i]? = _
    rw [List.getElem?_append_left (by show 0 * 6 + i < 6; omega)]
    simp
  | x :: t, k + 1, hk, i, hi => by
    have ih := tms_at t k (by simpa using hk) i hi
    show (TmL.cells x ++ tms t)[(k + 1) * 6 + i]? = _
    rw [List.getElem?_append_right (by show 6 ≤ (k + 1) * 6 + i; omega), show (k + 1) * 6 + i - (TmL.cells x).length = k * 6 + i by show (k + 1) * 6 + i - 6 = _; omega]
    exact ih
theorem tms_one (xs : List TmL) : ∀ u ∈ tms xs, u.oneCell' = true := by
  intro u hu
  unfold tms at hu
  rw [List.mem_flatMap] at hu
  obtain ⟨x, _, hx⟩ := hu
  unfold TmL.cells at hx
  simp only [List.mem_cons, List.not_mem_nil, or_false] at hx
  rcases hx with rfl | rfl | rfl | rfl | rfl | rfl <;> rfl
/-- A row of terms (of type t) of the call's own. -/
def OwnM (t : TypeId) (w : World) (base : Nat) (v : Value) (xs : List TmL) : Prop := w.ownsRow base t 6 v xs.length (tms xs)
section
variable {t : TypeId} {w w' : World} {base base' : Nat} {v : Value} {xs : List TmL}
theorem OwnM.nil (t : TypeId) (w : World) (base : Nat) : OwnM t w base (.slice none 0 0) [] := World.ownsRow_nil w base _ 6
theorem OwnM.below (h : OwnM t w base v xs) (hb : Below w.heap.size w w') : OwnM t w' base v xs :=
  World.ownsRow.kept h (grown_of_below hb none) (by by_cases e : v.ownBlock = none; exact .inl e; exact .inr e)
theorem OwnM.form (h : OwnM t w base v xs) : ∃ A c, v = .slice A xs.length c ∧ xs.length ≤ c ∧ c ≤ 9223372036854775807 := by
  obtain ⟨h1, ⟨h2, h3⟩ | ⟨g, cap, cur, h0, hb, hg, hc, hm, h4⟩⟩ := id h
  · have hx : xs = [] := List.eq_nil_of_length_eq_zero h3
    subst hx
    exact ⟨none, 0, h2, by simp, by omega⟩
  · exact ⟨_, cap, h0, hc, by unfold maxLen at hm; omega⟩
theorem OwnM.le (h : OwnM t w base v xs) (hb : base' ≤ base) : OwnM t w base' v xs := by
  obtain ⟨h1, h2 | ⟨g, cap, cur, h0, hbg, hg, h3⟩⟩ := h
  · exact ⟨h1, .inl h2⟩
  · exact ⟨h1, .inr ⟨g, cap, cur, h0, by omega, hg, h3⟩⟩
theorem OwnM.lt (h : OwnM t w base v xs) : ∀ k, v.ownBlock = some k → base ≤ k ∧ k < w.heap.size := World.ownsRow.lt h
theorem OwnM.set {b i : Nat} (h : OwnM t w base v xs) (hb : b < base) (u : Value) : OwnM t (w.setCell ⟨b, i, none⟩ u) base v xs :=
  World.ownsRow.kept h (grown_set w ⟨b, i, none⟩ u) (.inr (fun e => by have := (h.lt b e).1; omega))
end
/-- Terms that lie in memory, below block B. -/
def TmIn (W : World) (B : Nat) (v : Value) (xs : List TmL) : Prop :=
  ∃ A c, v = .slice A xs.length c ∧ xs.length ≤ c ∧ (c ≤ 9223372036854775807 ∧ (A = none → c = 0)) ∧ (0 < xs.length → ∃ g o, A = some ⟨g, o, none⟩ ∧ g < B ∧ ∀ k (hk : k < xs.length) i, i < 6 → W.cell? ⟨g, o + k * 6 + i, none⟩ = (TmL.cells (xs[k]'hk))[i]?)
theorem OwnM.tmIn {t : TypeId} {W : World} {base : Nat} {v : Value} {xs : List TmL} (h : OwnM t W base v xs) : TmIn W W.heap.size v xs := by
  obtain ⟨h1, ⟨h2, h3⟩ | ⟨g, cap, cur, h0, hb, hg, hc, hm, h3⟩⟩ := id h
  · have hx : xs = [] := List.eq_nil_of_length_eq_zero h3
    subst hx
    exact ⟨none, 0, h2, by simp, ⟨by omega, fun _ => rfl⟩, fun h => by simp at h⟩
  · refine ⟨_, cap, h0, hc, ⟨by unfold maxLen at hm; omega, fun e => by cases e⟩, fun _ => ⟨g, 0, rfl, (Array.getElem?_eq_some_iff.1 hg).1, fun k hk i hi => ?_⟩⟩
    have hat := tms_at xs k hk i hi
    have hsome : (TmL.cells xs[k])[i]? = some ((TmL.cells xs[k])[i]'hi) := List.getElem?_eq_getElem hi
    rw [hsome] at hat ⊢
    have := World.ownsRow.cells h (g := g) (by rw [h0]; rfl) (k * 6 + i) _ hat
    rw [Addr.add_lit] at this
    rw [Nat.zero_add]
    simpa using this
theorem TmIn.below {W W' : World} {B B' : Nat} {v : Value} {xs : List TmL} (h : TmIn W B v xs) (hb : Below B' W W') (hB : B ≤ B') : TmIn W' B v xs := by
  obtain ⟨A, c, e, h1, h2, h⟩ := h
  refine ⟨A, c, e, h1, h2, fun hl => ?_⟩
  obtain ⟨g, o, hg, hlt, h3⟩ := h hl
  exact ⟨g, o, hg, hlt, fun k hk i hi => (hb.cell (p := ⟨g, o + k * 6 + i, none⟩) (by show g < B'; omega)).trans (h3 k hk i hi)⟩
theorem TmIn.more {W : World} {B B' : Nat} {v : Value} {xs : List TmL} (h : TmIn W B v xs) (hB : B ≤ B') : TmIn W B' v xs := by
  obtain ⟨A, c, e, h1, h2, h⟩ := h
  refine ⟨A, c, e, h1, h2, fun hl => ?_⟩
  obtain ⟨g, o, hg, hlt, h3⟩ := h hl
  exact ⟨g, o, hg, by omega, h3⟩
/-- The six cells of one of them. -/
theorem TmIn.six {W : World} {B : Nat} {A : Option Addr} {n c : Nat} {xs : List TmL} (h : TmIn W B (.slice A n c) xs) (k : Nat) (hk : k < xs.length) :
    ∃ g o, A = some ⟨g, o, none⟩ ∧ g < B ∧ W.cell? ⟨g, o + k * 6, none⟩ = some (.int .i64 xs[k].kind) ∧ W.cell? ⟨g, o + k * 6 + 1, none⟩ = some (.slice xs[k].KA xs[k].km xs[k].kc) ∧ W.cell? ⟨g, o + k * 6 + 2, none⟩ = some (.slice xs[k].TA xs[k].tm xs[k].tc) ∧
      W.cell? ⟨g, o + k * 6 + 3, none⟩ = some (.int .i64 xs[k].rounds) ∧ W.cell? ⟨g, o + k * 6 + 4, none⟩ = some (.slice xs[k].LA xs[k].lm xs[k].lc) ∧ W.cell? ⟨g, o + k * 6 + 5, none⟩ = some (.slice xs[k].MA xs[k].mm xs[k].mc) := by
  obtain ⟨A', c', e, _, _, h⟩ := h
  obtain ⟨g, o, hg, hlt, h3⟩ := h (by omega)
  injection e with e1 e2 e3
  subst e1
  exact ⟨g, o, hg, hlt, h3 k hk 0 (by omega), h3 k hk 1 (by omega), h3 k hk 2 (by omega), h3 k hk 3 (by omega), h3 k hk 4 (by omega), h3 k hk 5 (by omega)⟩
theorem TmIn.cells {W : World} {B : Nat} {g o c : Nat} {xs : List TmL} (h : TmIn W B (.slice (some ⟨g, o, none⟩) xs.length c) xs) : ∀ j u, (tms xs)[j]? = some u → W.cell? ⟨g, o + j, none⟩ = some u := by
  obtain ⟨A', c', e, _, _, h⟩ := h
  intro j u hu
  have hj : j < (tms xs).length := by
    rcases Nat.lt_or_ge j (tms xs).length with h | h
    · exact h
    · rw [List.getElem?_eq_none h] at hu; cases hu
  rw [tms_len] at hj
  obtain ⟨g', o', hg, hlt, h3⟩ := h (by omega)
  injection e with e1 e2 e3
  subst e1
  cases hg
  have h4 := h3 (j / 6) (by omega) (j % 6) (by omega)
  have h5 := tms_at xs (j / 6) (by omega) (j % 6) (by omega)
  rw [← h5, Nat.add_assoc, show j / 6 * 6 + j % 6 = j by omega, hu] at h4
  exact h4
theorem OwnM.belowBase {t : TypeId} {w w' : World} {base : Nat} {v : Value} {xs : List TmL} (h : OwnM t w base v xs) (hg : w.grownBy w' v.ownBlock) (hb : base ≤ w.heap.size) : Below base w w' :=
  (Below.refl _ _).grown hg hb (fun k hk => (h.lt k hk).1)
theorem OwnM.kept {t : TypeId} {w w' : World} {base : Nat} {v : Value} {xs : List TmL} {row : Option Nat} (h : OwnM t w base v xs) (hg : w.grownBy w' row) (hne : v.ownBlock = none ∨ v.ownBlock ≠ row) : OwnM t w' base v xs := World.ownsRow.kept h hg hne
theorem OwnM.trs {t : TypeId} {S : List Nat} {w w' : World} {base : Nat} {v : Value} {l : List TmL} (h : OwnM t w base v l) (ht : Trs S w w') (hb : ∀ k, v.ownBlock = some k → k ∉ S) : OwnM t w' base v l := by
  obtain ⟨h1, h2 | ⟨g, cap, cur, rfl, hb', hg, h3⟩⟩ := h
  · exact ⟨h1, .inl h2⟩
  · exact ⟨h1, .inr ⟨g, cap, cur, rfl, hb', (ht.block g (Array.getElem?_eq_some_iff.1 hg).1 (hb g rfl)).trans hg, h3⟩⟩
theorem OwnM.empty (t : TypeId) (w : World) : OwnM t (w.alloc (.cells #[] t)) w.heap.size (.slice (some ⟨w.heap.size, 0, none⟩) 0 0) [] :=
  ⟨by simp [tms], .inr ⟨w.heap.size, 0, #[], rfl, Nat.le_refl _, heap_alloc_new w _, by simp, by unfold maxLen; omega, by simp, by simp [tms]⟩⟩
theorem news_tm {w : World} {gb : Nat} {q : TmL} {t : TypeId} (h : w.heap[gb]? = some (.cells q.cells.toArray t (0, 0))) : ∀ j u, q.cells[j]? = some u → w.cell? ((⟨gb, 0, none⟩ : Addr).add j) = some u := by
  intro j u hu
  rw [Addr.add_lit]
  simpa [World.cell?, h] using hu
theorem tmc_one (q : TmL) : ∀ u ∈ q.cells, u.oneCell' = true := by
  intro u hu
  unfold TmL.cells at hu
  simp only [List.mem_cons, List.not_mem_nil, or_false] at hu
  rcases hu with rfl | rfl | rfl | rfl | rfl | rfl <;> rfl
/-- A type of terms, and one of slices of them. -/
structure TmT (tS tE : TypeId) : Prop where
  u : Tryz.prog.underlying tS = some (.slice tE)
  i : (Tryz.prog.info? tE).map (fun i => (i.zero, i.size, i.bytes)) = some (some ztm, 6, 112)
theorem tmT : TmT tTms tTm := ⟨Tryz.underlying28, info_tm⟩
theorem TmIn.adds {W : World} {B : Nat} {A : Addr} {n c : Nat} {xs : List TmL} (h : TmIn W B (.slice (some A) n c) xs) : ∀ j u, (tms xs)[j]? = some u → W.cell? (A.add j) = some u := by
  intro j u hu
  have hj : j < (tms xs).length := by
    rcases Nat.lt_or_ge j (tms xs).length with h | h
    · exact h
    · rw [List.getElem?_eq_none h] at hu; cases hu
  rw [tms_len] at hj
  obtain ⟨A', c', e, _, _, h3⟩ := id h
  obtain ⟨g, o, hg, _, _⟩ := h3 (by omega)
  injection e with e1 e2 e3
  subst e1; subst e2
  cases hg
  rw [Addr.add_mid]
  exact h.cells j u hu
section
variable {w : World} {ops : Array Oper} {rest : List Oper} {o : Oper} {a : Act} {Q : Exit → Act → World → Prop} {K : Act → World → Prop} {F : Fence} {n : Nat} {i : Nat} {tS tE : TypeId}
/-- append(row, terms...). -/
theorem wpList_app_tms (hT : TmT tS tE) (hgd : o.guard = none) (s x : Operand) (ho : o.op = .call { callee := .builtin .append, args := #[s, x], argTypes := #[tS, tS] })
    (base : Nat) (v : Value) (l ms : List TmL) (hs : a.eval s = v) (hown : OwnM tE w base v l) (B : Nat) (vx : Value) (hx : a.eval x = vx) (hsrc : TmIn w B vx ms) (hlen : l.length + ms.length ≤ 100000) (hbase : base ≤ w.heap.size)
    (h : ∀ v' w', OwnM tE w' base v' (l ++ ms) → w.grownBy w' v.ownBlock → (v'.ownBlock = v.ownBlock ∨ v'.ownBlock = some w.heap.size) → wpList Tryz.prog ops Q rest (a.put o.dst v') w') : wpList Tryz.prog ops Q (o :: rest) a w := by
  obtain ⟨i0, hi, hz0, hz1, hz2⟩ := info_parts hT.i
  obtain ⟨A, c, rfl, h1, h2, h3⟩ := id hsrc
  cases A with
  | none =>
    obtain rfl : ms = [] := by
      cases ms with
      | nil => rfl
      | cons y t => obtain ⟨g, o, e, _⟩ := h3 (by simp); cases e
    obtain rfl := h2.2 rfl
    exact wpList_append_own_none hgd s x tS ho base tE i0 6 hT.u hi v l.length (tms l) hs hown hx (h v w (by simpa using hown) (World.grownBy.refl w _) (.inl rfl))
  | some ad =>
    refine wpList_append_own_at w hgd s x tS ho base tE i0 _ 6 112 hT.u hi hz0 hz1 hz2 rfl (by decide) v l.length (tms l) hs hown ad ms.length c (tms ms) hx (by rw [tms_len]; omega) hsrc.adds (tms_one ms) (by unfold maxLen; omega) (by omega) hbase ?_
    intro v' w' g1 g2 _ g4
    refine h v' w' ?_ g2 g4
    unfold OwnM
    rw [List.length_append, tms_app]
    exact g1
/-- append(row, one term). -/
theorem wpList_app_tm (hT : TmT tS tE) (hgd : o.guard = none) (s x : Operand) (ho : o.op = .call { callee := .builtin .append, args := #[s, x], argTypes := #[tS, tS] })
    (base : Nat) (v : Value) (l : List TmL) (q : TmL) (hs : a.eval s = v) (hown : OwnM tE w base v l) (g : Nat) (hx : a.eval x = .slice (some ⟨g, 0, none⟩) 1 1)
    (hg : w.heap[g]? = some (.cells q.cells.toArray tE (0, 0))) (hlen : l.length ≤ 100000) (hbase : base ≤ w.heap.size)
    (h : ∀ v' w', OwnM tE w' base v' (l ++ [q]) → w.grownBy w' v.ownBlock → (v'.ownBlock = v.ownBlock ∨ v'.ownBlock = some w.heap.size) → wpList Tryz.prog ops Q rest (a.put o.dst v') w') : wpList Tryz.prog ops Q (o :: rest) a w := by
  obtain ⟨i0, hi, hz0, hz1, hz2⟩ := info_parts hT.i
  refine wpList_append_own_at w hgd s x tS ho base tE i0 _ 6 112 hT.u hi hz0 hz1 hz2 rfl (by decide) v l.length (tms l) hs hown ⟨g, 0, none⟩ 1 1 q.cells hx rfl (news_tm hg) (tmc_one q) (by unfold maxLen; omega) (by omega) hbase ?_
  intro v' w' g1 g2 _ g4
  refine h v' w' ?_ g2 g4
  unfold OwnM
  rw [List.length_append, tms_snoc]
  exact g1
theorem wpListIn_app_tm (hT : TmT tS tE) (hgd : o.guard = none) (s x : Operand) (ho : o.op = .call { callee := .builtin .append, args := #[s, x], argTypes := #[tS, tS] })
    (base : Nat) (v : Value) (l : List TmL) (q : TmL) (hs : a.eval s = v) (hown : OwnM tE w base v l) (g : Nat) (hx : a.eval x = .slice (some ⟨g, 0, none⟩) 1 1)
    (hg : w.heap[g]? = some (.cells q.cells.toArray tE (0, 0))) (hlen : l.length ≤ 100000) (hbase : base ≤ w.heap.size)
    (h : ∀ v' w', OwnM tE w' base v' (l ++ [q]) → w.grownBy w' v.ownBlock → (v'.ownBlock = v.ownBlock ∨ v'.ownBlock = some w.heap.size) → wpListIn F n Tryz.prog ops Q rest (a.put o.dst v') w') : wpListIn F n Tryz.prog ops Q (o :: rest) a w := by
  obtain ⟨i0, hi, hz0, hz1, hz2⟩ := info_parts hT.i
  refine wpListIn_append_own_at w hgd s x tS ho base tE i0 _ 6 112 hT.u hi hz0 hz1 hz2 rfl (by decide) v l.length (tms l) hs hown ⟨g, 0, none⟩ 1 1 q.cells hx rfl (news_tm hg) (tmc_one q) (by unfold maxLen; omega) (by omega) hbase ?_
  intro v' w' g1 g2 _ g4
  refine h v' w' ?_ g2 g4
  unfold OwnM
  rw [List.length_append, tms_snoc]
  exact g1
end
end Go.Proofs.YtlnjpmpddomjiaaGreatDoor
