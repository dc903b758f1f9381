/- Rules in memory: rows of them, the call's own or others. -/
import Derived.Test.YthpkmdojeegleaaGreatDoorDecW
import Derived.Test.YthpkmdojeegleaaGreatDoorOwnT
import Derived.Test.YthpkmdojeegleaaGreatDoorRuLs
import Derived.Test.YthpkmdojeegleaaGreatDoorRangeOw
import Derived.Deep.AppendLies
namespace Go.Proofs.YthpkmdojeegleaaGreatDoor
open Go.RowKit Go.Shelf
attribute [local go_sem] Oper.semAt_some
/-- A rule's cells, and the cells of rules. -/
def rcl (r : RuL) : List Value := [.bool r.allow, str r.role, str r.ten, str r.host, .int .i64 r.frm, .int .i64 r.til]
def rcs (xs : List RuL) : List Value := xs.flatMap rcl
abbrev zagg : Value := .agg #[.bool false, str [], str [], str [], .int .i64 0, .int .i64 0]
abbrev ragg (r : RuL) : Value := .agg #[.bool r.allow, str r.role, str r.ten, str r.host, .int .i64 r.frm, .int .i64 r.til]
theorem info_ru : (Tryz.prog.info? 41).map (fun i => (i.zero, i.size, i.bytes)) = some (some zagg, 6, 72) := by kernel_rfl
theorem info_rr : (Tryz.prog.info? 33).map (fun i => (i.zero, i.size, i.bytes)) = some (some zagg, 6, 72) := by kernel_rfl
theorem rcs_snoc (xs : List RuL) (x : RuL) : rcs (xs ++ [x]) = rcs xs ++ rcl x := by unfold rcs; simp
theorem rcs_len (xs : List RuL) : (rcs xs).length = 6 * xs.length := by
  induction xs with
  | nil => rfl
  | cons x t ih => show (rcl x ++ rcs t).length = _; rw [List.length_append, ih, List.length_cons]; show 6 + _ = _; omega
theorem rcs_at : ∀ (xs : List RuL) (k : Nat) (hk : k < xs.length) (i : Nat), i < 6 → (rcs xs)[k * 6 + i]? = (rcl (xs[k]'hk))[i]?
  | [], k, hk, _, _ => by simp at hk
  | x :: t, 0, hk, i, hi => by
    show (rcl x ++ rcs t)[0 * 6 + i]? = _
    rw [List.getElem?_append_left (by show 0 * 6 + i < 6; omega)]
    simp
  | x :: t, k + 1, hk, i, hi => by
    have ih := rcs_at t k (by simpa using hk) i hi
    show (rcl x ++ rcs t)[(k + 1) * 6 + i]? = _
    rw [List.getElem?_append_right (by show 6 ≤ (k + 1) * 6 + i; omega), show (k + 1) * 6 + i - (rcl x).length = k * 6 + i by show (k + 1) * 6 + i - 6 = _; omega]
    exact ih
theorem rcs_one (xs : List RuL) : ∀ u ∈ rcs xs, u.oneCell' = true := by
  intro u hu
  unfold rcs at hu
  rw [List.mem_flatMap] at hu
  obtain ⟨x, _, hx⟩ := hu
  unfold rcl at hx
  simp only [List.mem_cons, List.not_mem_nil, or_false] at hx
  rcases hx with rfl | rfl | rfl | rfl | rfl | rfl <;> rfl
/-- A row of rules (of type t) of the call's own. -/
def OwnR (t : TypeId) (w : World) (base : Nat) (v : Value) (xs : List RuL) : Prop := w.ownsRow base t 6 v xs.length (rcs xs)
section
variable {t : TypeId} {w w' : World} {base base' : Nat} {v : Value} {xs : List RuL}
theorem OwnR.nil (t : TypeId) (w : World) (base : Nat) : OwnR t w base (.slice none 0 0) [] := World.ownsRow_nil w base _ 6
theorem OwnR.below (h : OwnR t w base v xs) (hb : Below w.heap.size w w') : OwnR t w' base v xs :=
  World.ownsRow.kept h (grown_of_below hb none) (by by_cases e : v.ownBlock = none; exact .inl e; exact .inr e)
theorem OwnR.form (h : OwnR t w base v xs) : ∃ A c, v = .slice A xs.length c ∧ xs.length ≤ c ∧ c ≤ 9223372036854775807 := by
  obtain ⟨h1, ⟨h2, h3⟩ | ⟨g, cap, cur, h0, hb, hg, hc, hm, h4⟩⟩ := id h
  · have hx : xs = [] := List.eq_nil_of_length_eq_zero h3
    subst hx
    exact ⟨none, 0, h2, by simp, by omega⟩
  · exact ⟨_, cap, h0, hc, by unfold maxLen at hm; omega⟩
theorem OwnR.le (h : OwnR t w base v xs) (hb : base' ≤ base) : OwnR t w base' v xs := by
  obtain ⟨h1, h2 | ⟨g, cap, cur, h0, hbg, hg, h3⟩⟩ := h
  · exact ⟨h1, .inl h2⟩
  · exact ⟨h1, .inr ⟨g, cap, cur, h0, by omega, hg, h3⟩⟩
theorem OwnR.lt (h : OwnR t w base v xs) : ∀ k, v.ownBlock = some k → base ≤ k ∧ k < w.heap.size := World.ownsRow.lt h
theorem OwnR.set {b i : Nat} (h : OwnR t w base v xs) (hb : b < base) (u : Value) : OwnR t (w.setCell ⟨b, i, none⟩ u) base v xs :=
  World.ownsRow.kept h (grown_set w ⟨b, i, none⟩ u) (.inr (fun e => by have := (h.lt b e).1; omega))
end
/-- Rules that lie in memory, below block B. -/
def RlIn (W : World) (B : Nat) (v : Value) (xs : List RuL) : Prop :=
  ∃ A c, v = .slice A xs.length c ∧ xs.length ≤ c ∧ c ≤ 9223372036854775807 ∧ (0 < xs.length → ∃ g o, A = some ⟨g, o, none⟩ ∧ g < B ∧ ∀ k (hk : k < xs.length) i, i < 6 → W.cell? ⟨g, o + k * 6 + i, none⟩ = (rcl (xs[k]'hk))[i]?)
theorem OwnR.rlIn {t : TypeId} {W : World} {base : Nat} {v : Value} {xs : List RuL} (h : OwnR t W base v xs) : RlIn W W.heap.size v xs := by
  obtain ⟨h1, ⟨h2, h3⟩ | ⟨g, cap, cur, h0, hb, hg, hc, hm, h3⟩⟩ := id h
  · have hx : xs = [] := List.eq_nil_of_length_eq_zero h3
    subst hx
    exact ⟨none, 0, h2, by simp, by omega, fun h => by simp at h⟩
  · refine ⟨_, cap, h0, hc, by unfold maxLen at hm; omega, fun _ => ⟨g, 0, rfl, (Array.getElem?_eq_some_iff.1 hg).1, fun k hk i hi => ?_⟩⟩
    have hat := rcs_at xs k hk i hi
    have hsome : (rcl xs[k])[i]? = some ((rcl xs[k])[i]'hi) := List.getElem?_eq_getElem hi
    rw [hsome] at hat ⊢
    have := World.ownsRow.cells h (g := g) (by rw [h0]; rfl) (k * 6 + i) _ hat
    rw [Addr.add_lit] at this
    rw [Nat.zero_add]
    simpa using this
theorem RlIn.below {W W' : World} {B B' : Nat} {v : Value} {xs : List RuL} (h : RlIn W B v xs) (hb : Below B' W W') (hB : B ≤ B') : RlIn W' B v xs := by
  obtain ⟨A, c, e, h1, h2, h⟩ := h
  refine ⟨A, c, e, h1, h2, fun hl => ?_⟩
  obtain ⟨g, o, hg, hlt, h3⟩ := h hl
  exact ⟨g, o, hg, hlt, fun k hk i hi => (hb.cell (p := ⟨g, o + k * 6 + i, none⟩) (by show g < B'; omega)).trans (h3 k hk i hi)⟩
theorem RlIn.more {W : World} {B B' : Nat} {v : Value} {xs : List RuL} (h : RlIn W B v xs) (hB : B ≤ B') : RlIn W B' v xs := by
  obtain ⟨A, c, e, h1, h2, h⟩ := h
  refine ⟨A, c, e, h1, h2, fun hl => ?_⟩
  obtain ⟨g, o, hg, hlt, h3⟩ := h hl
  exact ⟨g, o, hg, by omega, h3⟩
/-- The six cells of one of them. -/
theorem RlIn.six {W : World} {B : Nat} {A : Option Addr} {n c : Nat} {xs : List RuL} (h : RlIn W B (.slice A n c) xs) (k : Nat) (hk : k < xs.length) :
    ∃ g o, A = some ⟨g, o, none⟩ ∧ g < B ∧ W.cell? ⟨g, o + k * 6, none⟩ = some (.bool xs[k].allow) ∧ W.cell? ⟨g, o + k * 6 + 1, none⟩ = some (str xs[k].role) ∧ W.cell? ⟨g, o + k * 6 + 2, none⟩ = some (str xs[k].ten) ∧
      W.cell? ⟨g, o + k * 6 + 3, none⟩ = some (str xs[k].host) ∧ W.cell? ⟨g, o + k * 6 + 4, none⟩ = some (.int .i64 xs[k].frm) ∧ W.cell? ⟨g, o + k * 6 + 5, none⟩ = some (.int .i64 xs[k].til) := by
  obtain ⟨A', c', e, _, _, h⟩ := h
  obtain ⟨g, o, hg, hlt, h3⟩ := h (by omega)
  injection e with e1 e2 e3
  subst e1
  exact ⟨g, o, hg, hlt, h3 k hk 0 (by omega), h3 k hk 1 (by omega), h3 k hk 2 (by omega), h3 k hk 3 (by omega), h3 k hk 4 (by omega), h3 k hk 5 (by omega)⟩
theorem RlIn.cells {W : World} {B : Nat} {g o c : Nat} {xs : List RuL} (h : RlIn W B (.slice (some ⟨g, o, none⟩) xs.length c) xs) : ∀ j u, (rcs xs)[j]? = some u → W.cell? ⟨g, o + j, none⟩ = some u := by
  obtain ⟨A', c', e, _, _, h⟩ := h
  intro j u hu
  have hj : j < (rcs xs).length := by
    rcases Nat.lt_or_ge j (rcs xs).length with h | h
    · exact h
    · rw [List.getElem?_eq_none h] at hu; cases hu
  rw [rcs_len] at hj
  obtain ⟨g', o', hg, hlt, h3⟩ := h (by omega)
  injection e with e1 e2 e3
  subst e1
  cases hg
  have h4 := h3 (j / 6) (by omega) (j % 6) (by omega)
  have h5 := rcs_at xs (j / 6) (by omega) (j % 6) (by omega)
  rw [← h5, Nat.add_assoc, show j / 6 * 6 + j % 6 = j by omega, hu] at h4
  exact h4
end Go.Proofs.YthpkmdojeegleaaGreatDoor
