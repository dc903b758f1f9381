/- box: entries as lists, and rows of them in memory (rule's rows turned by a script). -/
import Derived.Test.YtpfbpiegejbhkaaDoorSl
import Derived.Test.YtpfbpiegejbhkaaDoorReg
import Derived.Test.YtpfbpiegejbhkaaDoorBxTag
import Derived.Deep.AppendLies
import Derived.Maps.OwnSet
import Derived.Maps.Own
import Derived.DeepKeys3
set_option maxRecDepth 100000
namespace Go.Proofs.YtpfbpiegejbhkaaDoor
open Go.RowKit
attribute [local go_sem] Oper.semAt_some
/-- An entry of a symbolic box: kind, key, text, rounds, the numbers of its terms, mask. -/
structure EnL where
  kind : Int
  key : List UInt8
  text : List UInt8
  rounds : Int
  lst : List UInt8
  mask : List UInt8
/-- An entry's cells, and the cells of entries. -/
def ecl (e : EnL) : List Value := [.int .i64 e.kind, str e.key, str e.text, .int .i64 e.rounds, str e.lst, str e.mask]
def ecs (xs : List EnL) : List Value := xs.flatMap ecl
abbrev zent : Value := .agg #[.int .i64 0, str [], str [], .int .i64 0, str [], str []]
abbrev eagg (e : EnL) : Value := .agg #[.int .i64 e.kind, str e.key, str e.text, .int .i64 e.rounds, str e.lst, str e.mask]
theorem info_en : (Tryd.prog.info? 61).map (fun i => (i.zero, i.size, i.bytes)) = some (some zent, 6, 80) := by kernel_rfl
theorem ecs_snoc (xs : List EnL) (x : EnL) : ecs (xs ++ [x]) = ecs xs ++ ecl x := by unfold ecs; simp
theorem ecs_len (xs : List EnL) : (ecs xs).length = 6 * xs.length := by
  induction xs with
  | nil => rfl
  | cons x t ih => show (ecl x ++ ecs t).length = _; rw [List.length_append, ih, List.length_cons]; show 6 + _ = _; omega
theorem ecs_at : ∀ (xs : List EnL) (k : Nat) (hk : k < xs.length) (i : Nat), i < 6 → (ecs xs)[k * 6 + i]? = (ecl (xs[k]'hk))[i]?
  | [], k, hk, _, _ => by simp at hk
  | x :: t, 0, hk, i, hi => by
    show (ecl x ++ ecs t)[0 * 6 + i]? = _
    rw [List.getElem?_append_left (by show 0 * 6 + i < 6; omega)]
    simp
  | x :: t, k + 1, hk, i, hi => by
    have ih := ecs_at t k (by simpa using hk) i hi
    show (ecl x ++ ecs t)[(k + 1) * 6 + i]? = _
    rw [List.getElem?_append_right (by show 6 ≤ (k + 1) * 6 + i; omega), show (k + 1) * 6 + i - (ecl x).length = k * 6 + i by show (k + 1) * 6 + i - 6 = _; omega]
    exact ih
theorem ecs_one (xs : List EnL) : ∀ u ∈ ecs xs, u.oneCell' = true := by
  intro u hu
  unfold ecs at hu
  rw [List.mem_flatMap] at hu
  obtain ⟨x, _, hx⟩ := hu
  unfold ecl at hx
  simp only [List.mem_cons, List.not_mem_nil, or_false] at hx
  rcases hx with rfl | rfl | rfl | rfl | rfl | rfl <;> rfl
abbrev tEn : TypeId := 61
/-- A row of entries of the call's own. -/
def OwnE (w : World) (base : Nat) (v : Value) (xs : List EnL) : Prop := w.ownsRow base tEn 6 v xs.length (ecs xs)
section
variable {w w' : World} {base base' : Nat} {v : Value} {xs : List EnL}
theorem OwnE.nil (w : World) (base : Nat) : OwnE w base (.slice none 0 0) [] := World.ownsRow_nil w base _ 6
theorem OwnE.below (h : OwnE w base v xs) (hb : Below w.heap.size w w') : OwnE w' base v xs :=
  World.ownsRow.kept h (grown_of_below hb none) (by by_cases e : v.ownBlock = none; exact .inl e; exact .inr e)
theorem OwnE.form (h : OwnE w base v xs) : ∃ A c, v = .slice A xs.length c ∧ xs.length ≤ c ∧ c ≤ 9223372036854775807 := by
  obtain ⟨h1, ⟨h2, h3⟩ | ⟨g, cap, cur, h0, hb, hg, hc, hm, h4⟩⟩ := id h
  · have hx : xs = [] := List.eq_nil_of_length_eq_zero h3
    subst hx
    exact ⟨none, 0, h2, by simp, by omega⟩
  · exact ⟨_, cap, h0, hc, by unfold maxLen at hm; omega⟩
theorem OwnE.le (h : OwnE w base v xs) (hb : base' ≤ base) : OwnE w base' v xs := by
  obtain ⟨h1, h2 | ⟨g, cap, cur, h0, hbg, hg, h3⟩⟩ := h
  · exact ⟨h1, .inl h2⟩
  · exact ⟨h1, .inr ⟨g, cap, cur, h0, by omega, hg, h3⟩⟩
theorem OwnE.lt (h : OwnE w base v xs) : ∀ k, v.ownBlock = some k → base ≤ k ∧ k < w.heap.size := World.ownsRow.lt h
theorem OwnE.set {b i : Nat} (h : OwnE w base v xs) (hb : b < base) (u : Value) : OwnE (w.setCell ⟨b, i, none⟩ u) base v xs :=
  World.ownsRow.kept h (grown_set w ⟨b, i, none⟩ u) (.inr (fun e => by have := (h.lt b e).1; omega))
end
/-- Rules that lie in memory, below block B. -/
def ElIn (W : World) (B : Nat) (v : Value) (xs : List EnL) : Prop :=
  ∃ A c, v = .slice A xs.length c ∧ xs.length ≤ c ∧ c ≤ 9223372036854775807 ∧ (0 < xs.length → ∃ g o, A = some ⟨g, o, none⟩ ∧ g < B ∧ ∀ k (hk : k < xs.length) i, i < 6 → W.cell? ⟨g, o + k * 6 + i, none⟩ = (ecl (xs[k]'hk))[i]?)
theorem OwnE.elIn {W : World} {base : Nat} {v : Value} {xs : List EnL} (h : OwnE W base v xs) : ElIn W W.heap.size v xs := by
  obtain ⟨h1, ⟨h2, h3⟩ | ⟨g, cap, cur, h0, hb, hg, hc, hm, h3⟩⟩ := id h
  · have hx : xs = [] := List.eq_nil_of_length_eq_zero h3
    subst hx
    exact ⟨none, 0, h2, by simp, by omega, fun h => by simp at h⟩
  · refine ⟨_, cap, h0, hc, by unfold maxLen at hm; omega, fun _ => ⟨g, 0, rfl, (Array.getElem?_eq_some_iff.1 hg).1, fun k hk i hi => ?_⟩⟩
    have hat := ecs_at xs k hk i hi
    have hsome : (ecl xs[k])[i]? = some ((ecl xs[k])[i]'hi) := List.getElem?_eq_getElem hi
    rw [hsome] at hat ⊢
    have := World.ownsRow.cells h (g := g) (by rw [h0]; rfl) (k * 6 + i) _ hat
    rw [Addr.add_lit] at this
    rw [Nat.zero_add]
    simpa using this
theorem ElIn.below {W W' : World} {B B' : Nat} {v : Value} {xs : List EnL} (h : ElIn W B v xs) (hb : Below B' W W') (hB : B ≤ B') : ElIn W' B v xs := by
  obtain ⟨A, c, e, h1, h2, h⟩ := h
  refine ⟨A, c, e, h1, h2, fun hl => ?_⟩
  obtain ⟨g, o, hg, hlt, h3⟩ := h hl
  exact ⟨g, o, hg, hlt, fun k hk i hi => (hb.cell (p := ⟨g, o + k * 6 + i, none⟩) (by show g < B'; omega)).trans (h3 k hk i hi)⟩
theorem ElIn.more {W : World} {B B' : Nat} {v : Value} {xs : List EnL} (h : ElIn W B v xs) (hB : B ≤ B') : ElIn W B' v xs := by
  obtain ⟨A, c, e, h1, h2, h⟩ := h
  refine ⟨A, c, e, h1, h2, fun hl => ?_⟩
  obtain ⟨g, o, hg, hlt, h3⟩ := h hl
  exact ⟨g, o, hg, by omega, h3⟩
/-- The six cells of one of them. -/
theorem ElIn.six {W : World} {B : Nat} {A : Option Addr} {n c : Nat} {xs : List EnL} (h : ElIn W B (.slice A n c) xs) (k : Nat) (hk : k < xs.length) :
    ∃ g o, A = some ⟨g, o, none⟩ ∧ g < B ∧ W.cell? ⟨g, o + k * 6, none⟩ = some (.int .i64 xs[k].kind) ∧ W.cell? ⟨g, o + k * 6 + 1, none⟩ = some (str xs[k].key) ∧ W.cell? ⟨g, o + k * 6 + 2, none⟩ = some (str xs[k].text) ∧
      W.cell? ⟨g, o + k * 6 + 3, none⟩ = some (.int .i64 xs[k].rounds) ∧ W.cell? ⟨g, o + k * 6 + 4, none⟩ = some (str xs[k].lst) ∧ W.cell? ⟨g, o + k * 6 + 5, none⟩ = some (str xs[k].mask) := by
  obtain ⟨A', c', e, _, _, h⟩ := h
  obtain ⟨g, o, hg, hlt, h3⟩ := h (by omega)
  injection e with e1 e2 e3
  subst e1
  exact ⟨g, o, hg, hlt, h3 k hk 0 (by omega), h3 k hk 1 (by omega), h3 k hk 2 (by omega), h3 k hk 3 (by omega), h3 k hk 4 (by omega), h3 k hk 5 (by omega)⟩
theorem ElIn.cells {W : World} {B : Nat} {g o c : Nat} {xs : List EnL} (h : ElIn W B (.slice (some ⟨g, o, none⟩) xs.length c) xs) : ∀ j u, (ecs xs)[j]? = some u → W.cell? ⟨g, o + j, none⟩ = some u := by
  obtain ⟨A', c', e, _, _, h⟩ := h
  intro j u hu
  have hj : j < (ecs xs).length := by
    rcases Nat.lt_or_ge j (ecs xs).length with h | h
    · exact h
    · rw [List.getElem?_eq_none h] at hu; cases hu
  rw [ecs_len] at hj
  obtain ⟨g', o', hg, hlt, h3⟩ := h (by omega)
  injection e with e1 e2 e3
  subst e1
  cases hg
  have h4 := h3 (j / 6) (by omega) (j % 6) (by omega)
  have h5 := ecs_at xs (j / 6) (by omega) (j % 6) (by omega)
  rw [← h5, Nat.add_assoc, show j / 6 * 6 + j % 6 = j by omega, hu] at h4
  exact h4
end Go.Proofs.YtpfbpiegejbhkaaDoor
