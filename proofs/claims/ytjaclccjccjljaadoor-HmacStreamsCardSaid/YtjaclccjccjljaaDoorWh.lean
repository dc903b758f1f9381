/- Parts and all of them together, in memory apart. -/
import Derived.Test.YtjaclccjccjljaaDoorShaSum
import Derived.Test.YtjaclccjccjljaaDoorAppAtL
import Derived.Test.YtjaclccjccjljaaDoorApart
import Derived.Maps.AppendAt
namespace Go.Proofs.YtjaclccjccjljaaDoor
open Go.RowKit
theorem info_bs : (Tryd.prog.info? 22).map (fun i => (i.zero, i.size, i.bytes)) = some (some (.slice none 0 0), 1, 24) := by kernel_rfl
theorem flatten_le (n : Nat) : ∀ (L : List (List UInt8)), (∀ x ∈ L, x.length ≤ n) → L.flatten.length ≤ n * L.length
  | [], _ => by simp
  | x :: L, h => by
    have h1 := h x (by simp)
    have h2 := flatten_le n L (fun y hy => h y (by simp [hy]))
    rw [List.flatten_cons, List.length_append, List.length_cons, Nat.mul_succ]
    omega
/-- The parts in a row of the call's own, and all of them together, in memory apart. -/
structure Wh (w : World) (base : Nat) (vp va : Value) (L : List (List UInt8)) (vs : List Value) : Prop where
  row : w.ownsRow base 22 1 vp L.length vs
  len : vs.length = L.length
  el : ∀ j (h : j < L.length), ∃ vj, vs[j]? = some vj ∧ OwnB w base vj L[j] ∧ (vj.ownBlock = none ∨ vj.ownBlock ≠ va.ownBlock)
  all : OwnB w base va L.flatten
  le : base ≤ w.heap.size
theorem Wh.below {w w' : World} {base : Nat} {vp va : Value} {L : List (List UInt8)} {vs : List Value} (h : Wh w base vp va L vs) (hb : Below w.heap.size w w') : Wh w' base vp va L vs := by
  refine ⟨World.ownsRow.kept h.row (grown_of_below hb none) (by cases vp.ownBlock <;> simp), h.len, fun j hj => ?_, h.all.below hb, Nat.le_trans h.le hb.size⟩
  obtain ⟨vj, h1, h2, h3⟩ := h.el j hj
  exact ⟨vj, h1, h2.below hb, h3⟩
theorem ownB_apart {w : World} {b1 b2 : Nat} {v1 v2 : Value} {l : List UInt8} {n : Nat} {vs : List Value} (h1 : OwnB w b1 v1 l) (h2 : w.ownsRow b2 22 1 v2 n vs) : v1.ownBlock = none ∨ v1.ownBlock ≠ v2.ownBlock := apart_rows h1 h2 (by decide)
/-- Behind both appends. -/
theorem Wh.step {w w1 w2 w3 w4 : World} {base : Nat} {vp va vp' va' v1 : Value} {L : List (List UInt8)} {vs : List Value} {x : List UInt8} (h : Wh w base vp va L vs)
    (hb1 : Below w.heap.size w w1) (hx : OwnB w1 w.heap.size v1 x) (hb2 : Below w1.heap.size w1 w2) (hr : w3.ownsRow base 22 1 vp' (L.length + 1) (vs ++ [v1])) (hg3 : w2.grownBy w3 vp.ownBlock)
    (ha : OwnB w4 base va' (L.flatten ++ x)) (hg4 : w3.grownBy w4 va.ownBlock) (hat : va'.ownBlock = va.ownBlock ∨ va'.ownBlock = some w3.heap.size) : Wh w4 base vp' va' (L ++ [x]) (vs ++ [v1]) := by
  have h2 := (h.below hb1).below hb2
  have hx2 := hx.below hb2
  have hall3 : OwnB w3 base va L.flatten := h2.all.kept hg3 (ownB_apart h2.all h2.row)
  have hrow4 : w4.ownsRow base 22 1 vp' (L.length + 1) (vs ++ [v1]) := World.ownsRow.kept hr hg4 (apart_rows hr hall3 (by decide))
  have key : ∀ (b : Nat) (v : Value) (l : List UInt8), base ≤ b → OwnB w2 b v l → (v.ownBlock = none ∨ v.ownBlock ≠ va.ownBlock) → OwnB w4 base v l ∧ (v.ownBlock = none ∨ v.ownBlock ≠ va'.ownBlock) := by
    intro b v l hb hv hne
    have hv3 : OwnB w3 b v l := hv.kept hg3 (ownB_apart hv h2.row)
    refine ⟨(hv3.kept hg4 hne).lower hb, ?_⟩
    rcases hne with e | e
    · exact .inl e
    · rcases hat with e2 | e2
      · rw [e2]; exact .inr e
      · rw [e2]
        refine .inr fun e3 => ?_
        have := (hv3.lt _ e3).2
        omega
  refine ⟨by simpa using hrow4, by simp [h.len], fun j hj => ?_, by simpa using ha, Nat.le_trans h2.le (Nat.le_trans hg3.size hg4.size)⟩
  by_cases hlt : j < L.length
  · obtain ⟨vj, h1, h2', h3⟩ := h2.el j hlt
    obtain ⟨k1, k2⟩ := key base vj L[j] (Nat.le_refl _) h2' h3
    exact ⟨vj, by rw [List.getElem?_append_left (by rw [h.len]; exact hlt)]; exact h1, by rw [List.getElem_append_left hlt]; exact k1, k2⟩
  · have e : j = L.length := by simp at hj; omega
    subst e
    obtain ⟨k1, k2⟩ := key w.heap.size v1 x h.le hx2 (by
      cases hv : v1.ownBlock with
      | none => exact .inl rfl
      | some k =>
        refine .inr fun e => ?_
        have h5 := (hx.lt k hv).1
        have h6 := (h.all.lt k e.symm).2
        omega)
    exact ⟨v1, by rw [← h.len]; simp, by simpa using k1, k2⟩
theorem Wh.sls {w : World} {base : Nat} {vp va : Value} {L : List (List UInt8)} {vs : List Value} (h : Wh w base vp va L vs) : Sls w w.heap.size vp L := by
  rcases h.row.2 with ⟨rfl, h0⟩ | ⟨g, cap, cur, rfl, hb, hg, hc, hm, hs, ht⟩
  · have : L = [] := List.eq_nil_of_length_eq_zero h0
    subst this
    exact ⟨none, 0, rfl, by simp, by omega, fun hp => by simp at hp⟩
  · refine ⟨_, cap, rfl, hc, by unfold maxLen at hm; omega, fun _ => ⟨g, 0, rfl, (Array.getElem?_eq_some_iff.1 hg).1, fun j hj => ?_⟩⟩
    obtain ⟨vj, h1, h2, _⟩ := h.el j hj
    refine ⟨vj, ?_, h2.sl⟩
    have e : cur[j]? = some vj := by
      rw [← h1, ← ht, List.getElem?_take, if_pos (by omega)]; simp
    simp [World.cell?, hg, e]
end Go.Proofs.YtjaclccjccjljaaDoor
