/- Slices of unlike elements. Nothing of the program is imported. -/
import Derived.Test.YtlobmffcnobgeaaDoorMem
namespace Go.Proofs.YtlobmffcnobgeaaDoor
open Go.RowKit
/-- Slices of unlike elements lie in unlike blocks. -/
theorem apart_rows {W : World} {b1 b2 : Nat} {e1 e2 : TypeId} {s1 s2 n1 n2 : Nat} {v1 v2 : Value} {x1 x2 : List Value} (h1 : W.ownsRow b1 e1 s1 v1 n1 x1) (h2 : W.ownsRow b2 e2 s2 v2 n2 x2) (he : e1 ≠ e2) : v1.ownBlock = none ∨ v1.ownBlock ≠ v2.ownBlock := by
  rcases h1.2 with ⟨rfl, _⟩ | ⟨g1, _, _, rfl, _, hg1, _⟩
  · exact .inl rfl
  · right
    intro e
    rcases h2.2 with ⟨rfl, _⟩ | ⟨g2, _, _, rfl, _, hg2, _⟩
    · simp [Value.ownBlock] at e
    · have : g1 = g2 := by simpa [Value.ownBlock] using e
      subst this
      rw [hg1] at hg2
      injection hg2 with h
      injection h with _ h _
      exact he h
end Go.Proofs.YtlobmffcnobgeaaDoor
