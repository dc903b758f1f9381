/- One byte of a row of the call's own. -/
import Derived.Test.YtlobmffcnobgeaaDoorCut2
namespace Go.Proofs.YtlobmffcnobgeaaDoor
open Go.RowKit
theorem OwnB.setAt {w : World} {base g cap n : Nat} {l : List UInt8} (h : OwnB w base (.slice (some ⟨g, 0, none⟩) n cap) l) (k : Nat) (y : UInt8) :
    OwnB (w.setCell ⟨g, k, none⟩ (vb y)) base (.slice (some ⟨g, 0, none⟩) n cap) (l.set k y) := by
  unfold OwnB at h ⊢
  have hn : n = l.length := by
    rcases h.2 with ⟨h', _⟩ | ⟨g', cap', cur, h', _⟩
    · simp at h'
    · injection h' with _ h2
  have h2 := hn ▸ h
  have s1 := (h2.stored k (vb y)).1
  rw [hn, List.length_set, List.map_set]
  exact s1
theorem OwnB.getAt {w : World} {base g cap n : Nat} {l : List UInt8} (h : OwnB w base (.slice (some ⟨g, 0, none⟩) n cap) l) (k : Nat) (x : UInt8) (hx : l[k]? = some x) : w.cell? ⟨g, k, none⟩ = some (vb x) ∧ w.frozen? ⟨g, k, none⟩ = false := by
  rcases h.parts with ⟨h', _⟩ | ⟨g', cap', h', _, _, _, _, hb, hf⟩
  · simp at h'
  · injection h' with h1 _ _
    injection h1 with h1
    injection h1 with h1 _ _
    subst h1
    obtain ⟨hk, rfl⟩ := List.getElem?_eq_some_iff.1 hx
    have := hb k hk
    rw [Nat.zero_add] at this
    exact ⟨this, hf k⟩
end Go.Proofs.YtlobmffcnobgeaaDoor
