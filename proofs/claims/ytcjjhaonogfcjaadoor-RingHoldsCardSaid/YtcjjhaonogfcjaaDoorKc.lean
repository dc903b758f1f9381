/- What is cells from a block on lies as it lay. Nothing of the program is imported. -/
import Derived.Test.YtcjjhaonogfcjaaDoorRangeSt
import Derived.Test.YtcjjhaonogfcjaaDoorMem
import Derived.Maps.AppendAt
import Derived.Maps.OwnIn
namespace Go.Proofs.YtcjjhaonogfcjaaDoor
open Go.RowKit Go.Shelf
/-- What is cells from block b on lies as it lay. -/
def KC (b : Nat) (A B : World) : Prop := ∀ k c t f, b ≤ k → A.heap[k]? = some (.cells c t f) → B.heap[k]? = some (.cells c t f)
theorem KeepsAt.kc {b : Nat} {A B : World} (h : KeepsAt b A B) : KC b A B := fun _ _ _ _ hk ho => h.some hk ho
theorem kc_own {b B : Nat} {A W : World} {row : Option Nat} (hg : A.grownBy W row) (hr : ∀ r, row = some r → B ≤ r ∧ ∃ o : Obj, A.heap[r]? = some o ∧ o.isCells = false) : KC b A W := fun k c t f _ ho => by
  refine (hg.block k (Array.getElem?_eq_some_iff.1 ho).1 (fun e => ?_)).trans ho
  obtain ⟨_, o, ho', hc⟩ := hr k e.symm
  rw [ho] at ho'
  cases ho'
  cases hc
theorem below_own {b B : Nat} {A W : World} {row : Option Nat} (hb : b ≤ B) (hbA : b ≤ A.heap.size) (hg : A.grownBy W row) (hr : ∀ r, row = some r → B ≤ r ∧ ∃ o : Obj, A.heap[r]? = some o ∧ o.isCells = false) : Below b A W :=
  ⟨hg.os, hg.tape, hg.output, hg.size, fun k hk => hg.block k (by omega) (fun e => by have := (hr k e.symm).1; omega)⟩
theorem ownsRow_kc {b base : Nat} {A W : World} {e : TypeId} {size : Nat} {v : Value} {n : Nat} {xs : List Value} (h : A.ownsRow base e size v n xs) (hb : b ≤ base) (hk : KC b A W) : W.ownsRow base e size v n xs := by
  obtain ⟨h1, h2 | ⟨g, cap, cur, rfl, hbg, hg, h3⟩⟩ := h
  · exact ⟨h1, .inl h2⟩
  · exact ⟨h1, .inr ⟨g, cap, cur, rfl, hbg, hk _ _ _ _ (by omega) hg, h3⟩⟩
theorem apart_box {W : World} {b1 : Nat} {e1 t : TypeId} {s1 n1 B : Nat} {v1 v : Value} {x1 : List Value} (h1 : W.ownsRow b1 e1 s1 v1 n1 x1) (h2 : Boxed W B t v) (he : e1 ≠ t) : v1.ownBlock ≠ some B := by
  intro e
  rcases h1.2 with ⟨rfl, _⟩ | ⟨g1, _, _, rfl, _, hg1, _⟩
  · simp [Value.ownBlock] at e
  · have : g1 = B := by simpa [Value.ownBlock] using e
    subst this
    have h3 : W.heap[g1]? = some (.cells #[v] t (0, 0)) := h2
    rw [h3] at hg1
    injection hg1 with h
    injection h with _ h _
    exact he h.symm
end Go.Proofs.YtcjjhaonogfcjaaDoor
