/- Slices of the call's own that were made at unlike times lie in unlike blocks. -/
import Derived.Test.YtjaclccjccjljaaDoorHashS
namespace Go.Proofs.YtjaclccjccjljaaDoor
open Go.RowKit
theorem OwnB.newer {w : World} {b : Nat} {v : Value} {l : List UInt8} {k : Nat} (h : OwnB w b v l) (hk : k < b) : v.ownBlock = none ∨ v.ownBlock ≠ some k := by
  cases hv : v.ownBlock with
  | none => exact .inl rfl
  | some j => exact .inr fun e => by injection e with e; have := (h.lt j hv).1; omega
theorem OwnB.older {w : World} {b : Nat} {v : Value} {l : List UInt8} {k : Nat} (h : OwnB w b v l) (hk : w.heap.size ≤ k) : v.ownBlock = none ∨ v.ownBlock ≠ some k := by
  cases hv : v.ownBlock with
  | none => exact .inl rfl
  | some j => exact .inr fun e => by injection e with e; have := (h.lt j hv).2; omega
theorem OwnB.unlike {w1 w2 : World} {b1 b2 : Nat} {v1 v2 : Value} {l1 l2 : List UInt8} (h1 : OwnB w1 b1 v1 l1) (h2 : OwnB w2 b2 v2 l2) (hk : w1.heap.size ≤ b2) : v1.ownBlock = none ∨ v1.ownBlock ≠ v2.ownBlock := by
  cases hv : v1.ownBlock with
  | none => exact .inl rfl
  | some j => exact .inr fun e => by have := (h1.lt j hv).2; have := (h2.lt j e.symm).1; omega
theorem OwnB.unlike' {w1 w2 : World} {b1 b2 : Nat} {v1 v2 : Value} {l1 l2 : List UInt8} (h1 : OwnB w1 b1 v1 l1) (h2 : OwnB w2 b2 v2 l2) (hk : w2.heap.size ≤ b1) : v1.ownBlock = none ∨ v1.ownBlock ≠ v2.ownBlock := by
  cases hv : v1.ownBlock with
  | none => exact .inl rfl
  | some j => exact .inr fun e => by have := (h1.lt j hv).1; have := (h2.lt j e.symm).2; omega
theorem some_ne {v : Value} {k : Nat} (h : v.ownBlock = none ∨ v.ownBlock ≠ some k) : some k ≠ v.ownBlock := by
  rcases h with h | h
  · rw [h]; simp
  · exact fun e => h e.symm
theorem OwnB.srcAt {w : World} {base hb n c : Nat} {A : Option Addr} {l : List UInt8} (h : OwnB w base (.slice A n c) l) (hlt : hb < base) (hl : l.length ≤ 4611686018427387904) : Src w hb A l c := by
  obtain ⟨A', c', e, hs⟩ := h.src hlt hl
  injection e with e1 _ e3
  subst e1; subst e3
  exact hs
end Go.Proofs.YtjaclccjccjljaaDoor
