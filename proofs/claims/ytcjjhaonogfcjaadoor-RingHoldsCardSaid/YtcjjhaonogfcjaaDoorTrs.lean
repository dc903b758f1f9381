/- From one world to another nothing has turned but some blocks (table's Trn, by itself). -/
import Derived.Test.YtcjjhaonogfcjaaDoorMem
namespace Go.Proofs.YtcjjhaonogfcjaaDoor
open Go.RowKit
/-- From w to w' nothing that was there has turned but blocks of S. -/
structure Trs (S : List Nat) (w w' : World) : Prop where
  os : w'.os = w.os
  tape : w'.tape = w.tape
  output : w'.output = w.output
  size : w.heap.size ≤ w'.heap.size
  block : ∀ k, k < w.heap.size → k ∉ S → w'.heap[k]? = w.heap[k]?
section
variable {S S' : List Nat} {w w1 w' : World}
theorem Trs.refl (S : List Nat) (w : World) : Trs S w w := ⟨rfl, rfl, rfl, Nat.le_refl _, fun _ _ _ => rfl⟩
theorem Trs.trans (h : Trs S w w1) (k : Trs S w1 w') : Trs S w w' :=
  ⟨k.os.trans h.os, k.tape.trans h.tape, k.output.trans h.output, Nat.le_trans h.size k.size, fun i hi hn => (k.block i (Nat.lt_of_lt_of_le hi h.size) hn).trans (h.block i hi hn)⟩
theorem Trs.mono (h : Trs S w w') (hs : ∀ k ∈ S, k ∈ S') : Trs S' w w' := ⟨h.os, h.tape, h.output, h.size, fun k hk hn => h.block k hk (fun e => hn (hs k e))⟩
/-- What is new may turn as well. -/
theorem Trs.less (h : Trs S w w') (hs : ∀ k ∈ S, k ∈ S' ∨ w.heap.size ≤ k) : Trs S' w w' := ⟨h.os, h.tape, h.output, h.size, fun k hk hn => h.block k hk (fun e => by rcases hs k e with h1 | h1; exact hn h1; omega)⟩
theorem Trs.set (h : Trs S w w') {p : Addr} (hp : p.block ∈ S) (u : Value) : Trs S w (w'.setCell p u) :=
  ⟨h.os, h.tape, h.output, by simpa using h.size, fun k hk hn => (Below.heap_setCell w' p u k (fun e => hn (by rw [e]; exact hp))).trans (h.block k hk hn)⟩
theorem Trs.alloc (h : Trs S w w') (o : Obj) : Trs S w (w'.alloc o) :=
  ⟨h.os, h.tape, h.output, Nat.le_trans h.size (by simp), fun k hk hn => (Below.heap_alloc w' o k (Nat.lt_of_lt_of_le hk h.size)).trans (h.block k hk hn)⟩
theorem Trs.grown (h : Trs S w w1) {row : Option Nat} (hg : w1.grownBy w' row) (hr : ∀ k, row = some k → k ∈ S) : Trs S w w' :=
  ⟨hg.os.trans h.os, hg.tape.trans h.tape, hg.output.trans h.output, Nat.le_trans h.size hg.size, fun k hk hn => (hg.block k (Nat.lt_of_lt_of_le hk h.size) (fun e => hn (hr k e.symm))).trans (h.block k hk hn)⟩
theorem Trs.of_below (h : Below w.heap.size w w') : Trs S w w' := ⟨h.os, h.tape, h.output, h.size, fun k hk _ => h.block k hk⟩
theorem Trs.below (h : Trs S w w1) (hb : Below w1.heap.size w1 w') : Trs S w w' := h.trans (Trs.of_below hb)
theorem Trs.drew (h : Trs S w w') : Trs S w w'.drew := ⟨h.os, h.tape, h.output, h.size, h.block⟩
theorem Trs.toBelow (h : Trs S w w') {B : Nat} (hB : B ≤ w.heap.size) (hS : ∀ k ∈ S, B ≤ k) : Below B w w' :=
  ⟨h.os, h.tape, h.output, h.size, fun k hk => h.block k (by omega) (fun e => by have := hS k e; omega)⟩
theorem Trs.blk (h : Trs S w w') {b : Nat} {cs : List Value} (hb : Blk w b cs) (hn : b ∉ S) : Blk w' b cs := by
  have hl := hb.lt
  obtain ⟨t, hb⟩ := hb
  exact ⟨t, (h.block b hl hn).trans hb⟩
end
end Go.Proofs.YtcjjhaonogfcjaaDoor
