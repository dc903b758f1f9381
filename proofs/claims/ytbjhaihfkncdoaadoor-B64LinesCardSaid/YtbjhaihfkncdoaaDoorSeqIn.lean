/- The iterator over a text's pieces in a world; how many pieces there are. -/
import Derived.Test.YtbjhaihfkncdoaaDoorSeq
namespace Go.Proofs.YtbjhaihfkncdoaaDoor
open Go.RowKit Go.Shelf
attribute [local go_sem] Oper.semAt_some
/-- The iterator over the pieces of L, of n bytes each. -/
abbrev gV (Bs Bz : Nat) : Value := .func (.func gF) #[] #[.pointer (some ⟨Bs, 0, none⟩), .pointer (some ⟨Bz, 0, none⟩)]
structure GIn (w : World) (Bs Bz n : Nat) (L : List UInt8) : Prop where
  n1 : L.length ≠ 0 → 1 ≤ n
  nm : n ≤ 9223372036854775807
  len : L.length ≤ 1000
  bs : Bs < w.heap.size
  bz : Bz < w.heap.size
  s : w.cell? ⟨Bs, 0, none⟩ = some (str L)
  z : Boxed w Bz 3 (.int .i64 (n : Int))
theorem GIn.later {w w' : World} {Bs Bz n : Nat} {L : List UInt8} (h : GIn w Bs Bz n L) (hb : Below w.heap.size w w') : GIn w' Bs Bz n L :=
  ⟨h.n1, h.nm, h.len, Nat.lt_of_lt_of_le h.bs hb.size, Nat.lt_of_lt_of_le h.bz hb.size, (hb.cell (p := ⟨Bs, 0, none⟩) h.bs).trans h.s, h.z.kept (grown_of_below hb none) (by simp)⟩
theorem GIn.stops {w : World} {Bs Bz n : Nat} {L : List UInt8} (h : GIn w Bs Bz n L) (F : Fence) (d : Nat) (h7 : F.fn gF) (hro : F.round = none) (hd : 1 ≤ d) :
    SeqStopsK F d Tryd.prog gF #[.pointer (some ⟨Bs, 0, none⟩), .pointer (some ⟨Bz, 0, none⟩)] (fun x : List UInt8 => #[str x]) (KpB Bz n) (fun ys => ∃ k, Has n L k ∧ ys = pieces n L k) (fun pre => ∃ k, (∀ j, j < k → j * n < L.length) ∧ pre = pieces n L k) L.length w :=
  groups_stopsZ F d h7 hro hd Bs Bz n L h.n1 h.nm w h.bs h.s h.z
theorem has_exists {n : Nat} (L : List UInt8) (hn : 1 ≤ n) : ∃ k, Has n L k := by
  refine ⟨(L.length + (n - 1)) / n, ?_, fun j hj => ?_⟩
  · have h1 := Nat.div_add_mod (L.length + (n - 1)) n
    have h2 := Nat.mod_lt (L.length + (n - 1)) (show 0 < n by omega)
    rw [Nat.mul_comm] at h1
    omega
  · have h1 := Nat.div_mul_le_self (L.length + (n - 1)) n
    have h2 : (j + 1) * n ≤ (L.length + (n - 1)) / n * n := Nat.mul_le_mul_right n hj
    rw [Nat.succ_mul] at h2
    omega
theorem has_most {n : Nat} {L : List UInt8} {k m : Nat} (h : Has n L k) (hm : ∀ j, j < m → j * n < L.length) : m ≤ k := by
  rcases Nat.lt_or_ge k m with h1 | h1
  · have := hm k h1; have := h.1; omega
  · exact h1
theorem has_same {n n' : Nat} {L : List UInt8} {k : Nat} (h : Has n' L k) (hn : L.length ≠ 0 → n' = n) : Has n L k ∧ pieces n' L k = pieces n L k := by
  by_cases h0 : L.length = 0
  · have hk : k = 0 := by
      match k with
      | 0 => rfl
      | k + 1 => have := h.2 k (by omega); omega
    subst hk
    exact ⟨⟨by omega, fun j hj => by omega⟩, rfl⟩
  · rw [← hn h0]; exact ⟨h, rfl⟩
theorem GIn.new (w : World) (n : Nat) (L : List UInt8) (h1 : L.length ≠ 0 → 1 ≤ n) (h2 : n ≤ 9223372036854775807) (h3 : L.length ≤ 1000) :
    GIn ((w.alloc (.cells #[str L] 9)).alloc (.cells #[.int .i64 (n : Int)] 3)) w.heap.size (w.heap.size + 1) n L := by
  refine ⟨h1, h2, h3, by simp; omega, by simp, ((Boxed.new w 9 (str L)).alloc _).cell, ?_⟩
  have := Boxed.new (w.alloc (.cells #[str L] 9)) 3 (.int .i64 (n : Int))
  rwa [World.size_alloc] at this
end Go.Proofs.YtbjhaihfkncdoaaDoor
