/- sha.whole: the iterator over the complete blocks of a slice. A Hash in memory, and what its methods do to it, as lists. -/
import Derived.Test.YtlnjpmpddomjiaaGreatDoorGmMix
import Derived.RangeFuncNested
import Derived.RangeFuncBound
import Derived.RangeFuncCalls
import Derived.RangeFuncLeaves
import Derived.Shelf.Abstract
import Derived.Shelf.RegionOpen
import Derived.OwnWalkIn
import Derived.TacticsInMore
import Derived.LoopNIn
import Derived.LoopIn
import Derived.Test.YtlnjpmpddomjiaaGreatDoorGmMgA
namespace Go.Proofs.YtlnjpmpddomjiaaGreatDoor
open Go.RowKit Go.Shelf
attribute [local go_sem] Oper.semAt_some

theorem whole_in (F : Fence) (n : Nat) (hf : F.fn 79) (hro : F.round = none) (a : Option Addr) (len cap : Nat) (w : World) :
    CallsIn F n Tryz.prog 79 #[.slice a len cap] w fun e w' => e = .returned (.func (.func 100) #[] #[.pointer (some ⟨w.heap.size, 0, none⟩)]) ∧ w' = w.alloc (.cells #[.slice a len cap] 34) := by
  refine callsIn_of_wp Tryz.func79 rfl hf ?_ hro
  simp only [Tryz.ntmps79, List.size_toArray, List.length_cons, List.length_nil, Nat.reduceAdd, Nat.reduceSub, Array.replicate_succ, Array.replicate_zero, List.push_toArray, List.append_toArray, List.nil_append, List.cons_append]
  gi_wp2
  go_ret
  exact ⟨rfl, rfl⟩

/-- The j-th whole block of a slice. -/
def blk (b o : Nat) (j : Nat) : Value := .slice (some ⟨b, o + 64 * j, none⟩) 64 64
/-- What a round must keep for the iterator: its own box. -/
def KeepBox (Bx : Nat) (W W' : World) : Prop := W'.cell? ⟨Bx, 0, none⟩ = W.cell? ⟨Bx, 0, none⟩
/-- The numbers of the whole blocks of so many bytes. -/
abbrev Bn (len : Nat) : Type := { j : Nat // j < len / 64 }
set_option maxRecDepth 100000 in
set_option maxHeartbeats 1000000 in
theorem whole1_in (F : Fence) (n : Nat) (hf : F.fn 100) (hro : F.round = none) (hn : 1 ≤ n) (l Bx b o len cap : Nat) (hlc : len ≤ cap) (hcap : len ≤ 9223372036854775000 ∧ cap ≤ 9223372036854775807) (J Jx : List (Bn len) → World → Prop)
    (hY : ∀ pre x W, J pre W → pre.length < len / 64 → YieldAt F (n - 1) Tryz.prog l #[blk b o x.1] W fun e W' =>
      (e = .returned (.bool true) ∧ J (pre ++ [x]) W' ∧ KeepBox Bx W W') ∨ (e = .returned (.bool false) ∧ Jx (pre ++ [x]) W'))
    (W : World) (hBx : W.cell? ⟨Bx, 0, none⟩ = some (.slice (some ⟨b, o, none⟩) len cap)) (h0 : J [] W) :
    CallsIn F n Tryz.prog 100 #[.func (.yield l) #[] #[], .pointer (some ⟨Bx, 0, none⟩)] W fun e W' => (∃ v, e = .returned v) ∧
      ((∃ ys : List (Bn len), ys.map (·.1) = List.range (len / 64) ∧ J ys W') ∨ (∃ pre : List (Bn len), (∃ k, k ≤ len / 64 ∧ pre.map (·.1) = List.range k) ∧ Jx pre W')) := by
  obtain ⟨hcapl, hcap⟩ := hcap
  refine callsIn_of_wp Tryz.func100 rfl hf ?_ hro
  simp only [Tryz.ntmps100, List.size_toArray, List.length_cons, List.length_nil, Nat.reduceAdd, Nat.reduceSub, Array.replicate_succ, Array.replicate_zero, List.push_toArray, List.append_toArray, List.nil_append, List.cons_append]
  gi_wp2
  gi_loopw [3] (fun i wr => ∃ k : Nat, k ≤ len / 64 ∧ i = .int .i64 (64 * (k : Int)) ∧ (∃ pre : List (Bn len), pre.map (·.1) = List.range k ∧ J pre wr) ∧ wr.cell? ⟨Bx, 0, none⟩ = some (.slice (some ⟨b, o, none⟩) len cap))
    (fun i _ => len - (intOf i).toNat)
  case atStart => exact ⟨0, by omega, rfl, ⟨[], rfl, h0⟩, hBx⟩
  case round =>
    obtain ⟨k, hk, rfl, ⟨pre, hpre, hJ⟩, hc⟩ := hrel
    have hlen : pre.length = k := by have := congrArg List.length hpre; simpa using this
    have HJ := Lib.hid hJ; clear hJ
    have HP := Lib.hid hpre; clear hpre
    by_cases hlt : k < len / 64
    · obtain ⟨fn, tmps, assign, body, hy, hR⟩ := hY pre ⟨k, hlt⟩ wr HJ.out (by rw [hlen]; exact hlt)
      unfold blk at hy
      obtain ⟨k0, k1⟩ : 64 * k + 64 ≤ len ∧ 64 * k + 64 ≤ cap := ⟨by omega, by omega⟩
      gi_wp2
      refine hR.mono ?_
      rintro e W3 (⟨rfl, hJ3, hk3⟩ | ⟨rfl, hJx3⟩)
      · have hc3 : W3.cell? ⟨Bx, 0, none⟩ = some (.slice (some ⟨b, o, none⟩) len cap) := Eq.trans hk3 hc
        have HJ3 := Lib.hid hJ3; clear hJ3
        clear hk3
        gi_wp2
        go_roundw
        case rel => exact ⟨k + 1, by omega, by congr 1, ⟨pre ++ [⟨k, hlt⟩], by rw [List.map_append, HP.out, List.range_succ]; rfl, HJ3.out⟩, hc3⟩
        case measure => simp [intOf]; omega
      · gi_wp2
        refine bodyPost_ret (results_none rfl _ _ _) rfl ?_
        exact ⟨⟨_, rfl⟩, .inr ⟨pre ++ [⟨k, hlt⟩], ⟨k + 1, by omega, by rw [List.map_append, HP.out, List.range_succ]; rfl⟩, hJx3⟩⟩
    · obtain rfl : k = len / 64 := by omega
      obtain ⟨k0, k1, k2⟩ : (len : Int) - 64 * ((len / 64 : Nat) : Int) < 64 ∧ 64 * ((len / 64 : Nat) : Int) ≤ (len : Int) ∧ (0 : Int) ≤ ((len / 64 : Nat) : Int) := ⟨by omega, by omega, by omega⟩
      gi_wp2
      go_end0
      exact ⟨⟨_, rfl⟩, .inl ⟨pre, HP.out, HJ.out⟩⟩
theorem whole_stops (F : Fence) (n : Nat) (hf : F.fn 100) (hro : F.round = none) (hn : 1 ≤ n) (Bx b o len cap : Nat) (hlc : len ≤ cap) (hcap : len ≤ 9223372036854775000 ∧ cap ≤ 9223372036854775807) (w : World) (hBx : Bx < w.heap.size)
    (hc : w.cell? ⟨Bx, 0, none⟩ = some (.slice (some ⟨b, o, none⟩) len cap)) :
    SeqStopsK F n Tryz.prog 100 #[.pointer (some ⟨Bx, 0, none⟩)] (fun x : Bn len => #[blk b o x.1]) (KeepBox Bx) (fun ys => ys.map (·.1) = List.range (len / 64)) (fun pre => ∃ k, k ≤ len / 64 ∧ pre.map (·.1) = List.range k) (len / 64) w := fun l J Jx W hW _ _ hY h0 =>
  whole1_in F n hf hro hn l Bx b o len cap hlc hcap J Jx hY W ((hW.cell (p := ⟨Bx, 0, none⟩) hBx).trans hc) h0
theorem keepBox_t {Bx : Nat} {A B C : World} (h : KeepBox Bx A B) (k : KeepBox Bx B C) : KeepBox Bx A C := Eq.trans k h
theorem keepBox_b {Bx B0 : Nat} (hB : Bx < B0) (W : World) (l : Nat) (o o' : Obj) (hl : B0 ≤ l) (_ : W.heap[l]? = some o) (_ : o.isCells = false) (_ : o.isWalk = false) : KeepBox Bx W (W.putObj l o') :=
  World.cell?_of_block (World.putObj_heap_other (by show Bx ≠ l; omega))
end Go.Proofs.YtlnjpmpddomjiaaGreatDoor
namespace Go.Proofs.YtlnjpmpddomjiaaGreatDoor
open Go.RowKit

/-- The cells of a Hash. -/
def hcells (s : St) (t : List UInt8) (n : Nat) : List Value := s.cells ++ (t.map vb ++ [.int .u64 (un n)])
theorem hcells_length (s : St) (t : List UInt8) (n : Nat) (ht : t.length = 64) : (hcells s t n).length = 73 := by
  unfold hcells; rw [List.length_append, List.length_append, List.length_map, ht]; rfl
theorem hcells_total (s : St) (t : List UInt8) (n : Nat) (ht : t.length = 64) : (hcells s t n)[72]? = some (.int .u64 (un n)) := by
  unfold hcells; rw [List.getElem?_append_right (by rw [cells_length]; decide), cells_length, List.getElem?_append_right (by rw [List.length_map, ht]; decide), List.length_map, ht]; rfl
theorem hcells_setTotal (s : St) (t : List UInt8) (n m : Nat) (ht : t.length = 64) : (hcells s t n).set 72 (.int .u64 (un m)) = hcells s t m := by
  unfold hcells; rw [List.set_append_right _ _ (by rw [cells_length]; decide), cells_length, List.set_append_right _ _ (by rw [List.length_map, ht]; decide), List.length_map, ht]; rfl
theorem hcells_state (s : St) (t : List UInt8) (n : Nat) : (hcells s t n).take 8 = s.cells := by unfold hcells; rfl
theorem hcells_tail (s : St) (t : List UInt8) (n : Nat) (ht : t.length = 64) : ((hcells s t n).drop 8).take 64 = t.map vb := by
  unfold hcells; rw [List.drop_append_of_le_length (by rw [cells_length]; decide), show s.cells.drop 8 = [] from rfl, List.nil_append, List.take_append_of_le_length (by rw [List.length_map, ht]; decide), List.take_of_length_le (by rw [List.length_map, ht]; decide)]
theorem hcells_setState (s s' : St) (t : List UInt8) (n : Nat) : (hcells s t n).take 0 ++ s'.cells ++ (hcells s t n).drop (0 + s'.cells.length) = hcells s' t n := by unfold hcells; rfl
theorem hcells_lt (s : St) (t : List UInt8) (n j : Nat) (h : j < 8) : (hcells s t n)[j]? = s.cells[j]? := by unfold hcells; rw [List.getElem?_append_left (by rw [cells_length]; exact h)]
/-- q laid over t from place r on. -/
def over (t : List UInt8) (r : Nat) (q : List UInt8) : List UInt8 := t.take r ++ q ++ t.drop (r + q.length)
theorem over_length (t : List UInt8) (r : Nat) (q : List UInt8) (h : r + q.length ≤ t.length) : (over t r q).length = t.length := by unfold over; simp; omega
theorem hcells_setTail (s : St) (t : List UInt8) (n r : Nat) (q : List UInt8) (ht : t.length = 64) (h : r + q.length ≤ 64) :
    (hcells s t n).take (8 + r) ++ q.map vb ++ (hcells s t n).drop (8 + r + (q.map vb).length) = hcells s (over t r q) n := by
  unfold hcells over
  have e1 : (s.cells ++ (t.map vb ++ [Value.int .u64 (un n)])).take (8 + r) = s.cells ++ (t.take r).map vb := by
    rw [List.take_append, cells_length, List.take_of_length_le (by rw [cells_length]; omega), show 8 + r - 8 = r from by omega, List.take_append_of_le_length (by rw [List.length_map, ht]; omega), List.map_take]
  have e2 : (s.cells ++ (t.map vb ++ [Value.int .u64 (un n)])).drop (8 + r + (q.map vb).length) = (t.drop (r + q.length)).map vb ++ [Value.int .u64 (un n)] := by
    rw [List.drop_append, cells_length, List.drop_of_length_le (by rw [cells_length]; omega), List.nil_append, show 8 + r + (q.map vb).length - 8 = r + q.length from by rw [List.length_map]; omega, List.drop_append_of_le_length (by rw [List.length_map, ht]; omega), List.map_drop]
  rw [e1, e2]
  simp
/-- A Hash: its state, its tail, how many bytes there were. -/
structure HashIs (w : World) (b : Nat) (s : St) (t : List UInt8) (n : Nat) : Prop where
  blk : Blk w b (hcells s t n)
  len : t.length = 64
theorem Blk.tail {W : World} {hb : Nat} {s : St} {t : List UInt8} {n : Nat} (h : Blk W hb (hcells s t n)) (ht : t.length = 64) : Bs W hb 8 t := by
  have := h.range 8 64
  rw [hcells_tail _ _ _ ht] at this
  exact Bs.of_rangeAt this
theorem Blk.state {W : World} {hb : Nat} {s : St} {t : List UInt8} {n : Nat} (h : Blk W hb (hcells s t n)) : W.rangeAt hb 0 s.cells := by
  have := h.range 0 8
  rw [List.drop_zero, hcells_state] at this
  exact this
theorem Blk.cells8 {W : World} {hb : Nat} {s : St} {t : List UInt8} {n : Nat} (h : Blk W hb (hcells s t n)) :
    W.cell? ⟨hb, 0, none⟩ = some (vw s.a) ∧ W.cell? ⟨hb, 1, none⟩ = some (vw s.b) ∧ W.cell? ⟨hb, 2, none⟩ = some (vw s.c) ∧ W.cell? ⟨hb, 3, none⟩ = some (vw s.d) ∧ W.cell? ⟨hb, 4, none⟩ = some (vw s.e) ∧ W.cell? ⟨hb, 5, none⟩ = some (vw s.f) ∧ W.cell? ⟨hb, 6, none⟩ = some (vw s.g) ∧ W.cell? ⟨hb, 7, none⟩ = some (vw s.h) ∧ W.frozen? ⟨hb, 0, none⟩ = false ∧ W.frozen? ⟨hb, 1, none⟩ = false ∧ W.frozen? ⟨hb, 2, none⟩ = false ∧ W.frozen? ⟨hb, 3, none⟩ = false ∧ W.frozen? ⟨hb, 4, none⟩ = false ∧ W.frozen? ⟨hb, 5, none⟩ = false ∧ W.frozen? ⟨hb, 6, none⟩ = false ∧ W.frozen? ⟨hb, 7, none⟩ = false :=
  ⟨h.at ((hcells_lt _ _ _ _ (by decide)).trans rfl), h.at ((hcells_lt _ _ _ _ (by decide)).trans rfl), h.at ((hcells_lt _ _ _ _ (by decide)).trans rfl), h.at ((hcells_lt _ _ _ _ (by decide)).trans rfl), h.at ((hcells_lt _ _ _ _ (by decide)).trans rfl), h.at ((hcells_lt _ _ _ _ (by decide)).trans rfl), h.at ((hcells_lt _ _ _ _ (by decide)).trans rfl), h.at ((hcells_lt _ _ _ _ (by decide)).trans rfl), h.free _, h.free _, h.free _, h.free _, h.free _, h.free _, h.free _, h.free _⟩
theorem Blk.setState {W : World} {hb : Nat} {s : St} {t : List UInt8} {n : Nat} (h : Blk W hb (hcells s t n)) (ht : t.length = 64) (s' : St) : Blk (W.setCells hb 0 s'.cells) hb (hcells s' t n) := by
  have := h.setCells (vs := s'.cells) 0 (by rw [hcells_length _ _ _ ht, cells_length]; decide)
  rw [hcells_setState] at this
  exact this
attribute [irreducible] hcells over
end Go.Proofs.YtlnjpmpddomjiaaGreatDoor
