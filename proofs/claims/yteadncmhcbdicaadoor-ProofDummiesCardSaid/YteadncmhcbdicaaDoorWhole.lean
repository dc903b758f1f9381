/- sha.whole: the iterator over the complete blocks of a slice. -/
import Derived.Test.YteadncmhcbdicaaDoorPad
import Derived.RangeFuncNested
import Derived.RangeFuncBound
import Derived.RangeFuncCalls
import Derived.RangeFuncLeaves
import Derived.Shelf.Abstract
import Derived.Shelf.RegionOpen
import Derived.OwnWalkIn
import Derived.TacticsInMore
import Derived.LoopNIn
import Derived.LoopIn
namespace Go.Proofs.YteadncmhcbdicaaDoor
open Go.RowKit Go.Shelf
attribute [local go_sem] Oper.semAt_some

theorem whole_in (F : Fence) (n : Nat) (hf : F.fn 35) (hro : F.round = none) (a : Option Addr) (len cap : Nat) (w : World) :
    CallsIn F n Tryd.prog 35 #[.slice a len cap] w fun e w' => e = .returned (.func (.func 48) #[] #[.pointer (some ⟨w.heap.size, 0, none⟩)]) ∧ w' = w.alloc (.cells #[.slice a len cap] 26) := by
  refine callsIn_of_wp Tryd.func35 rfl hf ?_ hro
  simp only [Tryd.ntmps35, List.size_toArray, List.length_cons, List.length_nil, Nat.reduceAdd, Nat.reduceSub, Array.replicate_succ, Array.replicate_zero, List.push_toArray, List.append_toArray, List.nil_append, List.cons_append]
  gi_wp2
  go_ret
  exact ⟨rfl, rfl⟩

/-- The j-th whole block of a slice. -/
def blk (b o : Nat) (j : Nat) : Value := .slice (some ⟨b, o + 64 * j, none⟩) 64 64
/-- What a round must keep for the iterator: its own box. -/
def KeepBox (Bx : Nat) (W W' : World) : Prop := W'.cell? ⟨Bx, 0, none⟩ = W.cell? ⟨Bx, 0, none⟩
/-- The numbers of the whole blocks of so many bytes. -/
abbrev Bn (len : Nat) : Type := { j : Nat // j < len / 64 }
set_option maxRecDepth 100000 in
set_option maxHeartbeats 1000000 in
theorem whole1_in (F : Fence) (n : Nat) (hf : F.fn 48) (hro : F.round = none) (hn : 1 ≤ n) (l Bx b o len cap : Nat) (hlc : len ≤ cap) (hcap : len ≤ 9223372036854775000 ∧ cap ≤ 9223372036854775807) (J Jx : List (Bn len) → World → Prop)
    (hY : ∀ pre x W, J pre W → pre.length < len / 64 → YieldAt F (n - 1) Tryd.prog l #[blk b o x.1] W fun e W' =>
      (e = .returned (.bool true) ∧ J (pre ++ [x]) W' ∧ KeepBox Bx W W') ∨ (e = .returned (.bool false) ∧ Jx (pre ++ [x]) W'))
    (W : World) (hBx : W.cell? ⟨Bx, 0, none⟩ = some (.slice (some ⟨b, o, none⟩) len cap)) (h0 : J [] W) :
    CallsIn F n Tryd.prog 48 #[.func (.yield l) #[] #[], .pointer (some ⟨Bx, 0, none⟩)] W fun e W' => (∃ v, e = .returned v) ∧
      ((∃ ys : List (Bn len), ys.map (·.1) = List.range (len / 64) ∧ J ys W') ∨ (∃ pre : List (Bn len), (∃ k, k ≤ len / 64 ∧ pre.map (·.1) = List.range k) ∧ Jx pre W')) := by
  obtain ⟨hcapl, hcap⟩ := hcap
  refine callsIn_of_wp Tryd.func48 rfl hf ?_ hro
  simp only [Tryd.ntmps48, List.size_toArray, List.length_cons, List.length_nil, Nat.reduceAdd, Nat.reduceSub, Array.replicate_succ, Array.replicate_zero, List.push_toArray, List.append_toArray, List.nil_append, List.cons_append]
  gi_wp2
  gi_loopw [3] (fun i wr => ∃ k : Nat, k ≤ len / 64 ∧ i = .int .i64 (64 * (k : Int)) ∧ (∃ pre : List (Bn len), pre.map (·.1) = List.range k ∧ J pre wr) ∧ wr.cell? ⟨Bx, 0, none⟩ = some (.slice (some ⟨b, o, none⟩) len cap))
    (fun i _ => len - (intOf i).toNat)
  case atStart => exact ⟨0, by omega, rfl, ⟨[], rfl, h0⟩, hBx⟩
  case round =>
    obtain ⟨k, hk, rfl, ⟨pre, hpre, hJ⟩, hc⟩ := hrel
    have hlen : pre.length = k := by have := congrArg List.length hpre; simpa using this
    have HJ := Lib.hid hJ; clear hJ
    have HP := Lib.hid hpre; clear hpre
    by_cases hlt : k < len / 64
    · obtain ⟨fn, tmps, assign, body, hy, hR⟩ := hY pre ⟨k, hlt⟩ wr HJ.out (by rw [hlen]; exact hlt)
      unfold blk at hy
      obtain ⟨k0, k1⟩ : 64 * k + 64 ≤ len ∧ 64 * k + 64 ≤ cap := ⟨by omega, by omega⟩
      gi_wp2
      refine hR.mono ?_
      rintro e W3 (⟨rfl, hJ3, hk3⟩ | ⟨rfl, hJx3⟩)
      · have hc3 : W3.cell? ⟨Bx, 0, none⟩ = some (.slice (some ⟨b, o, none⟩) len cap) := Eq.trans hk3 hc
        have HJ3 := Lib.hid hJ3; clear hJ3
        clear hk3
        gi_wp2
        go_roundw
        case rel => exact ⟨k + 1, by omega, by congr 1, ⟨pre ++ [⟨k, hlt⟩], by rw [List.map_append, HP.out, List.range_succ]; rfl, HJ3.out⟩, hc3⟩
        case measure => simp [intOf]; omega
      · gi_wp2
        refine bodyPost_ret (results_none rfl _ _ _) rfl ?_
        exact ⟨⟨_, rfl⟩, .inr ⟨pre ++ [⟨k, hlt⟩], ⟨k + 1, by omega, by rw [List.map_append, HP.out, List.range_succ]; rfl⟩, hJx3⟩⟩
    · obtain rfl : k = len / 64 := by omega
      obtain ⟨k0, k1, k2⟩ : (len : Int) - 64 * ((len / 64 : Nat) : Int) < 64 ∧ 64 * ((len / 64 : Nat) : Int) ≤ (len : Int) ∧ (0 : Int) ≤ ((len / 64 : Nat) : Int) := ⟨by omega, by omega, by omega⟩
      gi_wp2
      go_end0
      exact ⟨⟨_, rfl⟩, .inl ⟨pre, HP.out, HJ.out⟩⟩
theorem whole_stops (F : Fence) (n : Nat) (hf : F.fn 48) (hro : F.round = none) (hn : 1 ≤ n) (Bx b o len cap : Nat) (hlc : len ≤ cap) (hcap : len ≤ 9223372036854775000 ∧ cap ≤ 9223372036854775807) (w : World) (hBx : Bx < w.heap.size)
    (hc : w.cell? ⟨Bx, 0, none⟩ = some (.slice (some ⟨b, o, none⟩) len cap)) :
    SeqStopsK F n Tryd.prog 48 #[.pointer (some ⟨Bx, 0, none⟩)] (fun x : Bn len => #[blk b o x.1]) (KeepBox Bx) (fun ys => ys.map (·.1) = List.range (len / 64)) (fun pre => ∃ k, k ≤ len / 64 ∧ pre.map (·.1) = List.range k) (len / 64) w := fun l J Jx W hW _ _ hY h0 =>
  whole1_in F n hf hro hn l Bx b o len cap hlc hcap J Jx hY W ((hW.cell (p := ⟨Bx, 0, none⟩) hBx).trans hc) h0
theorem keepBox_t {Bx : Nat} {A B C : World} (h : KeepBox Bx A B) (k : KeepBox Bx B C) : KeepBox Bx A C := Eq.trans k h
theorem keepBox_b {Bx B0 : Nat} (hB : Bx < B0) (W : World) (l : Nat) (o o' : Obj) (hl : B0 ≤ l) (_ : W.heap[l]? = some o) (_ : o.isCells = false) (_ : o.isWalk = false) : KeepBox Bx W (W.putObj l o') :=
  World.cell?_of_block (World.putObj_heap_other (by show Bx ≠ l; omega))
end Go.Proofs.YteadncmhcbdicaaDoor
