/- b64.Groups: the iterator over a text's pieces. -/
import Derived.Test.YtbjhaihfkncdoaaDoorRefWrap
import Derived.RangeFuncNested
import Derived.RangeFuncBound
import Derived.RangeFuncCalls
import Derived.RangeFuncLeaves
import Derived.RangeFuncBox
import Derived.Shelf.Abstract
import Derived.Shelf.RegionOpen
import Derived.WalkKit
import Derived.OwnWalkIn
import Derived.TacticsInMore
import Derived.LoopNIn
import Derived.LoopIn
namespace Go.Proofs.YtbjhaihfkncdoaaDoor
open Go.RowKit Go.Shelf
attribute [local go_sem] Oper.semAt_some
abbrev gF : Nat := 70
/-- The box of the size lies as it lay. -/
def KpB (Bz n : Nat) (A B : World) : Prop := Boxed A Bz 3 (.int .i64 (n : Int)) → Boxed B Bz 3 (.int .i64 (n : Int))
theorem kpB_t {Bz n : Nat} {A B C : World} (h : KpB Bz n A B) (k : KpB Bz n B C) : KpB Bz n A C := fun x => k (h x)
theorem kpB_b {Bz n : Nat} {w : World} (hb : Bz < w.heap.size) (W : World) (l : Nat) (o o' : Obj) (hl : w.heap.size ≤ l) (_ : W.heap[l]? = some o) (_ : o.isCells = false) (_ : o.isWalk = false) : KpB Bz n W (W.putObj l o') :=
  fun x => x.kept (grownBy_putObj' W l o') (fun e => by injection e with e; omega)
set_option maxRecDepth 100000 in
set_option maxHeartbeats 2000000 in
theorem groups1_in (F : Fence) (d : Nat) (h7 : F.fn gF) (hro : F.round = none) (hd : 1 ≤ d) (l Bs Bz n : Nat) (L : List UInt8) (hn1 : L.length ≠ 0 → 1 ≤ n) (hnm : n ≤ 9223372036854775807) (J Jx : List (List UInt8) → World → Prop)
    (hY : ∀ pre x W, x.length ≤ L.length → J pre W → pre.length < L.length → YieldAt F (d - 1) Tryd.prog l #[str x] W fun e W' =>
      (e = .returned (.bool true) ∧ J (pre ++ [x]) W' ∧ KpB Bz n W W') ∨ (e = .returned (.bool false) ∧ Jx (pre ++ [x]) W'))
    (W : World) (hBs : W.cell? ⟨Bs, 0, none⟩ = some (str L)) (hBz : Boxed W Bz 3 (.int .i64 (n : Int))) (h0 : J [] W) :
    CallsIn F d Tryd.prog gF #[.func (.yield l) #[] #[], .pointer (some ⟨Bs, 0, none⟩), .pointer (some ⟨Bz, 0, none⟩)] W fun e W' => (∃ v, e = .returned v) ∧
      ((∃ ys, (∃ k, Has n L k ∧ ys = pieces n L k) ∧ J ys W') ∨ (∃ pre, (∃ k, (∀ j, j < k → j * n < L.length) ∧ pre = pieces n L k) ∧ Jx pre W')) := by
  refine callsIn_of_wp Tryd.func70 rfl h7 ?_ hro
  simp only [Tryd.ntmps70, List.size_toArray, List.length_cons, List.length_nil, Nat.reduceAdd, Nat.reduceSub, Array.replicate_succ, Array.replicate_zero, List.push_toArray, List.append_toArray, List.nil_append, List.cons_append]
  gi_wp2
  gi_loopw [4] (fun s wr => ∃ k : Nat, (∀ j, j < k → j * n < L.length) ∧ s = str (L.drop (k * n)) ∧ J (pieces n L k) wr ∧ Boxed wr Bz 3 (.int .i64 (n : Int)))
    (fun s _ => match s with | .string x => x.size | _ => 0)
  case atStart => exact ⟨0, by omega, by simp, h0, hBz⟩
  case round =>
    obtain ⟨k, hk, rfl, hJs, hnx⟩ := hrel
    have hcz : wr.cell? ⟨Bz, 0, none⟩ = some (.int .i64 (n : Int)) := hnx.cell
    obtain ⟨x, hx⟩ : ∃ x, x = L.drop (k * n) := ⟨_, rfl⟩
    have hxl : x.length = L.length - k * n := by rw [hx, List.length_drop]
    rw [← hx]
    by_cases hlt : 0 < x.length
    · have hn := hn1 (by omega)
      have hk1 : ∀ j, j < k + 1 → j * n < L.length := fun j hj => by
        by_cases e : j = k
        · subst e; omega
        · exact hk j (by omega)
      have hkl := has_le hn hk1
      obtain ⟨q, hq⟩ : ∃ q, q = min n x.length := ⟨_, rfl⟩
      have hmin : min (n : Int) (x.length : Int) = (q : Int) := by omega
      have hq0 : 0 < q := by omega
      have hqx : q ≤ x.length := by omega
      have hst := str_take x q hqx
      have hsd := str_drop x q hqx
      have hp : x.take q = (L.drop (k * n)).take n := by rw [← hx, hq, List.take_eq_take_iff]; omega
      have hd2 : x.drop q = L.drop ((k + 1) * n) := by
        rw [Nat.succ_mul, ← List.drop_drop, ← hx]
        by_cases h : n ≤ x.length
        · rw [hq, Nat.min_eq_left h]
        · rw [hq, Nat.min_eq_right (by omega), List.drop_length, List.drop_of_length_le (by omega)]
      have hpc := pieces_succ n L k
      rw [← hp] at hpc
      obtain ⟨fn, tmps, assign, body, hy, hR⟩ := hY _ (x.take q) wr (by rw [List.length_take, hxl]; omega) hJs (by rw [pieces_len]; omega)
      rw [← hpc] at hR
      have HX := Lib.hid hx; clear hx hxl
      have HNX := Lib.hid hnx; clear hnx
      have Hd2 := Lib.hid hd2; clear hd2 hp hpc
      have HQ := Lib.hid hq; clear hq
      have HK := Lib.hid hk; clear hk
      have HK1 := Lib.hid hk1; clear hk1
      have HY := Lib.hid hY; clear hY
      have hne : x.isEmpty = false := by
        cases x
        · simp at hlt
        · rfl
      gi_wp2
      refine hR.mono ?_
      rintro e W3 (⟨rfl, hJ3, hk3⟩ | ⟨rfl, hJx3⟩)
      · gi_wp2
        go_roundw
        case rel => exact ⟨k + 1, HK1.out, congrArg str Hd2.out, hJ3, hk3 HNX.out⟩
        case measure => simp [ByteArray.size]; omega
      · gi_wp2
        refine bodyPost_ret (results_none rfl _ _ _) rfl ?_
        exact ⟨⟨_, rfl⟩, .inr ⟨_, ⟨k + 1, HK1.out, rfl⟩, hJx3⟩⟩
    · obtain rfl : x = [] := List.eq_nil_of_length_eq_zero (by omega)
      have hH : Has n L k := ⟨by simp at hxl; omega, hk⟩
      clear hx hxl hY
      gi_wp2
      go_end0
      exact ⟨⟨_, rfl⟩, .inl ⟨_, ⟨k, hH, rfl⟩, hJs⟩⟩
theorem groups_stopsZ (F : Fence) (d : Nat) (h7 : F.fn gF) (hro : F.round = none) (hd : 1 ≤ d) (Bs Bz n : Nat) (L : List UInt8) (hn1 : L.length ≠ 0 → 1 ≤ n) (hnm : n ≤ 9223372036854775807) (w : World) (hbs : Bs < w.heap.size)
    (hBs : w.cell? ⟨Bs, 0, none⟩ = some (str L)) (hBz : Boxed w Bz 3 (.int .i64 (n : Int))) :
    SeqStopsK F d Tryd.prog gF #[.pointer (some ⟨Bs, 0, none⟩), .pointer (some ⟨Bz, 0, none⟩)] (fun x : List UInt8 => #[str x]) (KpB Bz n) (fun ys => ∃ k, Has n L k ∧ ys = pieces n L k) (fun pre => ∃ k, (∀ j, j < k → j * n < L.length) ∧ pre = pieces n L k) L.length w := fun l J Jx W hW _ _ hY h0 =>
  groups1_in F d h7 hro hd l Bs Bz n L hn1 hnm J Jx (fun pre x W _ => hY pre x W) W ((hW.cell (p := ⟨Bs, 0, none⟩) (by show Bs < w.heap.size; omega)).trans hBs) (hBz.kept (grown_of_below hW none) (by simp)) h0
/-- Texts of at most so many bytes. -/
abbrev T1000 : Type := { x : List UInt8 // x.length ≤ 1000 }
theorem groups_stopsT (F : Fence) (d : Nat) (h7 : F.fn gF) (hro : F.round = none) (hd : 1 ≤ d) (Bs Bz n : Nat) (L : List UInt8) (hn1 : L.length ≠ 0 → 1 ≤ n) (hnm : n ≤ 9223372036854775807) (hL : L.length ≤ 1000) (w : World) (hbs : Bs < w.heap.size)
    (hBs : w.cell? ⟨Bs, 0, none⟩ = some (str L)) (hBz : Boxed w Bz 3 (.int .i64 (n : Int))) :
    SeqStopsK F d Tryd.prog gF #[.pointer (some ⟨Bs, 0, none⟩), .pointer (some ⟨Bz, 0, none⟩)] (fun x : T1000 => #[str x.1]) (KpB Bz n) (fun ys => ∃ k, Has n L k ∧ ys.map (·.1) = pieces n L k) (fun pre => ∃ k, (∀ j, j < k → j * n < L.length) ∧ pre.map (·.1) = pieces n L k) L.length w := fun l J Jx W hW _ _ hY h0 => by
  refine (groups1_in F d h7 hro hd l Bs Bz n L hn1 hnm (fun pre W => ∃ pre' : List T1000, pre'.map (·.1) = pre ∧ J pre' W) (fun pre W => ∃ pre' : List T1000, pre'.map (·.1) = pre ∧ Jx pre' W) ?_ W ((hW.cell (p := ⟨Bs, 0, none⟩) (by show Bs < w.heap.size; omega)).trans hBs) (hBz.kept (grown_of_below hW none) (by simp)) ⟨[], rfl, h0⟩).mono ?_
  · rintro pre x W1 hx ⟨pre', rfl, hj⟩ hlen
    refine (hY pre' ⟨x, by omega⟩ W1 hj (by simpa using hlen)).mono ?_
    rintro e w1 (⟨rfl, h1, h2⟩ | ⟨rfl, h1⟩)
    · exact .inl ⟨rfl, ⟨_, by simp, h1⟩, h2⟩
    · exact .inr ⟨rfl, ⟨_, by simp, h1⟩⟩
  · rintro e w1 ⟨he, ⟨ys, ⟨k, hk, rfl⟩, pre', h1, h2⟩ | ⟨ys, ⟨k, hk, rfl⟩, pre', h1, h2⟩⟩
    · exact ⟨he, .inl ⟨pre', ⟨k, hk, h1⟩, h2⟩⟩
    · exact ⟨he, .inr ⟨pre', ⟨k, hk, h1⟩, h2⟩⟩
/-- b64.Groups(s, size): two boxes, and the closure over them. -/
theorem groups_any (L : List UInt8) (sz : Int) (w : World) (hL : L.length ≤ 1000) (h1 : sz ≤ 9223372036854775807) (h2 : -9223372036854775808 ≤ sz) :
    Calls Tryd.prog 43 #[str L, .int .i64 sz] w fun e w' => e = .returned (.func (.func gF) #[] #[.pointer (some ⟨w.heap.size, 0, none⟩), .pointer (some ⟨w.heap.size + 1, 0, none⟩)]) ∧
      ∃ n : Nat, (L.length ≠ 0 → n = npc sz L) ∧ n ≤ 9223372036854775807 ∧ w' = (w.alloc (.cells #[str L] 9)).alloc (.cells #[.int .i64 (n : Int)] 3) := by
  by_cases hs : sz < 1
  · go_enter Tryd.func43, Tryd.ntmps43
    go_wp2_with fail
    go_ret
    refine ⟨rfl, L.length, fun h => by unfold npc; rw [if_pos hs]; omega, by omega, ?_⟩
    rfl
  · go_enter Tryd.func43, Tryd.ntmps43
    go_wp2_with fail
    go_ret
    refine ⟨rfl, sz.toNat, fun h => by unfold npc; rw [if_neg (by omega)], by omega, ?_⟩
    rw [Int.toNat_of_nonneg (by omega)]
end Go.Proofs.YtbjhaihfkncdoaaDoor
