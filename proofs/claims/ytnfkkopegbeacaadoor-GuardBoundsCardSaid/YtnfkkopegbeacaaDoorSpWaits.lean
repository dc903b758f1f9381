/- span.Waits: the iterator without end; whoever ranges over it stops. -/
import Derived.Test.YtnfkkopegbeacaaDoorSpFnW
import Derived.Test.YtnfkkopegbeacaaDoorRangeSt
import Derived.Test.YtnfkkopegbeacaaDoorKc
namespace Go.Proofs.YtnfkkopegbeacaaDoor
open Go.RowKit Go.Shelf
attribute [local go_sem] Oper.semAt_some
abbrev gW : Nat := 40
set_option maxRecDepth 100000 in
set_option maxHeartbeats 2000000 in
theorem waits_in (d : Nat) (hd : 3 ≤ d) (l gb gm : Nat) (b m : Int) (b0 : 0 ≤ b) (b1 : b < 18446744073709551616) (m0 : 0 ≤ m) (m1 : m ≤ 1099511627776) (N : Nat) (I : List Int → World → Prop) (ms : World → Nat) (R : World → Prop) (Jx : List Int → World → Prop)
    (hbx : ∀ pre W, I pre W → W.cell? ⟨gb, 0, none⟩ = some (u64v b) ∧ W.cell? ⟨gm, 0, none⟩ = some (u64v m))
    (hms : ∀ pre W, I pre W → ms W + pre.length = N)
    (hY : ∀ pre x W1, (I pre W1 ∧ x = wI b m (pre.length + 1)) → R W1 → YieldAt Fence.wide (d - 1) Tryd.prog l #[u64v x] W1 fun e W' => (e = .returned (.bool true) ∧ I (pre ++ [x]) W' ∧ R W') ∨ (e = .returned (.bool false) ∧ Jx (pre ++ [x]) W'))
    (W : World) (h0 : I [] W) (hR0 : R W) :
    CallsIn Fence.wide d Tryd.prog gW #[.func (.yield l) #[] #[], .pointer (some ⟨gb, 0, none⟩), .pointer (some ⟨gm, 0, none⟩)] W fun e W' => (∃ v, e = .returned v) ∧ ((∃ _ : List Int, False ∧ R W') ∨ (∃ pre, Jx pre W')) := by
  have h1 : 1 ≤ d := by omega
  have h1' : 1 ≤ d - 1 := by omega
  obtain ⟨c1, c2⟩ := hbx _ _ h0
  have hw1 : wI b m 1 = min (2 * min b m) m := wI_one m0
  obtain ⟨x1, hx1⟩ : ∃ x, x = wI b m 1 := ⟨_, rfl⟩
  rw [← hx1] at hw1
  have HX1 := Lib.hid hx1; clear hx1
  have HW1 := Lib.hid hw1; clear hw1
  refine callsIn_of_wp Tryd.func40 rfl trivial ?_ rfl
  simp only [Tryd.ntmps40, List.size_toArray, List.length_cons, List.length_nil, Nat.reduceAdd, Nat.reduceSub, Array.replicate_succ, Array.replicate_zero, List.push_toArray, List.append_toArray, List.nil_append, List.cons_append]
  gi_wp2
  refine ⟨trivial, (callsIn_wide.2 (double_any b m W b0 b1 m0 m1)).mono ?_⟩
  rintro e w2 ⟨rfl, rfl⟩
  rw [← HW1.out]
  clear HW1 c1 c2
  gi_wp2
  gi_loopw [4] (fun s wr => ∃ pre, s = u64v (wI b m (pre.length + 1)) ∧ I pre wr ∧ R wr) (fun _ wr => ms wr)
  case atStart => exact ⟨[], by rw [HX1.out]; rfl, h0, hR0⟩
  case round =>
    obtain ⟨pre, rfl, hI, hRr⟩ := hrel
    have hm := Lib.hid (hms pre wr hI)
    have hsucc := wI_succ (b := b) m0 (pre.length + 1)
    have hx0 := wI_nonneg (b := b) (m := m) b0 m0 (pre.length + 1)
    have hxm := wI_le (b := b) (m := m) (pre.length + 1)
    obtain ⟨x, hx⟩ : ∃ x, x = wI b m (pre.length + 1) := ⟨_, rfl⟩
    obtain ⟨fn, tmps, assign, body, hy, hRr2⟩ := hY pre x wr ⟨hI, hx⟩ hRr
    rw [← hx] at hsucc hx0 hxm ⊢
    have HY := Lib.hid hY
    have HX := Lib.hid hx
    have HS := Lib.hid hsucc
    clear hY hx hsucc h0
    gi_wp2
    refine hRr2.mono ?_
    rintro e W3 (⟨rfl, hI3, hR3⟩ | ⟨rfl, hJx3⟩)
    · have hm3 := Lib.hid (hms _ _ hI3)
      obtain ⟨c1, c2⟩ := hbx _ _ hI3
      gi_wp2
      refine ⟨trivial, (callsIn_wide.2 (double_any x m W3 hx0 (by omega) m0 m1)).mono ?_⟩
      rintro e w4 ⟨rfl, rfl⟩
      gi_wp2
      go_roundw
      case rel =>
        refine ⟨_, ?_, hI3, hR3⟩
        rw [List.length_append, List.length_singleton, HS.out, show min x m = x by omega]
      case measure =>
        have h1 := hm.out
        have h2 := hm3.out
        rw [List.length_append, List.length_singleton] at h2
        omega
    · gi_wp2
      go_end0
      exact ⟨⟨_, rfl⟩, .inr ⟨_, hJx3⟩⟩
/-- span.Waits: the closure over the base and the most, boxed. -/
theorem waits_any (b m : Int) (w : World) (m0 : 0 ≤ m) (m1 : m < 18446744073709551616) :
    Calls Tryd.prog 29 #[u64v b, u64v m] w fun e w' => e = .returned (.func (.func gW) #[] #[.pointer (some ⟨w.heap.size, 0, none⟩), .pointer (some ⟨w.heap.size + 1, 0, none⟩)]) ∧
      Boxed w' w.heap.size 25 (u64v b) ∧ Boxed w' (w.heap.size + 1) 25 (u64v (tI m)) ∧ Below w.heap.size w w' ∧ w'.heap.size = w.heap.size + 2 := by
  go_enter Tryd.func29, Tryd.ntmps29
  go_wp2_with fail
  refine (tick_any m _ m0 m1).mono ?_
  rintro e w2 ⟨rfl, rfl⟩
  go_wp2_with fail
  go_ret
  have bM := Boxed.new (w.alloc (.cells #[u64v b] 25)) 25 (u64v (tI m))
  rw [World.size_alloc] at bM
  exact ⟨rfl, (Boxed.new w 25 (u64v b)).alloc (.cells #[u64v (tI m)] 25), bM, ((Below.refl _ w).alloc (Nat.le_refl _) _).alloc (by simp) _, by simp⟩
end Go.Proofs.YtnfkkopegbeacaaDoor
