/- The reference of box: Looks. -/
import Derived.Test.YtpfbpiegejbhkaaDoorBxRef2
set_option maxRecDepth 100000
namespace Go.Proofs.YtpfbpiegejbhkaaDoor
open Go.RowKit

set_option maxHeartbeats 1000000 in
theorem refLooks_short (B : Nat) (v : Value) (l : List UInt8) (w : World) (hv : Sl w B v l) (hl : l.length ≠ 32) :
    Calls Tryd.prog 23 #[v] w fun e w' => e = .returned (.tuple #[.int .i64 0, .bool false]) ∧ Below w.heap.size w w' := by
  obtain ⟨A, c, rfl, _, _, _, _⟩ := hv
  have hne : ((l.length : Int) != 32) = true := by simp; omega
  clear hl
  go_enter Tryd.func23, Tryd.ntmps23
  go_wp2_with fail
  go_quiet (fail)
  go_wp2_with fail
  go_ret2
  exact ⟨rfl, below_drewN (Below.refl _ _) _⟩
set_option maxHeartbeats 1000000 in
theorem refLooks_full (B : Nat) (v : Value) (l : List UInt8) (w : World) (hv : Sl w B v l) (hB : B ≤ w.heap.size) (hl : l.length = 32) (a b c d : UInt8) (hd : l.drop 28 = [a, b, c, d]) :
    Calls Tryd.prog 23 #[v] w fun e w' => e = .returned (.tuple #[.int .i64 (if looks l then (num4 a b c d : Int) else 0), .bool (looks l)]) ∧ Below w.heap.size w w' := by
  have HV := Lib.hid hv
  obtain ⟨A, cp, rfl, _, k1, k2, _⟩ := id hv
  have hlk : looks l = (l.take 28 == fro) := by unfold looks; rw [hl]; rfl
  obtain ⟨A', cp', e', h28, _, _, hs⟩ := hv.take 28 (by omega)
  injection e' with e1 _ e2
  subst e1; subst e2
  obtain ⟨V, hrun, hsl⟩ := slice_from A l.length cp 28 28 rfl (by omega) k1
  have HR := Lib.hid (show ∀ W, Below w.heap.size w W → Calls Tryd.prog 33 #[V] W fun e w' => e = .returned (.int .u64 (num4 a b c d : Int)) ∧ W = w' from fun W hW => by
    have hS := hsl W B l (HV.out.below hW hB) rfl
    rw [hd] at hS
    exact numRef4 B V a b c d W hS)
  clear hsl hd
  have hlt := num4_lt a b c d
  obtain ⟨N, hN⟩ : ∃ N : Int, N = (num4 a b c d : Int) := ⟨_, rfl⟩
  have hN0 : 0 ≤ N := by omega
  have hN1 : N < 4294967296 := by omega
  rw [← hN] at HR ⊢
  clear hN hlt
  rw [hlk]
  have HS := Lib.hid hs; clear hs hlk
  obtain ⟨t, ht⟩ : ∃ t, t = l.take 28 := ⟨_, rfl⟩
  rw [← ht] at HS ⊢
  clear ht hv
  have hrun28 := fun W => slice_h A l.length cp 28 h28 W
  rw [hl] at hrun hrun28 ⊢
  clear hl HV
  have HB' := Lib.hid hB
  have HSM : Hid (∀ (W : World) (v1 : Value), Below w.heap.size w W → Sl W W.heap.size v1 fro → Calls Tryd.prog 7 #[.slice A 28 cp, v1] W fun e w' => e = .returned (.bool (t == fro)) ∧ W = w') :=
    Lib.hid fun W v1 hW h1 => same_any B W.heap.size _ v1 t fro W (HS.out.below hW HB'.out) h1
  obtain ⟨b, hb⟩ : ∃ b, b = (t == fro) := ⟨_, rfl⟩
  rw [← hb] at HSM ⊢
  clear hb HS
  cases b
  all_goals
    go_enter Tryd.func23, Tryd.ntmps23
    go_wp2_with fail
    go_region_with (first
      | (go_at_call 21; refine (front_any _).mono ?_; rintro e w1 ⟨v1, rfl, ho, hb1⟩; have HO1 := Lib.hid ho.sl; clear ho; have HB1 := Lib.hid ((Below.refl w.heap.size w).drew.trans hb1); clear hb1)
      | (go_at_call 7; refine (HSM.out _ _ HB1.out HO1.out).mono ?_; rintro e w2 ⟨rfl, rfl⟩))
    all_goals
      go_wp2_with (go_at_call 33; refine (HR.out _ HB1.out).mono ?_; rintro e w2 ⟨rfl, rfl⟩)
      go_ret2
      exact ⟨rfl, HB1.out⟩
end Go.Proofs.YtpfbpiegejbhkaaDoor
