/- The reference of box: Looks. box and its reference: what number a text of 32 bytes has. -/
import Derived.Test.YtlnjpmpddomjiaaGreatDoorGmBxRef2
import Derived.Test.YtlnjpmpddomjiaaGreatDoorGmBxHandle
set_option maxRecDepth 100000
namespace Go.Proofs.YtlnjpmpddomjiaaGreatDoor
open Go.RowKit

set_option maxHeartbeats 1000000 in
theorem refLooks_short (B : Nat) (v : Value) (l : List UInt8) (w : World) (hv : Sl w B v l) (hl : l.length ≠ 32) :
    Calls Tryz.prog 54 #[v] w fun e w' => e = .returned (.tuple #[.int .i64 0, .bool false]) ∧ Below w.heap.size w w' := by
  obtain ⟨A, c, rfl, _, _, _, _⟩ := hv
  have hne : ((l.length : Int) != 32) = true := by simp; omega
  clear hl
  go_enter Tryz.func54, Tryz.ntmps54
  go_wp2_with fail
  go_quiet (fail)
  go_wp2_with fail
  go_ret2
  exact ⟨rfl, below_drewN (Below.refl _ _) _⟩
set_option maxHeartbeats 1000000 in
theorem refLooks_full (B : Nat) (v : Value) (l : List UInt8) (w : World) (hv : Sl w B v l) (hB : B ≤ w.heap.size) (hl : l.length = 32) (a b c d : UInt8) (hd : l.drop 28 = [a, b, c, d]) :
    Calls Tryz.prog 54 #[v] w fun e w' => e = .returned (.tuple #[.int .i64 (if looks l then (num4 a b c d : Int) else 0), .bool (looks l)]) ∧ Below w.heap.size w w' := by
  have HV := Lib.hid hv
  obtain ⟨A, cp, rfl, _, k1, k2, _⟩ := id hv
  have hlk : looks l = (l.take 28 == fro) := by unfold looks; rw [hl]; rfl
  obtain ⟨A', cp', e', h28, _, _, hs⟩ := hv.take 28 (by omega)
  injection e' with e1 _ e2
  subst e1; subst e2
  obtain ⟨V, hrun, hsl⟩ := slice_from A l.length cp 28 28 rfl (by omega) k1
  have HR := Lib.hid (show ∀ W, Below w.heap.size w W → Calls Tryz.prog 77 #[V] W fun e w' => e = .returned (.int .u64 (num4 a b c d : Int)) ∧ W = w' from fun W hW => by
    have hS := hsl W B l (HV.out.below hW hB) rfl
    rw [hd] at hS
    exact numRef4 B V a b c d W hS)
  clear hsl hd
  have hlt := num4_lt a b c d
  obtain ⟨N, hN⟩ : ∃ N : Int, N = (num4 a b c d : Int) := ⟨_, rfl⟩
  have hN0 : 0 ≤ N := by omega
  have hN1 : N < 4294967296 := by omega
  rw [← hN] at HR ⊢
  clear hN hlt
  rw [hlk]
  have HS := Lib.hid hs; clear hs hlk
  obtain ⟨t, ht⟩ : ∃ t, t = l.take 28 := ⟨_, rfl⟩
  rw [← ht] at HS ⊢
  clear ht hv
  have hrun28 := fun W => slice_h A l.length cp 28 h28 W
  rw [hl] at hrun hrun28 ⊢
  clear hl HV
  have HB' := Lib.hid hB
  have HSM : Hid (∀ (W : World) (v1 : Value), Below w.heap.size w W → Sl W W.heap.size v1 fro → Calls Tryz.prog 18 #[.slice A 28 cp, v1] W fun e w' => e = .returned (.bool (t == fro)) ∧ W = w') :=
    Lib.hid fun W v1 hW h1 => same_any B W.heap.size _ v1 t fro W (HS.out.below hW HB'.out) h1
  obtain ⟨b, hb⟩ : ∃ b, b = (t == fro) := ⟨_, rfl⟩
  rw [← hb] at HSM ⊢
  clear hb HS
  cases b
  all_goals
    go_enter Tryz.func54, Tryz.ntmps54
    go_wp2_with fail
    go_region_with (first
      | (go_at_call 76; refine (front_any _).mono ?_; rintro e w1 ⟨v1, rfl, ho, hb1⟩; have HO1 := Lib.hid ho.sl; clear ho; have HB1 := Lib.hid ((Below.refl w.heap.size w).drew.trans hb1); clear hb1)
      | (go_at_call 18; refine (HSM.out _ _ HB1.out HO1.out).mono ?_; rintro e w2 ⟨rfl, rfl⟩))
    all_goals
      go_wp2_with (go_at_call 77; refine (HR.out _ HB1.out).mono ?_; rintro e w2 ⟨rfl, rfl⟩)
      go_ret2
      exact ⟨rfl, HB1.out⟩
end Go.Proofs.YtlnjpmpddomjiaaGreatDoor
set_option maxRecDepth 100000
namespace Go.Proofs.YtlnjpmpddomjiaaGreatDoor
open Go.RowKit

/-- The number of a text that looks like a handle; else 0. -/
def tagN (l : List UInt8) : Nat := if looks l then (match l.drop 28 with | [a, b, c, d] => num4 a b c d | _ => 0) else 0
theorem tagN_no {l : List UInt8} (h : looks l = false) : tagN l = 0 := by unfold tagN; rw [h]; rfl
theorem tagN_yes {l : List UInt8} {a b c d : UInt8} (h : looks l = true) (hd : l.drop 28 = [a, b, c, d]) : tagN l = num4 a b c d := by unfold tagN; rw [h, hd]; rfl
theorem tagN_lt (l : List UInt8) : tagN l < 4294967296 := by
  cases h : looks l with
  | false => rw [tagN_no h]; decide
  | true =>
    obtain ⟨_, a, b, c, d, _, hd⟩ := looks_parts h
    rw [tagN_yes h hd]; exact num4_lt a b c d
theorem number_all (B : Nat) (v : Value) (l : List UInt8) (w : World) (hv : Sl w B v l) :
    Calls Tryz.prog 25 #[v] w fun e w' => e = .returned (.tuple #[.int .i64 (tagN l : Int), .bool (decide (0 < tagN l))]) ∧ ∃ q, w' = w.drewN q := by
  cases h : looks l with
  | false => rw [tagN_no h]; exact number_no B v l w hv h
  | true =>
    obtain ⟨_, a, b, c, d, _, hd⟩ := looks_parts h
    rw [tagN_yes h hd]; exact number_yes B v l a b c d w hv h hd
theorem refLooks_all (B : Nat) (v : Value) (l : List UInt8) (w : World) (hv : Sl w B v l) (hB : B ≤ w.heap.size) (hl : l.length = 32) :
    Calls Tryz.prog 54 #[v] w fun e w' => e = .returned (.tuple #[.int .i64 (tagN l : Int), .bool (looks l)]) ∧ Below w.heap.size w w' := by
  obtain ⟨a, b, c, d, hd⟩ : ∃ a b c d, l.drop 28 = [a, b, c, d] := by
    have h3 : (l.drop 28).length = 4 := by rw [List.length_drop]; omega
    match hd : l.drop 28, h3 with
    | [a, b, c, d], _ => exact ⟨a, b, c, d, rfl⟩
  refine (refLooks_full B v l w hv hB hl a b c d hd).mono ?_
  rintro e w' ⟨rfl, hb⟩
  refine ⟨?_, hb⟩
  cases h : looks l with
  | false => rw [tagN_no h]; rfl
  | true => rw [tagN_yes h hd]; rfl
/-- A handle's number is its own. -/
theorem tagN_handle (n : Nat) (h : n < 4294967296) : looks (fro ++ len4 n) = true ∧ tagN (fro ++ len4 n) = n := by
  have h1 : looks (fro ++ len4 n) = true := by
    unfold looks
    rw [List.take_left' fro_length, List.length_append, fro_length]
    simp [len4]
  exact ⟨h1, by rw [tagN_yes h1 (List.drop_left' fro_length), num4_len4 n h]⟩
end Go.Proofs.YtlnjpmpddomjiaaGreatDoor
