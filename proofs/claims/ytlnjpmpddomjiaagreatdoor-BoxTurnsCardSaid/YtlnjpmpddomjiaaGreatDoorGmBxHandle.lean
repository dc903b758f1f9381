/- box: what looks like a handle. box: Handle and Number; the reference's Handle and Looks. -/
import Derived.Test.YtlnjpmpddomjiaaGreatDoorGmSame
import Derived.Test.YtlnjpmpddomjiaaGreatDoorGmBxHa
set_option maxRecDepth 100000
namespace Go.Proofs.YtlnjpmpddomjiaaGreatDoor
open Go.RowKit
set_option maxHeartbeats 1000000 in
theorem looks_any (B : Nat) (v : Value) (l : List UInt8) (w : World) (hv : Sl w B v l) :
    Calls Tryz.prog 45 #[v] w fun e w' => e = .returned (.bool (looks l)) ∧ w = w' := by
  by_cases h32 : l.length = 32
  · obtain ⟨A, c, rfl, h28, hlc, hcm, hs⟩ := hv.take 28 (by omega)
    have hrun := slice_h A l.length c 28 h28 w
    have hcv := conv_sl hs
    have hst : str (l.take 28) = .string ⟨(l.take 28).toArray⟩ := rfl
    rw [hst] at hcv
    clear hst hs hv
    have HL := Lib.hid h32
    have hlk : Hid (looks l = (l.take 28 == fro)) := Lib.hid (by unfold looks; rw [h32]; rfl)
    obtain ⟨t, ht⟩ : ∃ t, t = l.take 28 := ⟨_, rfl⟩
    rw [← ht] at hcv hlk
    clear ht
    rw [h32] at hrun ⊢
    clear h32
    go_enter Tryz.func45, Tryz.ntmps45
    go_wp2_with fail
    go_ret
    rw [hlk.out, fro_eq]
    exact ⟨rfl, rfl⟩
  · obtain ⟨A, c, rfl, _, _, _, _⟩ := hv
    have hne : ((l.length : Int) == 32) = false := by simp; omega
    have hlk : looks l = false := by unfold looks; simp [h32]
    rw [hlk]
    clear hlk h32
    go_enter Tryz.func45, Tryz.ntmps45
    go_wp2_with fail
    go_ret
    exact ⟨rfl, rfl⟩
end Go.Proofs.YtlnjpmpddomjiaaGreatDoor
set_option maxRecDepth 100000
namespace Go.Proofs.YtlnjpmpddomjiaaGreatDoor
open Go.RowKit

set_option maxHeartbeats 1000000 in
theorem number_no (B : Nat) (v : Value) (l : List UInt8) (w : World) (hv : Sl w B v l) (h : looks l = false) :
    Calls Tryz.prog 25 #[v] w fun e w' => e = .returned (.tuple #[.int .i64 0, .bool false]) ∧ ∃ q, w' = w.drewN q := by
  have HL := looks_any B v l w hv
  rw [h] at HL
  have HC := Lib.hid HL; clear HL h hv
  go_enter Tryz.func25, Tryz.ntmps25
  go_wp2_with fail
  refine HC.out.mono ?_
  rintro e w2 ⟨rfl, rfl⟩
  go_wp2_with fail
  go_ret2
  exact ⟨rfl, 0, rfl⟩
theorem looks_parts {l : List UInt8} (h : looks l = true) : l.length = 32 ∧ ∃ a b c d, l = fro ++ [a, b, c, d] ∧ l.drop 28 = [a, b, c, d] := by
  unfold looks at h
  simp only [Bool.and_eq_true, beq_iff_eq] at h
  obtain ⟨h1, h2⟩ := h
  have h3 : (l.drop 28).length = 4 := by rw [List.length_drop]; omega
  refine ⟨h1, ?_⟩
  match hd : l.drop 28, h3 with
  | [a, b, c, d], _ => exact ⟨a, b, c, d, by rw [← h2, ← hd, List.take_append_drop], rfl⟩
set_option maxHeartbeats 1000000 in
theorem number_yes (B : Nat) (v : Value) (l : List UInt8) (a b c d : UInt8) (w : World) (hv : Sl w B v l) (h : looks l = true) (hd : l.drop 28 = [a, b, c, d]) :
    Calls Tryz.prog 25 #[v] w fun e w' => e = .returned (.tuple #[.int .i64 (num4 a b c d : Int), .bool (decide (0 < num4 a b c d))]) ∧ ∃ q, w' = w.drewN q := by
  have HL := looks_any B v l w hv
  rw [h] at HL
  have HC := Lib.hid HL; clear HL
  obtain ⟨h32, _⟩ := looks_parts h
  obtain ⟨A, cp, rfl, _, k1, k2, _⟩ := id hv
  obtain ⟨V, hrun, hsl⟩ := slice_from A l.length cp 28 28 rfl (by omega) k1
  have hS := hsl w B l hv rfl
  rw [hd] at hS
  have HR := Lib.hid (readNumber_any B V a b c d w hS)
  clear hS hsl h hd hv
  obtain ⟨n, hn⟩ : ∃ n, n = num4 a b c d := ⟨_, rfl⟩
  rw [← hn] at HR ⊢
  clear hn
  rw [h32] at HC hrun ⊢
  clear h32
  go_enter Tryz.func25, Tryz.ntmps25
  go_wp2_with fail
  refine HC.out.mono ?_
  rintro e w2 ⟨rfl, rfl⟩
  go_wp2_with fail
  refine HR.out.mono ?_
  rintro e w2 ⟨rfl, q, rfl⟩
  go_wp2_with fail
  go_ret2
  exact ⟨rfl, q, rfl⟩
end Go.Proofs.YtlnjpmpddomjiaaGreatDoor
