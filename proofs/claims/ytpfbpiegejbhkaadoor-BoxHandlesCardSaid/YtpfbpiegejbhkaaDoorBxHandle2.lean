/- box: Handle and Number; the reference's Handle and Looks. -/
import Derived.Test.YtpfbpiegejbhkaaDoorBxHandle
set_option maxRecDepth 100000
namespace Go.Proofs.YtpfbpiegejbhkaaDoor
open Go.RowKit

set_option maxHeartbeats 1000000 in
theorem handle_any (n : Nat) (hn : n < 4294967296) (w : World) :
    Calls Tryd.prog 5 #[.int .i64 (n : Int)] w fun e w' => ∃ v', e = .returned v' ∧ OwnB w' w.heap.size v' (fro ++ len4 n) ∧ Below w.heap.size w w' := by
  have hmk : ∀ W : World, (Instr.makeSlice 23 (.int .i64 32) (.int .i64 32)).run Tryd.prog W = .ok (.slice (some ⟨W.heap.size, 0, none⟩) 32 32) (W.alloc (.cells (noughts 32) 5)) := make_bytes 32 32 (by omega) (by omega)
  obtain ⟨W1, hcp, hO, hB, hsz⟩ := copy_fro w
  have hrun : ∀ W : World, (Instr.slice 23 (.slice (some ⟨w.heap.size, 0, none⟩) 32 32) none (some (.int .i64 28)) none).run Tryd.prog W = .ok (.slice (some ⟨w.heap.size, 0, none⟩) 28 32) W := slice_h _ 32 32 28 (by omega)
  have HO := Lib.hid hO; clear hO
  have HB := Lib.hid hB; clear hB
  have HN := Lib.hid hn; clear hn
  go_enter Tryd.func5, Tryd.ntmps5
  go_wp2_with fail
  refine (appendNumber_any w.heap.size _ fro n W1 HO.out (by omega) (by rw [fro_length]; omega) HN.out).mono ?_
  rintro e w2 ⟨v', rfl, hv, hb⟩
  have HV := Lib.hid hv; clear hv
  have HB2 := Lib.hid (HB.out.trans hb); clear hb
  go_wp2_with fail
  go_ret
  exact ⟨v', rfl, HV.out, HB2.out⟩
set_option maxHeartbeats 1000000 in
theorem number_no (B : Nat) (v : Value) (l : List UInt8) (w : World) (hv : Sl w B v l) (h : looks l = false) :
    Calls Tryd.prog 6 #[v] w fun e w' => e = .returned (.tuple #[.int .i64 0, .bool false]) ∧ ∃ q, w' = w.drewN q := by
  have HL := looks_any B v l w hv
  rw [h] at HL
  have HC := Lib.hid HL; clear HL h hv
  go_enter Tryd.func6, Tryd.ntmps6
  go_wp2_with fail
  refine HC.out.mono ?_
  rintro e w2 ⟨rfl, rfl⟩
  go_wp2_with fail
  go_ret2
  exact ⟨rfl, 0, rfl⟩
theorem looks_parts {l : List UInt8} (h : looks l = true) : l.length = 32 ∧ ∃ a b c d, l = fro ++ [a, b, c, d] ∧ l.drop 28 = [a, b, c, d] := by
  unfold looks at h
  simp only [Bool.and_eq_true, beq_iff_eq] at h
  obtain ⟨h1, h2⟩ := h
  have h3 : (l.drop 28).length = 4 := by rw [List.length_drop]; omega
  refine ⟨h1, ?_⟩
  match hd : l.drop 28, h3 with
  | [a, b, c, d], _ => exact ⟨a, b, c, d, by rw [← h2, ← hd, List.take_append_drop], rfl⟩
set_option maxHeartbeats 1000000 in
theorem number_yes (B : Nat) (v : Value) (l : List UInt8) (a b c d : UInt8) (w : World) (hv : Sl w B v l) (h : looks l = true) (hd : l.drop 28 = [a, b, c, d]) :
    Calls Tryd.prog 6 #[v] w fun e w' => e = .returned (.tuple #[.int .i64 (num4 a b c d : Int), .bool (decide (0 < num4 a b c d))]) ∧ ∃ q, w' = w.drewN q := by
  have HL := looks_any B v l w hv
  rw [h] at HL
  have HC := Lib.hid HL; clear HL
  obtain ⟨h32, _⟩ := looks_parts h
  obtain ⟨A, cp, rfl, _, k1, k2, _⟩ := id hv
  obtain ⟨V, hrun, hsl⟩ := slice_from A l.length cp 28 28 rfl (by omega) k1
  have hS := hsl w B l hv rfl
  rw [hd] at hS
  have HR := Lib.hid (readNumber_any B V a b c d w hS)
  clear hS hsl h hd hv
  obtain ⟨n, hn⟩ : ∃ n, n = num4 a b c d := ⟨_, rfl⟩
  rw [← hn] at HR ⊢
  clear hn
  rw [h32] at HC hrun ⊢
  clear h32
  go_enter Tryd.func6, Tryd.ntmps6
  go_wp2_with fail
  refine HC.out.mono ?_
  rintro e w2 ⟨rfl, rfl⟩
  go_wp2_with fail
  refine HR.out.mono ?_
  rintro e w2 ⟨rfl, q, rfl⟩
  go_wp2_with fail
  go_ret2
  exact ⟨rfl, q, rfl⟩
end Go.Proofs.YtpfbpiegejbhkaaDoor
