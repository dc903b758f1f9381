/- box: handles. -/
import Derived.Test.YtpfbpiegejbhkaaDoorBxNum
import Derived.Lib.BufferWrite
set_option maxRecDepth 100000
namespace Go.Proofs.YtpfbpiegejbhkaaDoor
open Go.RowKit

/-- How a handle begins. -/
def fro : List UInt8 := [241, 84, 82, 77, 0, 0, 0, 0, 0, 0, 0, 0, 0, 0, 0, 0, 0, 0, 0, 0, 0, 0, 0, 0, 0, 0, 0, 0]
abbrev froS : ByteArray := ⟨#[241, 84, 82, 77, 0, 0, 0, 0, 0, 0, 0, 0, 0, 0, 0, 0, 0, 0, 0, 0, 0, 0, 0, 0, 0, 0, 0, 0]⟩
theorem fro_eq : fro = [241, 84, 82, 77, 0, 0, 0, 0, 0, 0, 0, 0, 0, 0, 0, 0, 0, 0, 0, 0, 0, 0, 0, 0, 0, 0, 0, 0] := rfl
theorem fro_length : fro.length = 28 := rfl
theorem froS_str : Value.string froS = str fro := rfl
/-- Does a text look like a handle? -/
def looks (l : List UInt8) : Bool := l.length == 32 && l.take 28 == fro
attribute [irreducible] fro
theorem froS_size : froS.size = 28 := rfl
set_option maxHeartbeats 1000000 in
theorem looks_any (B : Nat) (v : Value) (l : List UInt8) (w : World) (hv : Sl w B v l) :
    Calls Tryd.prog 19 #[v] w fun e w' => e = .returned (.bool (looks l)) ∧ w = w' := by
  by_cases h32 : l.length = 32
  · obtain ⟨A, c, rfl, h28, hlc, hcm, hs⟩ := hv.take 28 (by omega)
    have hrun := slice_h A l.length c 28 h28 w
    have hcv := conv_sl hs
    have hst : str (l.take 28) = .string ⟨(l.take 28).toArray⟩ := rfl
    rw [hst] at hcv
    clear hst hs hv
    have HL := Lib.hid h32
    have hlk : Hid (looks l = (l.take 28 == fro)) := Lib.hid (by unfold looks; rw [h32]; rfl)
    obtain ⟨t, ht⟩ : ∃ t, t = l.take 28 := ⟨_, rfl⟩
    rw [← ht] at hcv hlk
    clear ht
    rw [h32] at hrun ⊢
    clear h32
    go_enter Tryd.func19, Tryd.ntmps19
    go_wp2_with fail
    go_ret
    rw [hlk.out, fro_eq]
    exact ⟨rfl, rfl⟩
  · obtain ⟨A, c, rfl, _, _, _, _⟩ := hv
    have hne : ((l.length : Int) == 32) = false := by simp; omega
    have hlk : looks l = false := by unfold looks; simp [h32]
    rw [hlk]
    clear hlk h32
    go_enter Tryd.func19, Tryd.ntmps19
    go_wp2_with fail
    go_ret
    exact ⟨rfl, rfl⟩
set_option maxHeartbeats 1000000 in
theorem appendNumber_any (base : Nat) (v : Value) (l : List UInt8) (n : Nat) (w : World) (ho : OwnB w base v l) (hB : base ≤ w.heap.size) (hl : l.length ≤ 100000) (hn : n < 4294967296) :
    Calls Tryd.prog 18 #[v, .int .i64 (n : Int)] w fun e w' => ∃ v', e = .returned v' ∧ OwnB w' base v' (l ++ len4 n) ∧ Below base w w' := by
  have HO := Lib.hid ho
  obtain ⟨A, c, rfl, _, _, _, _⟩ := ho.sl
  clear ho
  have HN := Lib.hid hn; clear hn
  obtain ⟨N, hN⟩ : ∃ N : Int, N = (n : Int) := ⟨_, rfl⟩
  rw [← hN]
  have h0 : 0 ≤ N := by omega
  have h1 : N < 4294967296 := by have := HN.out; omega
  have HNN := Lib.hid hN; clear hN
  have e1 : Value.int .u8 (N / 16777216) = vb (UInt8.ofNat (n / 16777216)) := by
    have e : bn (UInt8.ofNat (n / 16777216)) = N / 16777216 := by have h := HNN.out; have h2 := HN.out; unfold bn; rw [UInt8.toNat_ofNat']; omega
    rw [vb, e]
  have e2 : Value.int .u8 (N / 65536 % 256) = vb (UInt8.ofNat (n / 65536)) := by
    have e : bn (UInt8.ofNat (n / 65536)) = N / 65536 % 256 := by have h := HNN.out; unfold bn; rw [UInt8.toNat_ofNat']; omega
    rw [vb, e]
  have e3 : Value.int .u8 (N / 256 % 256) = vb (UInt8.ofNat (n / 256)) := by
    have e : bn (UInt8.ofNat (n / 256)) = N / 256 % 256 := by have h := HNN.out; unfold bn; rw [UInt8.toNat_ofNat']; omega
    rw [vb, e]
  have e4 : Value.int .u8 (N % 256) = vb (UInt8.ofNat n) := by
    have e : bn (UInt8.ofNat n) = N % 256 := by have h := HNN.out; unfold bn; rw [UInt8.toNat_ofNat']; omega
    rw [vb, e]
  have HSN : Hid (Sl (w.alloc (.cells #[.int .u8 (N / 16777216), .int .u8 (N / 65536 % 256), .int .u8 (N / 256 % 256), .int .u8 (N % 256)] 5)) (w.heap.size + 1) (.slice (some ⟨w.heap.size, 0, none⟩) 4 4) (len4 n)) :=
    Lib.hid (Sl.newA w _ _ (len4 n) (by rw [e1, e2, e3, e4]; rfl) rfl rfl (by omega) (by simp [len4]))
  clear e1 e2 e3 e4
  have HOA := Lib.hid (fun o => HO.out.below ((Below.refl w.heap.size w).alloc (Nat.le_refl _) o))
  have HBA := Lib.hid (fun o => ((Below.refl w.heap.size w).alloc (Nat.le_refl _) o).mono hB)
  have hl4 : (len4 n).length = 4 := rfl
  go_enter Tryd.func18, Tryd.ntmps18
  go_wp2_with (at_builtin; ((with_reducible refine wpList_app_sl ?g1 (.tmp 5) (.tmp 17) ?g2 base (.slice A l.length c) l (len4 n) ?g3 ?g4 (w.heap.size + 1) (.slice (some ⟨w.heap.size, 0, none⟩) 4 4) ?g5 ?g6 ?g7 ?g8 ?_); (case g1 => rfl); (case g2 => rfl); (case g3 => rfl); (case g4 => exact HOA.out _); (case g5 => rfl); (case g6 => exact HSN.out); (case g7 => rw [hl4]; omega); (case g8 => simp; omega); intro v' w1 hv hg; have Hv := Lib.hid hv; have Hg := Lib.hid ((HBA.out _).trans ((HOA.out _).belowBase hg (by simp; omega))); clear hv hg))
  go_ret
  exact ⟨v', rfl, Hv.out, Hg.out⟩
theorem copy_fro (w : World) : ∃ W1, (∀ ty, (Builtin.copy_ #[23, 9] ty #[.slice (some ⟨w.heap.size, 0, none⟩) 32 32, .string froS]).run Tryd.prog (w.alloc (.cells (noughts 32) 5)) = .ok (.int .i64 28) W1) ∧
    OwnB W1 w.heap.size (.slice (some ⟨w.heap.size, 0, none⟩) 28 32) fro ∧ Below w.heap.size w W1 ∧ w.heap.size < W1.heap.size := by
  have hg := heap_alloc_new w (.cells (noughts 32) 5)
  refine ⟨_, fun ty => Lib.run_copy_row_string (P := Tryd.prog) _ 23 9 ty 5 w.heap.size 0 32 32 froS (noughts 32) 5 Tryd.underlying23 (by kernel_rfl) hg (by decide) (by rw [noughts_size]; decide), ?_, ?_, ?_⟩
  · refine OwnB.of_heap (Nat.le_refl _) (setRow_heap _ _ _ _ _ _ hg) ?_ (by unfold maxLen; omega) fro_length ?_ (by omega)
    · kernel_rfl
    · rw [fro_eq]; kernel_rfl
  · exact below_setRow ((Below.refl _ _).alloc (Nat.le_refl _) _) (Nat.le_refl _) _
  · simp
end Go.Proofs.YtpfbpiegejbhkaaDoor
