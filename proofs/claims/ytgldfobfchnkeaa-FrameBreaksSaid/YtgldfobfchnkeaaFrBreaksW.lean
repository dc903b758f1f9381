/- FrameBreaks over numbers as they come in. -/
import Derived.Test.YtgldfobfchnkeaaFrBreaks
namespace Go.Proofs.Ytgldfobfchnkeaa
open Go.RowKit
theorem u8_of_wf {n : Int} (h : (Lit.int .u8 n).wf = true) : ∃ k : UInt8, n = bn k := by
  have h2 : 0 ≤ n ∧ n < 256 := by
    simp [Lit.wf, IntKind.min, IntKind.max, IntKind.bits, IntKind.signed] at h
    omega
  refine ⟨UInt8.ofNat n.toNat, ?_⟩
  unfold bn; rw [UInt8.toNat_ofNat']; omega
theorem u16_of_wf {n : Int} (h : (Lit.int .u16 n).wf = true) : ∃ k : Nat, n = (k : Int) ∧ k < 65536 := by
  have h2 : 0 ≤ n ∧ n < 65536 := by
    simp [Lit.wf, IntKind.min, IntKind.max, IntKind.bits, IntKind.signed] at h
    omega
  exact ⟨n.toNat, by omega, by omega⟩
theorem breaks_w (B : Nat) (v1 : Value) (l1 : List UInt8) (k n : Int) (v2 : Value) (l2 : List UInt8) (w : World) (h1 : Sl w B v1 l1) (hk : (Lit.int .u8 k).wf = true) (hn : (Lit.int .u16 n).wf = true) (h2 : Sl w B v2 l2) (hB : B ≤ w.heap.size) :
    Calls Try.prog 7 #[v1, .int .u8 k, .int .u16 n, v2] w fun e w' => e = .returned (.bool true) ∧ Below w.heap.size w w' := by
  obtain ⟨k', rfl⟩ := u8_of_wf hk
  obtain ⟨n', rfl, hn'⟩ := u16_of_wf hn
  exact breaks_any B k' n' hn' v1 v2 l1 l2 w h1 h2 hB
end Go.Proofs.Ytgldfobfchnkeaa
