/- FramePacks over a kind as it comes in. -/
import Derived.Test.YtgldfobfchnkeaaFrPacks
namespace Go.Proofs.Ytgldfobfchnkeaa
open Go.RowKit
theorem u8_of_wf {n : Int} (h : (Lit.int .u8 n).wf = true) : ∃ k : UInt8, n = bn k := by
  have h2 : 0 ≤ n ∧ n < 256 := by
    simp [Lit.wf, IntKind.min, IntKind.max, IntKind.bits, IntKind.signed] at h
    omega
  refine ⟨UInt8.ofNat n.toNat, ?_⟩
  unfold bn; rw [UInt8.toNat_ofNat']; omega
theorem packs_w (B : Nat) (n : Int) (v1 : Value) (l1 : List UInt8) (v2 : Value) (l2 : List UInt8) (w : World) (hn : (Lit.int .u8 n).wf = true) (h1 : Sl w B v1 l1) (h2 : Sl w B v2 l2) (hB : B ≤ w.heap.size) :
    Calls Try.prog 3 #[.int .u8 n, v1, v2] w fun e w' => e = .returned (.bool true) ∧ Below w.heap.size w w' := by
  obtain ⟨k, rfl⟩ := u8_of_wf hn
  exact packs_any B k v1 v2 l1 l2 w h1 h2 hB
end Go.Proofs.Ytgldfobfchnkeaa
