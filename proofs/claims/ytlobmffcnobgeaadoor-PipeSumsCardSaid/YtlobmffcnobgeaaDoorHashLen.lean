/- Len of a Hash. -/
import Derived.Test.YtlobmffcnobgeaaDoorHashN
namespace Go.Proofs.YtlobmffcnobgeaaDoor
open Go.RowKit
theorem len_any (hb : Nat) (s : St) (rest : List UInt8) (n : Nat) (w : World) (h : HashAt w hb s rest n) :
    Calls Tryd.prog 31 #[.pointer (some ⟨hb, 0, none⟩)] w fun e w' => e = .returned (.int .u64 (un n)) ∧ w = w' := by
  obtain ⟨t, h1, h2⟩ := h
  have hc := h1.blk.at (hcells_total s t n h1.len)
  clear h1 h2
  go_enter Tryd.func31, Tryd.ntmps31
  go_wp2_with fail
  go_ret
  exact ⟨rfl, rfl⟩
end Go.Proofs.YtlobmffcnobgeaaDoor
