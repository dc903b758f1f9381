/- Copy of a Hash. -/
import Derived.Test.YtcjjhaonogfcjaaDoorHashN
namespace Go.Proofs.YtcjjhaonogfcjaaDoor
open Go.RowKit
set_option maxRecDepth 100000 in
set_option maxHeartbeats 1000000 in
theorem copyH_any (hb : Nat) (s : St) (rest : List UInt8) (n : Nat) (w : World) (h : HashAt w hb s rest n) :
    Calls Tryd.prog 49 #[.pointer (some ⟨hb, 0, none⟩)] w fun e w' => e = .returned (.pointer (some ⟨w.heap.size, 0, none⟩)) ∧ HashAt w' w.heap.size s rest n ∧ Below w.heap.size w w' := by
  obtain ⟨t, h1, h2⟩ := h
  have hz := zero_hash
  have HI := Lib.hid h1; clear h1
  have H2 := Lib.hid h2; clear h2
  have HL := Lib.hid (show (hcells s t n).toArray.size = 73 by rw [List.size_toArray, hcells_length _ _ _ HI.out.len])
  go_enter Tryd.func49, Tryd.ntmps49
  go_wp2_with (first
    | ((with_reducible refine wpList_load_mid ?a1 95 (.tmp 7) ?a2 hb 0 ?a3 (hcells s t n) _ HI.out.range Tryd.underlying95 ?a4 ?a5 ?_); (case a1 => rfl); (case a2 => rfl); (case a3 => rfl); (case a4 => rfl); (case a5 => rw [hcells_length _ _ _ HI.out.len]; exact info_h))
    | ((with_reducible refine wpList_store_mid ?b1 95 (.tmp 3) (.tmp 8) ?b2 w.heap.size 0 (hcells s t n).toArray ?b3 ?b4 ?b5 ?b6 (hcells_one s t n) ?_); (case b1 => rfl); (case b2 => rfl); (case b3 => rfl); (case b4 => rfl); (case b5 => rw [HL.out]; exact (Blk.newAt (cs := hzero) _ _ _ rfl rfl).there 0 73 (by decide)); (case b6 => rw [HL.out]; exact info_h)))
  go_ret
  refine ⟨rfl, ⟨t, ⟨?_, HI.out.len⟩, H2.out⟩, below_setCells (Nat.le_refl _) _ ((Below.refl _ _).alloc (Nat.le_refl _) _) 0⟩
  exact (Blk.newAt (cs := hzero) _ _ _ rfl rfl).setAll (by rw [hcells_length _ _ _ HI.out.len]; decide)
end Go.Proofs.YtcjjhaonogfcjaaDoor
