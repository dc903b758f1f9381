/- New, Len, Copy, Sum of a Hash. -/
import Derived.Test.YtjaclccjccjljaaDoorHashAt
namespace Go.Proofs.YtjaclccjccjljaaDoor
open Go.RowKit
/-- A Hash's cells, all nought. -/
def hzero : List Value := List.replicate 8 (.int .u32 0) ++ (List.replicate 64 (.int .u8 0) ++ [.int .u64 0])
theorem zero_hash (W : World) : (zeroValue 69).run Tryd.prog W = .ok (.agg hzero.toArray) W := by kernel_rfl
theorem first_cells : hcells St.first (List.replicate 64 0) 0 = [Value.int .u32 1779033703, .int .u32 3144134277, .int .u32 1013904242, .int .u32 2773480762, .int .u32 1359893119, .int .u32 2600822924, .int .u32 528734635, .int .u32 1541459225] ++ (List.replicate 64 (.int .u8 0) ++ [.int .u64 0]) := by
  unfold hcells; rfl
theorem hash_of (w : World) (cs : Array Value) (hcs : cs.toList = hcells St.first (List.replicate 64 0) 0) (t : TypeId) : HashM (w.alloc (.cells cs t)) w.heap.size [] := by
  unfold HashM
  rw [stOf_small _ [] (by decide)]
  exact ⟨List.replicate 64 0, ⟨Blk.newAt w cs t rfl hcs, by simp⟩, rfl⟩
set_option maxRecDepth 100000 in
set_option maxHeartbeats 1000000 in
theorem new_any (w : World) : Calls Tryd.prog 44 #[] w fun e w' => e = .returned (.pointer (some ⟨w.heap.size, 0, none⟩)) ∧ HashM w' w.heap.size [] ∧ Below w.heap.size w w' := by
  have hz := zero_hash
  have hs : hzero.toArray.size = 73 := by decide
  go_enter Tryd.func44, Tryd.ntmps44
  go_wp2_with fail
  go_ret
  refine ⟨rfl, hash_of w _ ?_ _, (Below.refl _ _).alloc (Nat.le_refl _) _⟩
  rw [first_cells]
  simp
  rfl
theorem info_h : (Tryd.prog.info? 69).map (·.size) = some 73 := by kernel_rfl
theorem hcells_one (s : St) (t : List UInt8) (n : Nat) : (hcells s t n).toArray.all (·.oneCell') = true := by
  refine all_oneCell_toArray fun v hv => ?_
  unfold hcells at hv
  rw [List.mem_append, List.mem_append, List.mem_map, List.mem_singleton] at hv
  rcases hv with hv | ⟨b, _, rfl⟩ | rfl
  · exact cells_one s v hv
  · rfl
  · rfl
theorem HashIs.range {w : World} {b : Nat} {s : St} {t : List UInt8} {n : Nat} (h : HashIs w b s t n) : w.rangeAt b 0 (hcells s t n) := by
  have := h.blk.range 0 73
  rwa [List.drop_zero, List.take_of_length_le (by rw [hcells_length _ _ _ h.len]; omega)] at this
set_option maxRecDepth 100000 in
set_option maxHeartbeats 1000000 in
theorem copyH_any (hb : Nat) (s : St) (rest : List UInt8) (n : Nat) (w : World) (h : HashAt w hb s rest n) :
    Calls Tryd.prog 33 #[.pointer (some ⟨hb, 0, none⟩)] w fun e w' => e = .returned (.pointer (some ⟨w.heap.size, 0, none⟩)) ∧ HashAt w' w.heap.size s rest n ∧ Below w.heap.size w w' := by
  obtain ⟨t, h1, h2⟩ := h
  have hz := zero_hash
  have HI := Lib.hid h1; clear h1
  have H2 := Lib.hid h2; clear h2
  have HL := Lib.hid (show (hcells s t n).toArray.size = 73 by rw [List.size_toArray, hcells_length _ _ _ HI.out.len])
  go_enter Tryd.func33, Tryd.ntmps33
  go_wp2_with (first
    | ((with_reducible refine wpList_load_mid ?a1 69 (.tmp 7) ?a2 hb 0 ?a3 (hcells s t n) _ HI.out.range Tryd.underlying69 ?a4 ?a5 ?_); (case a1 => rfl); (case a2 => rfl); (case a3 => rfl); (case a4 => rfl); (case a5 => rw [hcells_length _ _ _ HI.out.len]; exact info_h))
    | ((with_reducible refine wpList_store_mid ?b1 69 (.tmp 3) (.tmp 8) ?b2 w.heap.size 0 (hcells s t n).toArray ?b3 ?b4 ?b5 ?b6 (hcells_one s t n) ?_); (case b1 => rfl); (case b2 => rfl); (case b3 => rfl); (case b4 => rfl); (case b5 => rw [HL.out]; exact (Blk.newAt (cs := hzero) _ _ _ rfl rfl).there 0 73 (by decide)); (case b6 => rw [HL.out]; exact info_h)))
  go_ret
  refine ⟨rfl, ⟨t, ⟨?_, HI.out.len⟩, H2.out⟩, below_setCells (Nat.le_refl _) _ ((Below.refl _ _).alloc (Nat.le_refl _) _) 0⟩
  exact (Blk.newAt (cs := hzero) _ _ _ rfl rfl).setAll (by rw [hcells_length _ _ _ HI.out.len]; decide)
end Go.Proofs.YtjaclccjccjljaaDoor
