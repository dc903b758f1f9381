/- New, Len, Copy, Sum of a Hash. -/
import Derived.Test.YteadncmhcbdicaaDoorHashAt
namespace Go.Proofs.YteadncmhcbdicaaDoor
open Go.RowKit
/-- A Hash's cells, all nought. -/
def hzero : List Value := List.replicate 8 (.int .u32 0) ++ (List.replicate 64 (.int .u8 0) ++ [.int .u64 0])
theorem zero_hash (W : World) : (zeroValue 73).run Tryd.prog W = .ok (.agg hzero.toArray) W := by kernel_rfl
theorem first_cells : hcells St.first (List.replicate 64 0) 0 = [Value.int .u32 1779033703, .int .u32 3144134277, .int .u32 1013904242, .int .u32 2773480762, .int .u32 1359893119, .int .u32 2600822924, .int .u32 528734635, .int .u32 1541459225] ++ (List.replicate 64 (.int .u8 0) ++ [.int .u64 0]) := by
  unfold hcells; rfl
theorem hash_of (w : World) (cs : Array Value) (hcs : cs.toList = hcells St.first (List.replicate 64 0) 0) (t : TypeId) : HashM (w.alloc (.cells cs t)) w.heap.size [] := by
  unfold HashM
  rw [stOf_small _ [] (by decide)]
  exact ⟨List.replicate 64 0, ⟨Blk.newAt w cs t rfl hcs, by simp⟩, rfl⟩
set_option maxRecDepth 100000 in
set_option maxHeartbeats 1000000 in
theorem new_any (w : World) : Calls Tryd.prog 24 #[] w fun e w' => e = .returned (.pointer (some ⟨w.heap.size, 0, none⟩)) ∧ HashM w' w.heap.size [] ∧ Below w.heap.size w w' := by
  have hz := zero_hash
  have hs : hzero.toArray.size = 73 := by decide
  go_enter Tryd.func24, Tryd.ntmps24
  go_wp2_with fail
  go_ret
  refine ⟨rfl, hash_of w _ ?_ _, (Below.refl _ _).alloc (Nat.le_refl _) _⟩
  rw [first_cells]
  simp
  rfl
theorem info_h : (Tryd.prog.info? 73).map (·.size) = some 73 := by kernel_rfl
theorem hcells_one (s : St) (t : List UInt8) (n : Nat) : (hcells s t n).toArray.all (·.oneCell') = true := by
  refine all_oneCell_toArray fun v hv => ?_
  unfold hcells at hv
  rw [List.mem_append, List.mem_append, List.mem_map, List.mem_singleton] at hv
  rcases hv with hv | ⟨b, _, rfl⟩ | rfl
  · exact cells_one s v hv
  · rfl
  · rfl
theorem HashIs.range {w : World} {b : Nat} {s : St} {t : List UInt8} {n : Nat} (h : HashIs w b s t n) : w.rangeAt b 0 (hcells s t n) := by
  have := h.blk.range 0 73
  rwa [List.drop_zero, List.take_of_length_le (by rw [hcells_length _ _ _ h.len]; omega)] at this
end Go.Proofs.YteadncmhcbdicaaDoor
