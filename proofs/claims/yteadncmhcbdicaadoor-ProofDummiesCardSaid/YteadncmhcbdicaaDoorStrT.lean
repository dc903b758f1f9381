/- A text cut: its front, its tail; the reference's CutText. -/
import Derived.Test.YteadncmhcbdicaaDoorSl
import Derived.WalkSpells
namespace Go.Proofs.YteadncmhcbdicaaDoor
open Go.RowKit
theorem extract_take (s : List UInt8) (m : Nat) : (ByteArray.mk s.toArray).extract 0 m = ByteArray.mk (s.take m).toArray := by
  apply ByteArray.ext
  simp [ByteArray.data_extract]
set_option maxHeartbeats 400000 in
theorem cutText_any (s : List UInt8) (n : Int) (w : World) (_hs : s.length ≤ 9223372036854775807) (h0 : 0 ≤ n) (hn : n ≤ 1000000) :
    Calls Tryd.prog 5 #[str s, .int .i64 n] w fun e w' => e = .returned (str (s.take n.toNat)) ∧ w = w' := by
  obtain ⟨m, rfl⟩ := Int.eq_ofNat_of_zero_le h0
  have ex : ∀ k : Nat, (ByteArray.mk s.toArray).extract 0 k = ByteArray.mk (s.take k).toArray := fun k => extract_take s k
  have EX := Lib.hid ex; clear ex
  by_cases hc : (s.length : Int) ≤ (m : Int)
  · have hc2 : s.length ≤ m := by omega
    have HT : Hid (s.take s.length = s.take m) := Lib.hid (by rw [List.take_length, List.take_of_length_le hc2])
    go_enter Tryd.func5, Tryd.ntmps5
    go_wp2_with fail
    go_ret
    exact ⟨congrArg (fun b => Ending.returned (.string b)) ((EX.out s.length).trans (by rw [HT.out]; rfl)), rfl⟩
  · have hc2 : ¬ s.length ≤ m := by omega
    go_enter Tryd.func5, Tryd.ntmps5
    go_wp2_with fail
    go_ret
    exact ⟨congrArg (fun b => Ending.returned (.string b)) (EX.out m), rfl⟩
theorem str_take (x : List UInt8) (n : Nat) (h : n ≤ x.length) (w : World) : (Instr.slice 9 (str x) none (some (.int .i64 (n : Int))) none).run Tryd.prog w = .ok (str (x.take n)) w := by
  go_simp
  exact extract_take x n
theorem extract_drop (s : List UInt8) (m : Nat) : (ByteArray.mk s.toArray).extract m s.length = ByteArray.mk (s.drop m).toArray := by
  apply ByteArray.ext
  simp [ByteArray.data_extract]
  exact List.take_of_length_le (by simp)
theorem str_drop (x : List UInt8) (n : Nat) (h : n ≤ x.length) (w : World) : (Instr.slice 9 (str x) (some (.int .i64 (n : Int))) none none).run Tryd.prog w = .ok (str (x.drop n)) w := by
  go_simp
  exact extract_drop x n

end Go.Proofs.YteadncmhcbdicaaDoor
