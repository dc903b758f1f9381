/- The reference's CutText, where there are no bytes. -/
import Derived.Test.YtipgjpmaflcpkaaTbApi
import Derived.WalkSpells
namespace Go.Proofs.Ytipgjpmaflcpkaa
open Go.RowKit
theorem extract_take (s : List UInt8) (m : Nat) : (ByteArray.mk s.toArray).extract 0 m = ByteArray.mk (s.take m).toArray := by
  apply ByteArray.ext
  simp [ByteArray.data_extract]
set_option maxHeartbeats 400000 in
theorem cutText_any (s : List UInt8) (n : Int) (w : World) (_hs : s.length ≤ 9223372036854775807) (h0 : 0 ≤ n) (hn : n ≤ 1000000) :
    Calls Try.prog 9 #[.string ⟨s.toArray⟩, .int .i64 n] w fun e w' => e = .returned (.string ⟨(s.take n.toNat).toArray⟩) ∧ w = w' := by
  obtain ⟨m, rfl⟩ := Int.eq_ofNat_of_zero_le h0
  have ex : ∀ k : Nat, (ByteArray.mk s.toArray).extract 0 k = ByteArray.mk (s.take k).toArray := fun k => extract_take s k
  have EX := Lib.hid ex; clear ex
  by_cases hc : (s.length : Int) ≤ (m : Int)
  · have hc2 : s.length ≤ m := by omega
    have HT : Hid (s.take s.length = s.take m) := Lib.hid (by rw [List.take_length, List.take_of_length_le hc2])
    go_enter Try.func9, Try.ntmps9
    go_wp2_with fail
    go_ret
    exact ⟨congrArg (fun b => Ending.returned (.string b)) ((EX.out s.length).trans (by rw [HT.out]; rfl)), rfl⟩
  · have hc2 : ¬ s.length ≤ m := by omega
    go_enter Try.func9, Try.ntmps9
    go_wp2_with fail
    go_ret
    exact ⟨congrArg (fun b => Ending.returned (.string b)) (EX.out m), rfl⟩
end Go.Proofs.Ytipgjpmaflcpkaa
