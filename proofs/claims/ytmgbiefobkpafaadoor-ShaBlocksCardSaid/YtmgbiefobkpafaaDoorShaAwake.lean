/- The nil Hash; the document's example. -/
import Derived.Test.YtmgbiefobkpafaaDoorShaSum
import Derived.Test.YtmgbiefobkpafaaDoorSlsN
import Derived.Test.YtmgbiefobkpafaaDoorShHex2
import Derived.Lib.SlBytesConst
namespace Go.Proofs.YtmgbiefobkpafaaDoor
open Go.RowKit
set_option maxRecDepth 100000 in
set_option maxHeartbeats 1000000 in
theorem awake1 (w : World) (hT : TabA w) : Calls Tryd.prog 4 #[] w fun e w' => e = .returned (.bool true) ∧ Below w.heap.size w w' := by
  have hG := tab_lt hT
  have HT := Lib.hid hT; clear hT
  have kc := fun (w : World) (C : Array Value) (n c : Nat) => Lib.run_convert_bytes_const (P := Tryd.prog) w 22 5 C n c Tryd.underlying22 Tryd.underlying5
  have kc2 := kc (w.alloc (.cells #[.int .u8 97] 5 (1, 2))) #[.int .u8 98, .int .u8 99] 2 2
  simp only [World.size_alloc] at kc2
  go_enter Tryd.func4, Tryd.ntmps4
  go_wp2_with fail
  clear kc2
  obtain ⟨W1, hW1⟩ : ∃ W1, W1 = w.alloc (.cells #[.int .u8 97] 5 (1, 2)) := ⟨_, rfl⟩
  have z1 : W1.heap.size = w.heap.size + 1 := by rw [hW1]; simp
  have s1 : Sl W1 W1.heap.size (.slice (some ⟨w.heap.size, 0, none⟩) 1 1) [97] := by rw [z1, hW1]; exact Sl.of_new w [97] _ rfl (1, 2) 1 rfl (by decide)
  have b1 : Below w.heap.size w W1 := by rw [hW1]; exact (Below.refl _ _).alloc (Nat.le_refl _) _
  rw [← hW1]
  clear hW1
  obtain ⟨W2, hW2⟩ : ∃ W2, W2 = W1.alloc (.cells #[.int .u8 98, .int .u8 99] 5 (2, 3)) := ⟨_, rfl⟩
  have z2 : W2.heap.size = w.heap.size + 1 + 1 := by rw [hW2]; simp [z1]
  have s2 : Sl W2 W2.heap.size (.slice (some ⟨w.heap.size + 1, 0, none⟩) 2 2) [98, 99] := by
    have := Sl.of_new W1 [98, 99] #[.int .u8 98, .int .u8 99] rfl (2, 3) 2 rfl (by decide)
    rw [← hW2, z1] at this
    rw [z2]; exact this
  have c2 : Below W1.heap.size W1 W2 := by rw [hW2]; exact (Below.refl _ _).alloc (Nat.le_refl _) _
  have s1' : Sl W2 W2.heap.size (.slice (some ⟨w.heap.size, 0, none⟩) 1 1) [97] := (s1.below c2 (Nat.le_refl _)).more (by omega)
  have b2 : Below w.heap.size w W2 := b1.trans (c2.mono b1.size)
  rw [← hW2]
  clear hW2 c2 s1 b1
  obtain ⟨W3, hW3⟩ : ∃ W3, W3 = W2.alloc (.cells #[.slice (some ⟨w.heap.size, 0, none⟩) 1 1, .slice (some ⟨w.heap.size + 1, 0, none⟩) 2 2] 22) := ⟨_, rfl⟩
  have s3 : Sls W3 W3.heap.size (.slice (some ⟨w.heap.size + 1 + 1, 0, none⟩) 2 2) [[97], [98, 99]] := by
    have := Sls.two W2 [97] [98, 99] _ _ 22 s1' s2
    rw [← hW3, z2] at this
    rw [hW3, World.size_alloc, z2, ← hW3]; exact this
  have HB3 : Hid (Below w.heap.size w W3) := Lib.hid (by rw [hW3]; exact b2.alloc b2.size _)
  rw [← hW3]
  clear hW3 s1' s2 b2 z1 z2
  refine (shaSum_any _ [[97], [98, 99]] W3 s3 (by simp) (HT.out.below HB3.out hG)).mono ?_
  rintro e w4 ⟨v4, rfl, hO, hB⟩
  have HO := Lib.hid hO; clear hO
  have HB4 := Lib.hid (HB3.out.trans (hB.mono HB3.out.size)); clear hB
  clear s3
  go_wp2_with fail
  refine (shaHex_any w4.heap.size v4 _ w4 HO.out.sl (Nat.le_refl _) (by rw [sumL_length]; decide)).mono ?_
  rintro e w5 ⟨rfl, hB⟩
  rw [show ([[97], [98, 99]] : List (List UInt8)).flatten = [97, 98, 99] from rfl, sum_abc]
  have HB5 := Lib.hid (HB4.out.trans (hB.mono HB4.out.size)); clear hB
  go_wp2_with fail
  go_ret
  exact ⟨by first | rfl | kernel_rfl, HB5.out⟩
end Go.Proofs.YtmgbiefobkpafaaDoor
