/- The nil Hash; the document's example. -/
import Derived.Test.YtkbelfoeofhppaaDoorShaSum
import Derived.Test.YtkbelfoeofhppaaDoorShHex2
import Derived.Lib.SlBytesConst
namespace Go.Proofs.YtkbelfoeofhppaaDoor
open Go.RowKit
theorem write_nil (v : Value) (w : World) : Calls Tryd.prog 16 #[.pointer none, v] w fun e w' => e = .returned (.int .i64 0) ∧ Below w.heap.size w w' := by
  go_enter Tryd.func16, Tryd.ntmps16
  go_wp2_with fail
  go_ret
  exact ⟨rfl, (Below.refl _ _).alloc (Nat.le_refl _) _⟩
theorem sum_nil (w : World) : Calls Tryd.prog 19 #[.pointer none] w fun e w' => e = .returned (.slice none 0 0) ∧ w = w' := by
  go_enter Tryd.func19, Tryd.ntmps19
  go_wp2_with fail
  go_ret
  exact ⟨rfl, rfl⟩
theorem len_nil (w : World) : Calls Tryd.prog 20 #[.pointer none] w fun e w' => e = .returned (.int .u64 0) ∧ w = w' := by
  go_enter Tryd.func20, Tryd.ntmps20
  go_wp2_with fail
  go_ret
  exact ⟨rfl, rfl⟩
theorem save_nil (w : World) : Calls Tryd.prog 26 #[.pointer none] w fun e w' => e = .returned (.slice none 0 0) ∧ w = w' := by
  go_enter Tryd.func26, Tryd.ntmps26
  go_wp2_with fail
  go_ret
  exact ⟨rfl, rfl⟩
theorem copy_nil (w : World) : Calls Tryd.prog 18 #[.pointer none] w fun e w' => e = .returned (.pointer none) ∧ w = w' := by
  go_enter Tryd.func18, Tryd.ntmps18
  go_wp2_with fail
  go_ret
  exact ⟨rfl, rfl⟩
/-- Two slices of bytes in a new row. -/
theorem Sls.two (W : World) (l1 l2 : List UInt8) (v1 v2 : Value) (t : TypeId) (h1 : Sl W W.heap.size v1 l1) (h2 : Sl W W.heap.size v2 l2) :
    Sls (W.alloc (.cells #[v1, v2] t)) (W.heap.size + 1) (.slice (some ⟨W.heap.size, 0, none⟩) 2 2) [l1, l2] := by
  refine ⟨_, 2, rfl, Nat.le_refl _, by omega, fun _ => ⟨_, 0, rfl, by omega, fun j hj => ?_⟩⟩
  have hb := Blk.newA W #[v1, v2] t
  have hbl : Below W.heap.size W (W.alloc (.cells #[v1, v2] t)) := (Below.refl _ _).alloc (Nat.le_refl _) _
  match j, hj with
  | 0, _ => exact ⟨v1, hb.at rfl, (h1.below hbl (Nat.le_refl _)).more (by omega)⟩
  | 1, _ => exact ⟨v2, hb.at rfl, (h2.below hbl (Nat.le_refl _)).more (by omega)⟩
theorem Sl.of_new (w : World) (l : List UInt8) (cs : Array Value) (hcs : cs = (l.map vb).toArray) (fr : Nat × Nat) (n : Nat) (hn : n = l.length) (hl : n ≤ 1000000) : Sl (w.alloc (.cells cs 5 fr)) (w.heap.size + 1) (.slice (some ⟨w.heap.size, 0, none⟩) n n) l := by
  subst hn; subst hcs
  refine ⟨_, _, rfl, (fun h => by cases h), Nat.le_refl _, by omega, fun _ => ⟨_, 0, rfl, by omega, fun j hj => ?_⟩⟩
  rw [World.cell?_alloc_mark]
  simp [hj]
set_option maxRecDepth 100000 in
set_option maxHeartbeats 1000000 in
theorem awake1 (w : World) (hT : TabA w) : Calls Tryd.prog 9 #[] w fun e w' => e = .returned (.bool true) ∧ Below w.heap.size w w' := by
  have hG := tab_lt hT
  have HT := Lib.hid hT; clear hT
  have kc := fun (w : World) (C : Array Value) (n c : Nat) => Lib.run_convert_bytes_const (P := Tryd.prog) w 24 5 C n c Tryd.underlying24 Tryd.underlying5
  have kc2 := kc (w.alloc (.cells #[.int .u8 97] 5 (1, 2))) #[.int .u8 98, .int .u8 99] 2 2
  simp only [World.size_alloc] at kc2
  go_enter Tryd.func9, Tryd.ntmps9
  go_wp2_with fail
  clear kc2
  obtain ⟨W1, hW1⟩ : ∃ W1, W1 = w.alloc (.cells #[.int .u8 97] 5 (1, 2)) := ⟨_, rfl⟩
  have z1 : W1.heap.size = w.heap.size + 1 := by rw [hW1]; simp
  have s1 : Sl W1 W1.heap.size (.slice (some ⟨w.heap.size, 0, none⟩) 1 1) [97] := by rw [z1, hW1]; exact Sl.of_new w [97] _ rfl (1, 2) 1 rfl (by decide)
  have b1 : Below w.heap.size w W1 := by rw [hW1]; exact (Below.refl _ _).alloc (Nat.le_refl _) _
  rw [← hW1]
  clear hW1
  obtain ⟨W2, hW2⟩ : ∃ W2, W2 = W1.alloc (.cells #[.int .u8 98, .int .u8 99] 5 (2, 3)) := ⟨_, rfl⟩
  have z2 : W2.heap.size = w.heap.size + 1 + 1 := by rw [hW2]; simp [z1]
  have s2 : Sl W2 W2.heap.size (.slice (some ⟨w.heap.size + 1, 0, none⟩) 2 2) [98, 99] := by
    have := Sl.of_new W1 [98, 99] #[.int .u8 98, .int .u8 99] rfl (2, 3) 2 rfl (by decide)
    rw [← hW2, z1] at this
    rw [z2]; exact this
  have c2 : Below W1.heap.size W1 W2 := by rw [hW2]; exact (Below.refl _ _).alloc (Nat.le_refl _) _
  have s1' : Sl W2 W2.heap.size (.slice (some ⟨w.heap.size, 0, none⟩) 1 1) [97] := (s1.below c2 (Nat.le_refl _)).more (by omega)
  have b2 : Below w.heap.size w W2 := b1.trans (c2.mono b1.size)
  rw [← hW2]
  clear hW2 c2 s1 b1
  obtain ⟨W3, hW3⟩ : ∃ W3, W3 = W2.alloc (.cells #[.slice (some ⟨w.heap.size, 0, none⟩) 1 1, .slice (some ⟨w.heap.size + 1, 0, none⟩) 2 2] 24) := ⟨_, rfl⟩
  have s3 : Sls W3 W3.heap.size (.slice (some ⟨w.heap.size + 1 + 1, 0, none⟩) 2 2) [[97], [98, 99]] := by
    have := Sls.two W2 [97] [98, 99] _ _ 24 s1' s2
    rw [← hW3, z2] at this
    rw [hW3, World.size_alloc, z2, ← hW3]; exact this
  have HB3 : Hid (Below w.heap.size w W3) := Lib.hid (by rw [hW3]; exact b2.alloc b2.size _)
  rw [← hW3]
  clear hW3 s1' s2 b2 z1 z2
  refine (shaSum_any _ [[97], [98, 99]] W3 s3 (by simp) (HT.out.below HB3.out hG)).mono ?_
  rintro e w4 ⟨v4, rfl, hO, hB⟩
  have HO := Lib.hid hO; clear hO
  have HB4 := Lib.hid (HB3.out.trans (hB.mono HB3.out.size)); clear hB
  clear s3
  go_wp2_with fail
  refine (shaHex_any w4.heap.size v4 _ w4 HO.out.sl (Nat.le_refl _) (by rw [sumL_length]; decide)).mono ?_
  rintro e w5 ⟨rfl, hB⟩
  rw [show ([[97], [98, 99]] : List (List UInt8)).flatten = [97, 98, 99] from rfl, sum_abc]
  have HB5 := Lib.hid (HB4.out.trans (hB.mono HB4.out.size)); clear hB
  go_wp2_with fail
  go_ret
  exact ⟨by first | rfl | kernel_rfl, HB5.out⟩
end Go.Proofs.YtkbelfoeofhppaaDoor
