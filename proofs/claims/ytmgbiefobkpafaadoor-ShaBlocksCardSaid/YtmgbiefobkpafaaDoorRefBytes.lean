/- The reference's Bytes: a number's bytes, the highest first. -/
import Derived.Test.YtmgbiefobkpafaaDoorRowAt
import Derived.Test.YtmgbiefobkpafaaDoorShaO
namespace Go.Proofs.YtmgbiefobkpafaaDoor
open Go.RowKit
/-- What stands in the row when j bytes are written from behind. -/
def bfill (N k j : Nat) : List UInt8 := List.replicate (k - j) 0 ++ be N j
theorem bfill_len (N k j : Nat) (h : j ≤ k) : (bfill N k j).length = k := by unfold bfill; rw [List.length_append, List.length_replicate, be_length]; omega
theorem bfill_full (N k : Nat) : bfill N k k = be N k := by unfold bfill; simp
theorem bfill_set (N k j i : Nat) (h : i + j + 1 = k) : (bfill N k j).set i (UInt8.ofNat (N / 256 ^ j)) = bfill N k (j + 1) := by
  unfold bfill
  have e : be N (j + 1) = UInt8.ofNat (N / 256 ^ j) :: be N j := by rw [Nat.add_comm j 1, be_add]; rfl
  rw [e, show k - j = i + 1 by omega, show k - (j + 1) = i by omega, List.replicate_succ', List.append_assoc, List.set_append_right _ _ (by simp), List.length_replicate, Nat.sub_self]
  rfl
theorem byte_of (X : Nat) : (X : Int) % 256 = bn (UInt8.ofNat X) := by unfold bn; rw [UInt8.toNat_ofNat']; omega
attribute [irreducible] bfill
set_option maxRecDepth 100000 in
set_option maxHeartbeats 1000000 in
theorem refBytes_any (N k : Nat) (w : World) (hN : N < 18446744073709551616) (hk : k ≤ 1000) :
    Calls Tryd.prog 12 #[.int .u64 (N : Int), .int .i64 (k : Int)] w fun e w' => ∃ v', e = .returned v' ∧ OwnB w' w.heap.size v' (be N k) ∧ Below w.heap.size w w' := by
  have hmk := make_bytes k k (Nat.le_refl _) (by omega) w
  have hO : OwnB (w.alloc (.cells (noughts k) 5)) w.heap.size (.slice (some ⟨w.heap.size, 0, none⟩) k k) (bfill N k 0) :=
    OwnB.of_heap (Nat.le_refl _) (heap_alloc_new w _) (noughts_size _) (by unfold maxLen; omega) (bfill_len _ _ _ (by omega)) (by rw [noughts_list, List.take_of_length_le (by simp)]; unfold bfill; simp [be]) (Nat.le_refl _)
  have HO := Lib.hid hO; clear hO
  go_enter Tryd.func12, Tryd.ntmps12
  go_wp2_with fail
  clear hmk
  go_loopw [0, 6] (fun x i wr => ∃ j : Nat, j ≤ k ∧ i = .int .i64 ((k : Int) - 1 - (j : Int)) ∧ x = .int .u64 ((N / 256 ^ j : Nat) : Int) ∧ OwnB wr w.heap.size (.slice (some ⟨w.heap.size, 0, none⟩) k k) (bfill N k j) ∧ Below w.heap.size w wr) (fun _ i _ => (intOf i + 1).toNat)
  case atStart => exact ⟨0, by omega, by simp, by simp, HO.out, (Below.refl _ _).alloc (Nat.le_refl _) _⟩
  case round =>
    obtain ⟨j, hj, rfl, rfl, hO2, hB⟩ := hrel
    have HO2 := Lib.hid hO2
    have HB := Lib.hid hB; clear hB
    obtain ⟨X, hX⟩ : ∃ X, X = N / 256 ^ j := ⟨_, rfl⟩
    have hXN : X ≤ N := by rw [hX]; exact Nat.div_le_self _ _
    have hX2 : X / 256 = N / 256 ^ (j + 1) := by rw [hX, Nat.div_div_eq_div_mul, Nat.pow_succ]
    rw [← hX]
    have HX2 := Lib.hid hX2; clear hX2
    by_cases hlt : j < k
    · obtain ⟨i, hi⟩ : ∃ i, i + j + 1 = k := ⟨k - 1 - j, by omega⟩
      have he : (k : Int) - 1 - (j : Int) = (i : Int) := by omega
      have hset := bfill_set N k j i hi
      rw [← hX] at hset
      have HS := Lib.hid hset; clear hset
      obtain ⟨x0, hx0⟩ : ∃ x0, (bfill N k j)[i]? = some x0 := ⟨_, List.getElem?_eq_getElem (by rw [bfill_len _ _ _ hj]; omega)⟩
      obtain ⟨hc, hf⟩ := hO2.getAt i x0 hx0
      have hbx := byte_of X
      have HX := Lib.hid hX; clear hX hx0 hO2
      rw [he]
      have HE := Lib.hid he; clear he
      have hik : (i : Int) < (k : Int) := by omega
      go_wp2_with fail
      exact ⟨⟨j + 1, by omega, by congr 1; omega, by rw [← HX2.out]; congr 1, by rw [← HS.out]; exact HO2.out.setAt i (UInt8.ofNat X), HB.out.setCell (Nat.le_refl _) _⟩, by simp [intOf]⟩
    · obtain rfl : j = k := by omega
      rw [bfill_full] at HO2
      clear hO2
      have he : (j : Int) - 1 - (j : Int) = -1 := by omega
      rw [he]
      go_wp2_with fail
      go_ret
      exact ⟨_, rfl, HO2.out, HB.out⟩
end Go.Proofs.YtmgbiefobkpafaaDoor
