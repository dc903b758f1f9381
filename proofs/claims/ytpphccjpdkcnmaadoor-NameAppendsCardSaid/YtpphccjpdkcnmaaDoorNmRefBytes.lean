/- name: the reference's Bytes of a sign. -/
import Derived.Test.YtpphccjpdkcnmaaDoorSl
import Derived.Lib.RuneBytes
namespace Go.Proofs.YtpphccjpdkcnmaaDoor
open Go.RowKit
theorem enc_map (r : Int) : (Lib.encodeRune r).map vb = (Lib.encodeRuneZ r).map (fun x => Value.int .u8 x) := by
  have := Lib.byteCells_encodeRune r
  exact this
theorem enc_len (r : Int) : (Lib.encodeRune r).length = (Lib.encodeRuneZ r).length := by unfold Lib.encodeRune; rw [List.length_map]
/-- A row of new cells. -/
theorem own_new (w : World) (cs : List Value) (l : List UInt8) (h : cs = l.map vb) (hm : l.length ≤ 1000) : OwnB (w.alloc (.cells cs.toArray 5)) w.heap.size (.slice (some ⟨w.heap.size, 0, none⟩) l.length l.length) l :=
  OwnB.of_heap (cur := cs.toArray) (cap := l.length) (n := l.length) (Nat.le_refl _) (heap_alloc_new w _) (by rw [h]; simp) (by unfold maxLen; omega) rfl (by rw [h]; exact List.take_of_length_le (by simp)) (Nat.le_refl _)
set_option maxRecDepth 100000 in
set_option maxHeartbeats 2000000 in
theorem refBytesR_any (r : Int) (w : World) : Calls Tryd.prog 17 #[.int .i64 r] w fun e w' => ∃ v', e = .returned v' ∧ OwnB w' w.heap.size v' (Lib.encodeRune r) ∧ Below w.heap.size w w' := by
  have hm := enc_map r
  have hl := enc_len r
  have key : ∀ zs : List Int, Lib.encodeRuneZ r = zs → ∀ W : World, W = w.alloc (.cells (zs.map fun x => Value.int .u8 x).toArray 5) → ∃ v', (Value.slice (some ⟨w.heap.size, 0, none⟩) zs.length zs.length) = v' ∧ OwnB W w.heap.size v' (Lib.encodeRune r) ∧ Below w.heap.size w W := by
    intro zs hz W hW
    rw [hz] at hm hl
    subst hW
    refine ⟨_, rfl, ?_, (Below.refl _ _).alloc (Nat.le_refl _) _⟩
    rw [← hl]
    exact own_new w _ _ hm.symm (by have := (Lib.encodeRuneZ_length r).2; rw [hl, ← hz]; omega)
  clear hm hl
  have done : ∀ {e : Ending} {W : World} {v : Value}, e = .returned v → (∃ v', v = v' ∧ OwnB W w.heap.size v' (Lib.encodeRune r) ∧ Below w.heap.size w W) → ∃ v', e = .returned v' ∧ OwnB W w.heap.size v' (Lib.encodeRune r) ∧ Below w.heap.size w W := by
    rintro e W v rfl ⟨v', rfl, h⟩; exact ⟨_, rfl, h⟩
  have KEY := Lib.hid key; clear key
  rcases (show r < 0 ∨ 1114111 < r ∨ (55296 ≤ r ∧ r ≤ 57343) ∨ (0 ≤ r ∧ r ≤ 127) ∨ (128 ≤ r ∧ r ≤ 2047) ∨ (2048 ≤ r ∧ r ≤ 55295) ∨ (57344 ≤ r ∧ r ≤ 65535) ∨ (65536 ≤ r ∧ r ≤ 1114111) by omega) with h | h | ⟨h, h2⟩ | ⟨h, h2⟩ | ⟨h, h2⟩ | ⟨h, h2⟩ | ⟨h, h2⟩ | ⟨h, h2⟩
  · have hz := Lib.encodeRuneZ_bad (r := r) (by omega)
    have K := Lib.hid (KEY.out _ hz); clear hz KEY
    go_enter Tryd.func17, Tryd.ntmps17
    go_wp2_with fail
    go_ret
    exact done rfl (K.out _ rfl)
  · have hz := Lib.encodeRuneZ_bad (r := r) (by omega)
    have K := Lib.hid (KEY.out _ hz); clear hz KEY
    go_enter Tryd.func17, Tryd.ntmps17
    go_wp2_with fail
    go_ret
    exact done rfl (K.out _ rfl)
  · have hz := Lib.encodeRuneZ_bad (r := r) (by omega)
    have K := Lib.hid (KEY.out _ hz); clear hz KEY
    go_enter Tryd.func17, Tryd.ntmps17
    go_wp2_with fail
    go_ret
    exact done rfl (K.out _ rfl)
  · have hz := Lib.encodeRuneZ_one (r := r) (by omega) (by omega)
    have K := Lib.hid (KEY.out _ hz); clear hz KEY
    go_enter Tryd.func17, Tryd.ntmps17
    go_wp2_with fail
    go_ret
    exact done rfl (K.out _ rfl)
  · have hz := Lib.encodeRuneZ_two (r := r) (by omega) (by omega)
    have K := Lib.hid (KEY.out _ hz); clear hz KEY
    have b1 : 2 ≤ r / 64 ∧ r / 64 < 32 := by omega
    have b2 : 0 ≤ r % 64 ∧ r % 64 < 64 := by omega
    go_enter Tryd.func17, Tryd.ntmps17
    go_wp2_with fail
    go_ret
    exact done rfl (K.out _ rfl)
  · have hz := Lib.encodeRuneZ_three (r := r) (by omega)
    have K := Lib.hid (KEY.out _ hz); clear hz KEY
    have b1 : 0 ≤ r / 4096 ∧ r / 4096 < 16 := by omega
    have b2 : 0 ≤ r % 64 ∧ r % 64 < 64 := by omega
    have b3 : 0 ≤ r / 64 % 64 ∧ r / 64 % 64 < 64 := by omega
    have b4 : 0 ≤ r / 64 := by omega
    go_enter Tryd.func17, Tryd.ntmps17
    go_wp2_with fail
    go_ret
    exact done rfl (K.out _ rfl)
  · have hz := Lib.encodeRuneZ_three (r := r) (by omega)
    have K := Lib.hid (KEY.out _ hz); clear hz KEY
    have b1 : 0 ≤ r / 4096 ∧ r / 4096 < 16 := by omega
    have b2 : 0 ≤ r % 64 ∧ r % 64 < 64 := by omega
    have b3 : 0 ≤ r / 64 % 64 ∧ r / 64 % 64 < 64 := by omega
    have b4 : 0 ≤ r / 64 := by omega
    go_enter Tryd.func17, Tryd.ntmps17
    go_wp2_with fail
    go_ret
    exact done rfl (K.out _ rfl)
  · have hz := Lib.encodeRuneZ_four (r := r) (by omega) (by omega)
    have K := Lib.hid (KEY.out _ hz); clear hz KEY
    have b0 : 0 ≤ r / 262144 ∧ r / 262144 < 8 := by omega
    have b1 : 0 ≤ r / 4096 % 64 ∧ r / 4096 % 64 < 64 := by omega
    have b2 : 0 ≤ r % 64 ∧ r % 64 < 64 := by omega
    have b3 : 0 ≤ r / 64 % 64 ∧ r / 64 % 64 < 64 := by omega
    have b4 : 0 ≤ r / 64 := by omega
    have b5 : 0 ≤ r / 4096 := by omega
    go_enter Tryd.func17, Tryd.ntmps17
    go_wp2_with fail
    go_ret
    exact done rfl (K.out _ rfl)
end Go.Proofs.YtpphccjpdkcnmaaDoor
