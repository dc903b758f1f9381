/- Conversions of texts to bytes; the reference's at. -/
import Derived.Test.YtajclihnoedecaaGreatDoorHdAwk
import Derived.Lib.ConvBytes
import Derived.Lib.IndexBytes
namespace Go.Proofs.YtajclihnoedecaaGreatDoor
open Go.RowKit Go.Shelf
theorem conv_new (s : List UInt8) (w : World) : ∃ c W, (convert 9 22 (str s)).run Tryz.prog w = .ok (.slice (some ⟨w.heap.size, 0, none⟩) s.length c) W ∧ Below w.heap.size w W ∧ Bs W w.heap.size 0 s ∧ w.heap.size < W.heap.size := by
  refine ⟨_, _, Lib.run_convert_string_bytes w 9 22 5 ⟨s.toArray⟩ Tryz.underlying9 Tryz.underlying22 Tryz.underlying5, Lib.bytesWorld_below w _ _, fun j h => ?_, by rw [Lib.bytesWorld_size]; omega⟩
  rw [Nat.zero_add, Lib.bytesWorld_cell w _ _ j (by simpa [ByteArray.size] using h)]
  simp [vb, bn, List.getD_eq_getElem?_getD, List.getElem?_eq_getElem h]
theorem ib_hit : ∀ (l : List UInt8) (c : UInt8) (k : Nat), (∀ j, j < k → l[j]? ≠ some c) → l[k]? = some c → Lib.indexByte l c = k
  | [], _, _, _, h => by simp at h
  | b :: l, c, 0, _, h => by
    have : b = c := by simpa using h
    subst this; simp [Lib.indexByte]
  | b :: l, c, k + 1, hn, h => by
    have h0 : b ≠ c := fun e => hn 0 (by omega) (by simp [e])
    have ih := ib_hit l c k (fun j hj => by have := hn (j + 1) (by omega); simpa using this) (by simpa using h)
    unfold Lib.indexByte
    rw [ih]
    have : ((k : Int) == -1) = false := by rw [beq_eq_false_iff_ne]; omega
    simp [h0, this]
theorem ib_none : ∀ (l : List UInt8) (c : UInt8), (∀ j : Nat, l[j]? ≠ some c) → Lib.indexByte l c = -1
  | [], _, _ => rfl
  | b :: l, c, hn => by
    have h0 : b ≠ c := fun e => hn 0 (by simp [e])
    have ih := ib_none l c (fun j => by have := hn (j + 1); simpa using this)
    unfold Lib.indexByte
    rw [ih]
    simp [h0]
set_option maxRecDepth 100000 in
set_option maxHeartbeats 1000000 in
theorem at_any (s : List UInt8) (c : UInt8) (w : World) (hs : s.length ≤ 100000) : Calls Tryz.prog 21 #[str s, vb c] w fun e w' => e = .returned (.int .i64 (Lib.indexByte s c)) ∧ w = w' := by
  go_enter Tryz.func21, Tryz.ntmps21
  go_wp2_with fail
  go_loop [5] (fun i => ∃ k : Nat, k ≤ s.length ∧ i = .int .i64 (k : Int) ∧ ∀ j, j < k → s[j]? ≠ some c) (fun i => s.length - (intOf i).toNat)
  case atStart => exact ⟨0, by omega, rfl, fun j h => by omega⟩
  case round =>
    obtain ⟨k, hk, rfl, hn⟩ := hrel
    by_cases hlt : k < s.length
    · have hik : (Instr.index 9 (str s) (.int .i64 (k : Int))).run Tryz.prog w = .ok (vb (s.getD k 0)) w := str_index s k hlt w
      have hgx : s[k]? = some (s.getD k 0) := by rw [List.getD_eq_getElem?_getD, List.getElem?_eq_getElem hlt]; rfl
      obtain ⟨x, hx⟩ : ∃ x, x = s.getD k 0 := ⟨_, rfl⟩
      rw [← hx] at hik hgx
      clear hx
      by_cases hc : x = c
      · subst hc
        have HR := Lib.hid (ib_hit s x k hn hgx)
        clear hn hgx
        go_wp2_with fail
        go_ret
        exact ⟨by rw [HR.out]; rfl, rfl⟩
      · have hbe : (bn x == bn c) = false := by rw [beq_eq_false_iff_ne]; exact fun e => hc (bn_inj e)
        have hn2 : ∀ j, j < k + 1 → s[j]? ≠ some c := fun j hj => by
          by_cases e : j = k
          · subst e; rw [hgx]; intro h; exact hc (by simpa using h)
          · exact hn j (by omega)
        have HN := Lib.hid hn2
        clear hn hgx hn2 hc
        go_wp2_with fail
        go_round
        case rel => exact ⟨k + 1, by omega, by go_num, HN.out⟩
        case measure => simp [intOf]; omega
    · have HR := Lib.hid (ib_none s c (fun j => by
        by_cases hj : j < k
        · exact hn j hj
        · rw [List.getElem?_eq_none (by omega)]; simp))
      clear hn
      go_wp2_with fail
      go_ret
      exact ⟨by rw [HR.out]; rfl, rfl⟩
end Go.Proofs.YtajclihnoedecaaGreatDoor
