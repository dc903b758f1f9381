/- The reference's Escape. -/
import Derived.Test.YtgcjaaocdhlegaaDoorStrT
import Derived.Test.YtgcjaaocdhlegaaDoorEscL
import Derived.Test.YtgcjaaocdhlegaaDoorNmEsc
namespace Go.Proofs.YtgcjaaocdhlegaaDoor
open Go.RowKit
theorem str_app (a b : List UInt8) : (ByteArray.mk a.toArray) ++ (ByteArray.mk b.toArray) = ByteArray.mk (a ++ b).toArray := ByteArray.mk_append_mk ..
theorem escL_take (s : List UInt8) (k : Nat) (h : k < s.length) : escL (s.take (k + 1)) = escL (s.take k) ++ (if s.getD k 0 = 44 then [61, 50, 67] else if s.getD k 0 = 61 then [61, 51, 68] else [s.getD k 0]) := by
  have e : ∀ (a b : List UInt8), escL (a ++ b) = escL a ++ escL b := by
    intro a b
    induction a with
    | nil => rfl
    | cons x t ih => show _ ++ escL (t ++ b) = (_ ++ escL t) ++ escL b; rw [ih, List.append_assoc]
  rw [List.take_succ_eq_append_getElem h, e, List.getD_eq_getElem?_getD, List.getElem?_eq_getElem h]
  show _ ++ ((if s[k] = 44 then [61, 50, 67] else if s[k] = 61 then [61, 51, 68] else [s[k]]) ++ []) = _
  rw [List.append_nil]; rfl
theorem cut_one (s : List UInt8) (k : Nat) (h : k < s.length) (W : World) : (Instr.slice 9 (str s) (some (.int .i64 (k : Int))) (some (.int .i64 ((k : Int) + 1))) none).run Tryd.prog W = .ok (str [s.getD k 0]) W := by
  have e : (ByteArray.mk s.toArray).extract k (k + 1) = ByteArray.mk [s.getD k 0].toArray := by
    apply ByteArray.ext
    simp [ByteArray.data_extract, List.getD_eq_getElem?_getD]
    rw [List.take_one, List.head?_drop, List.getElem?_eq_getElem h]
    simp
  go_simp
  rw [if_pos ⟨by omega, by omega⟩, if_pos (by omega)]
theorem str_index (s : List UInt8) (k : Nat) (h : k < s.length) (W : World) : (Instr.index 9 (str s) (.int .i64 (k : Int))).run Tryd.prog W = .ok (vb (s.getD k 0)) W := by
  have hs : k < (ByteArray.mk s.toArray).size := by simpa [ByteArray.size] using h
  rw [run_index_string W 9 _ .i64 _ Tryd.underlying9]
  rw [dif_pos ⟨by omega, by omega⟩]
  simp only [Int.toNat_natCast]
  have e : (ByteArray.mk s.toArray)[k]'hs = s.getD k 0 := by
    rw [List.getD_eq_getElem?_getD, List.getElem?_eq_getElem h]; rfl
  rw [e]; rfl
set_option maxRecDepth 100000 in
set_option maxHeartbeats 1000000 in
theorem refEscape_any (s : List UInt8) (w : World) (hs : s.length ≤ 600) :
    Calls Tryd.prog 29 #[str s] w fun e w' => e = .returned (str (escL s)) ∧ w = w' := by
  have h3 := escL_length
  go_enter Tryd.func29, Tryd.ntmps29
  go_wp2_with fail
  go_loop [3, 4] (fun o i => ∃ k : Nat, k ≤ s.length ∧ i = .int .i64 k ∧ o = str (escL (s.take k))) (fun _ i => s.length - (intOf i).toNat)
  case atStart => exact ⟨0, by omega, rfl, rfl⟩
  case round =>
    obtain ⟨k, hk, rfl, rfl⟩ := hrel
    by_cases hlt : k < s.length
    · have hc := cut_one s k hlt w
      have hi := str_index s k hlt w
      have hst := escL_take s k hlt
      have hl := escL_length (s.take k)
      rw [List.length_take] at hl
      obtain ⟨x, hx⟩ : ∃ x, x = s.getD k 0 := ⟨_, rfl⟩
      obtain ⟨t, ht⟩ : ∃ t, t = escL (s.take k) := ⟨_, rfl⟩
      rw [← hx] at hc hst hi
      rw [← ht] at hst hl ⊢
      have htl : t.length ≤ 1800 := by omega
      clear hx ht hl h3
      by_cases x1 : x = 44
      · subst x1
        rw [if_pos rfl] at hst
        have HST := Lib.hid hst; clear hst
        rw [show vb 44 = .int .u8 44 from rfl] at hi
        go_wp2_with fail
        go_round
        case rel => exact ⟨k + 1, by omega, by go_num, by rw [HST.out]; exact congrArg Value.string (str_app t [61, 50, 67])⟩
        case measure => simp [intOf]; omega
      · rw [if_neg x1] at hst
        by_cases x2 : x = 61
        · subst x2
          rw [if_pos rfl] at hst
          have HST := Lib.hid hst; clear hst
          rw [show vb 61 = .int .u8 61 from rfl] at hi
          go_wp2_with fail
          go_round
          case rel => exact ⟨k + 1, by omega, by go_num, by rw [HST.out]; exact congrArg Value.string (str_app t [61, 51, 68])⟩
          case measure => simp [intOf]; omega
        · rw [if_neg x2] at hst
          have HST := Lib.hid hst; clear hst
          have y1 : ((bn x == 44) = false) := by
            rw [beq_eq_false_iff_ne]; intro e; exact x1 (UInt8.toNat_inj.1 (by unfold bn at e; have : (44 : UInt8).toNat = 44 := rfl; omega))
          have y2 : ((bn x == 61) = false) := by
            rw [beq_eq_false_iff_ne]; intro e; exact x2 (UInt8.toNat_inj.1 (by unfold bn at e; have : (61 : UInt8).toNat = 61 := rfl; omega))
          go_wp2_with fail
          go_round
          case rel => exact ⟨k + 1, by omega, by go_num, by rw [HST.out]; exact congrArg Value.string (str_app t [x])⟩
          case measure => simp [intOf]; omega
    · obtain rfl : k = s.length := by omega
      go_wp2_with fail
      go_ret
      exact ⟨rfl, rfl⟩
end Go.Proofs.YtgcjaaocdhlegaaDoor
