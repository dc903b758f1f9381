/- The reference's Letters; the statement B64Lines' own text, walked. -/
import Derived.Test.YtbjhaihfkncdoaaDoorUnwrap
import Derived.Test.YtbjhaihfkncdoaaDoorAwake3
namespace Go.Proofs.YtbjhaihfkncdoaaDoor
open Go.RowKit
theorem index_at (s : List UInt8) (k : Nat) (hk : k < s.length) (w : World) : (Instr.index 9 (str s) (.int .i64 (k : Int))).run Tryd.prog w = .ok (vb (s.getD k 0)) w := by
  rw [run_index_string w 9 _ .i64 _ Tryd.underlying9]
  have h : k < (ByteArray.mk s.toArray).size := by simpa [ByteArray.size] using hk
  rw [dif_pos ⟨by omega, by omega⟩]
  simp [ByteArray.getElem_eq_getElem_data, List.getD_eq_getElem?_getD, hk, bn]
/-- Are all of these signs of letters, or the filler? -/
def okL (s : List UInt8) : Bool := s.all (alF.contains ·)
theorem alF_has (c : UInt8) : alF.contains c = (c == 61 || decide (0 ≤ Lib.indexByte alS c)) := by
  have : ∀ c : UInt8, alF.contains c = (c == 61 || decide (0 ≤ Lib.indexByte alS c)) := by
    have h : ∀ n : Fin 256, alF.contains (UInt8.ofNat n.val) = (UInt8.ofNat n.val == 61 || decide (0 ≤ Lib.indexByte alS (UInt8.ofNat n.val))) := by decide +kernel
    intro c
    have := h ⟨c.toNat, c.toNat_lt⟩
    simpa using this
  exact this c
set_option maxRecDepth 100000 in
set_option maxHeartbeats 1000000 in
theorem letters_any (s : List UInt8) (w : World) (hl : s.length ≤ 1000) :
    Calls Tryd.prog 13 #[str s] w fun e w' => e = .returned (.bool (okL s)) ∧ w = w' := by
  go_enter Tryd.func13, Tryd.ntmps13
  go_wp2_with fail
  go_loop [3] (fun i => ∃ k : Nat, k ≤ s.length ∧ i = .int .i64 (k : Int) ∧ okL (s.take k) = true) (fun i => s.length - (intOf i).toNat)
  case atStart => exact ⟨0, by omega, rfl, rfl⟩
  case round =>
    obtain ⟨k, hk, rfl, hall⟩ := hrel
    have Hall := Lib.hid hall; clear hall
    by_cases hlt : k < s.length
    · obtain ⟨c, hc⟩ : ∃ c, c = s.getD k 0 := ⟨_, rfl⟩
      have hix := index_at s k hlt
      rw [← hc] at hix
      have Htk : Hid (s.take (k + 1) = s.take k ++ [c]) := Lib.hid (by rw [List.take_succ_eq_append_getElem hlt, hc, List.getD_eq_getElem?_getD, List.getElem?_eq_getElem hlt]; rfl)
      have Hmem : Hid (c ∈ s) := Lib.hid (by rw [hc, List.getD_eq_getElem?_getD, List.getElem?_eq_getElem hlt]; exact List.getElem_mem _)
      clear hc
      have hh := alF_has c
      by_cases h61 : c = 61
      · subst h61
        have Hin : Hid (alF.contains 61 = true) := Lib.hid (by decide)
        clear hh
        go_wp2_with fail
        go_round
        case rel => exact ⟨k + 1, by omega, by go_num, by
          have h := Hall.out
          rw [Htk.out]; unfold okL at h ⊢; rw [List.all_append, h, List.all_cons, Hin.out]; rfl⟩
        case measure => simp [intOf]; omega
      · have hb : bn c ≠ 61 := by
          intro e; exact h61 (UInt8.toNat_inj.1 (by unfold bn at e; show c.toNat = 61; omega))
        rw [beq_eq_false_iff_ne.2 h61, Bool.false_or] at hh
        go_wp2_with fail
        refine (number_any c false w).mono ?_
        rintro e w1 ⟨rfl, rfl⟩
        rw [show Lib.indexByte (alX false) c = Lib.indexByte alS c from rfl]
        obtain ⟨d, hd⟩ : ∃ d, d = Lib.indexByte alS c := ⟨_, rfl⟩
        rw [← hd] at hh ⊢
        clear hd
        by_cases h0 : 0 ≤ d
        · have Hin : Hid (alF.contains c = true) := Lib.hid (by rw [hh]; exact decide_eq_true h0)
          clear hh
          go_wp2_with fail
          go_round
          case rel => exact ⟨k + 1, by omega, by go_num, by
            have h := Hall.out
            rw [Htk.out]; unfold okL at h ⊢; rw [List.all_append, h, List.all_cons, Hin.out]; rfl⟩
          case measure => simp [intOf]; omega
        · have HR : Hid (okL s = false) := Lib.hid (by
            unfold okL
            rw [List.all_eq_false]
            exact ⟨c, Hmem.out, by rw [hh]; simpa using h0⟩)
          clear hh
          go_wp2_with fail
          go_ret
          exact ⟨by rw [HR.out]; rfl, rfl⟩
    · obtain rfl : k = s.length := by omega
      have HR : Hid (okL s = true) := Lib.hid (by have := Hall.out; rwa [List.take_length] at this)
      go_wp2_with fail
      go_ret
      exact ⟨by rw [HR.out]; rfl, rfl⟩
end Go.Proofs.YtbjhaihfkncdoaaDoor
