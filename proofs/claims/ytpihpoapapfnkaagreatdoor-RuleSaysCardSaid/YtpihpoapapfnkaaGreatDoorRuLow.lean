/- The reference's Low. -/
import Derived.Test.YtpihpoapapfnkaaGreatDoorRuFn
import Derived.Deep.QuietTactic
import Derived.BigQuiet
import Derived.StillTailTactics
set_option maxRecDepth 100000
namespace Go.Proofs.YtpihpoapapfnkaaGreatDoor
open Go.RowKit Go.Shelf
theorem drew2 (w : World) (n m : Nat) : (w.drewN n).drewN m = w.drewN (n + m) := by unfold World.drewN; simp [Nat.add_assoc]
def abcS : List UInt8 := [97, 98, 99, 100, 101, 102, 103, 104, 105, 106, 107, 108, 109, 110, 111, 112, 113, 114, 115, 116, 117, 118, 119, 120, 121, 122]
theorem abc_at : ∀ k : Fin 26, abcS.getD k.val 0 = UInt8.ofNat (97 + k.val) := by decide
theorem cut_one8 (s : List UInt8) (k : Nat) (h : k < s.length) (W : World) : (Instr.slice 9 (str s) (some (.int .u8 (k : Int))) (some (.int .u8 ((k : Int) + 1))) none).run Tryz.prog W = .ok (str [s.getD k 0]) W := by
  have e : (ByteArray.mk s.toArray).extract k (k + 1) = ByteArray.mk [s.getD k 0].toArray := by
    apply ByteArray.ext
    simp [ByteArray.data_extract, List.getD_eq_getElem?_getD]
    rw [List.take_one, List.head?_drop, List.getElem?_eq_getElem h]
    simp
  go_simp
  rw [if_pos ⟨by omega, by omega⟩, if_pos (by omega)]
set_option maxHeartbeats 1000000 in
theorem low_any (s : List UInt8) (w : World) (hs : s.length ≤ 100000) : Calls Tryz.prog 67 #[str s] w fun e w' => e = .returned (str (s.map rlow)) ∧ ∃ n, w' = w.drewN n := by
  go_enter Tryz.func67, Tryz.ntmps67
  go_wp2_with fail
  go_loopw [3, 4] (fun v i wr => ∃ k n : Nat, k ≤ s.length ∧ i = .int .i64 (k : Int) ∧ wr = w.drewN n ∧ v = str ((s.take k).map rlow)) (fun _ i _ => s.length - (intOf i).toNat)
  case atStart => exact ⟨0, 0, by omega, rfl, rfl, rfl⟩
  case round =>
    obtain ⟨k, n, hk, rfl, hw, rfl⟩ := hrel
    have hll : ((s.take k).map rlow).length = k := by rw [List.length_map, List.length_take]; omega
    by_cases hlt : k < s.length
    · have i1 := fun W => str_index s k hlt W
      have e1 : s.getD k 0 = s[k] := by rw [List.getD_eq_getElem?_getD, List.getElem?_eq_getElem hlt]; rfl
      have i2 := fun W => cut_one s k hlt W
      rw [e1] at i1 i2
      have hts : (s.take (k + 1)).map rlow = (s.take k).map rlow ++ [rlow s[k]] := by rw [take_snoc s k hlt, List.map_append]; rfl
      obtain ⟨x, hx⟩ : ∃ x, x = s[k] := ⟨_, rfl⟩
      rw [← hx] at i1 i2 hts
      obtain ⟨t, ht⟩ : ∃ t, t = (s.take k).map rlow := ⟨_, rfl⟩
      rw [← ht] at hts hll ⊢
      have htl : (t.length : Int) ≤ 100000 := by omega
      have HTS := Lib.hid hts
      have HW := Lib.hid hw
      clear e1 hx hw ht hts hll
      obtain ⟨h1, h2⟩ := rlow_num x
      have hl := x.toNat_lt
      have hv : vb x = .int .u8 (x.toNat : Int) := rfl
      by_cases h : 65 ≤ x.toNat ∧ x.toNat ≤ 90
      · obtain ⟨m, hm⟩ : ∃ m : Nat, x.toNat = 65 + m := ⟨x.toNat - 65, by omega⟩
        have hm26 : m < 26 := by omega
        have hlo : rlow x = abcS.getD m 0 := by
          rw [abc_at ⟨m, hm26⟩]
          apply UInt8.toNat_inj.1
          rw [h1 h, hm, UInt8.toNat_ofNat']
          show _ = (97 + m) % 256
          omega
        have hcut := fun W => cut_one8 abcS m (by show m < 26; exact hm26) W
        unfold abcS at hcut hlo
        have HLO := Lib.hid hlo
        have hstr := fun q : List UInt8 => str_app t q
        rw [hv, hm] at i1
        have hc1 : (((65 + m : Nat) : Int)) = 65 + (m : Int) := by omega
        rw [hc1] at i1
        have s1 : 65 + (m : Int) - 65 = (m : Int) := by omega
        have g1 : (0 : Int) ≤ (m : Int) := by omega
        have g2 : (m : Int) ≤ 25 := by omega
        clear h1 h2 hl hv h hm hm26 hlo hc1 i2
        obtain ⟨q, hq⟩ : ∃ q, q = ([97, 98, 99, 100, 101, 102, 103, 104, 105, 106, 107, 108, 109, 110, 111, 112, 113, 114, 115, 116, 117, 118, 119, 120, 121, 122] : List UInt8).getD m 0 := ⟨_, rfl⟩
        rw [← hq] at hcut HLO
        clear hq
        go_wp2_with fail
        go_quiet (fail)
        go_wp2_with fail
        go_roundw
        case rel => exact ⟨k + 1, _, by omega, by go_num, by rw [HW.out]; exact drew2 _ _ _, by rw [HTS.out, HLO.out]⟩
        case measure => simp [intOf]; omega
      · have hlo := h2 h
        rw [hlo] at HTS
        have hstr := fun q : List UInt8 => str_app t q
        rw [hv] at i1
        obtain ⟨X, hX⟩ : ∃ X : Int, X = (x.toNat : Int) := ⟨_, rfl⟩
        rw [← hX] at i1
        by_cases h3 : 65 ≤ X
        · have g2 : decide (X ≤ 90) = false := decide_eq_false (by omega)
          have g3 : X ≤ 255 := by omega
          clear h1 h2 hl hv h hX hlo
          go_wp2_with fail
          go_roundw
          case rel => exact ⟨k + 1, n, by omega, by go_num, HW.out, by rw [HTS.out]⟩
          case measure => simp [intOf]; omega
        · have g2 : decide (65 ≤ X) = false := decide_eq_false h3
          clear h1 h2 hl hv h hX hlo h3
          go_wp2_with fail
          go_roundw
          case rel => exact ⟨k + 1, n, by omega, by go_num, HW.out, by rw [HTS.out]⟩
          case measure => simp [intOf]; omega
    · have htk : s.take k = s := List.take_of_length_le (by omega)
      rw [htk]
      have HW := Lib.hid hw
      clear htk hw hll
      go_wp2_with fail
      go_ret
      exact ⟨rfl, n, HW.out⟩
end Go.Proofs.YtpihpoapapfnkaaGreatDoor
