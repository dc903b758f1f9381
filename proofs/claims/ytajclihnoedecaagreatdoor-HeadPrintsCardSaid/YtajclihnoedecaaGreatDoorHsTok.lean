/- The reference's text, Token and target. -/
import Derived.Test.YtajclihnoedecaaGreatDoorHdAt
set_option maxRecDepth 100000
namespace Go.Proofs.YtajclihnoedecaaGreatDoor
open Go.RowKit Go.Shelf
def seB (c : UInt8) : Bool := decide (33 ≤ c.toNat ∧ c.toNat ≠ 127)
theorem seen_any (b : UInt8) (w : World) : Calls Tryz.prog 38 #[vb b] w fun e w' => e = .returned (.bool (seB b)) ∧ w = w' := by
  have hv : vb b = .int .u8 (b.toNat : Int) := rfl
  have hd : seB b = decide (33 ≤ b.toNat ∧ b.toNat ≠ 127) := rfl
  rw [hv, hd]
  have hl := b.toNat_lt
  obtain ⟨X, hX⟩ : ∃ X, X = b.toNat := ⟨_, rfl⟩
  rw [← hX] at hl ⊢
  clear hX hv hd
  by_cases h : 33 ≤ X
  · by_cases h2 : X = 127
    · subst h2
      have e : ((127 : Nat) : Int) = 127 := rfl
      rw [e]
      go_enter Tryz.func38, Tryz.ntmps38
      go_wp2_with fail
      go_ret
      exact ⟨rfl, rfl⟩
    · rw [decide_eq_true ⟨h, h2⟩]
      have g1 : (33 : Int) ≤ (X : Int) := by omega
      have g2 : ((X : Int) == 127) = false := by rw [beq_eq_false_iff_ne]; omega
      have g3 : ((X : Int) != 127) = true := by rw [bne_iff_ne]; omega
      go_enter Tryz.func38, Tryz.ntmps38
      go_wp2_with fail
      go_ret
      exact ⟨rfl, rfl⟩
  · rw [decide_eq_false (fun g => h g.1)]
    have g1 : ¬ (33 : Int) ≤ (X : Int) := by omega
    go_enter Tryz.func38, Tryz.ntmps38
    go_wp2_with fail
    go_ret
    exact ⟨rfl, rfl⟩
theorem txC_se (x : UInt8) : txC x = (seB x || x == 32 || x == 9) := by
  have hl := x.toNat_lt
  have h9 : (x = 9) ↔ x.toNat = 9 := by constructor; (intro h; rw [h]; rfl); (intro h; exact UInt8.toNat_inj.1 h)
  have h32 : (x = 32) ↔ x.toNat = 32 := by constructor; (intro h; rw [h]; rfl); (intro h; exact UInt8.toNat_inj.1 h)
  rw [txC_num, Bool.eq_iff_iff]
  unfold seB
  simp only [Bool.or_eq_true, beq_iff_eq, decide_eq_true_eq, h9, h32]
  omega
set_option maxHeartbeats 4000000 in
theorem refText_any (s : List UInt8) (w : World) (hs : s.length ≤ 100000) : Calls Tryz.prog 23 #[str s] w fun e w' => e = .returned (.bool (txtB s)) ∧ w = w' := by
  obtain ⟨P, hP⟩ : ∃ P, P = (txtB s) := ⟨_, rfl⟩
  rw [← hP]
  have HP := Lib.hid hP; clear hP
  go_enter Tryz.func23, Tryz.ntmps23
  go_wp2_with fail
  go_loop [3] (fun i => ∃ k : Nat, k ≤ s.length ∧ i = .int .i64 (k : Int) ∧ (s.take k).all txC = true) (fun i => s.length - (intOf i).toNat)
  case atStart => exact ⟨0, by omega, rfl, rfl⟩
  case round =>
    obtain ⟨k, hk, rfl, hall⟩ := hrel
    by_cases hlt : k < s.length
    · have hik : (Instr.index 9 (str s) (.int .i64 (k : Int))).run Tryz.prog w = .ok (vb (s.getD k 0)) w := str_index s k hlt w
      have hts := take_snocH s k hlt
      have hgx : s.getD k 0 = s[k] := by rw [List.getD_eq_getElem?_getD, List.getElem?_eq_getElem hlt]; rfl
      rw [← hgx] at hts
      have hmem : s.getD k 0 ∈ s := by rw [hgx]; exact List.getElem_mem hlt
      obtain ⟨x, hx⟩ : ∃ x, x = s.getD k 0 := ⟨_, rfl⟩
      rw [← hx] at hik hts hmem
      clear hx hgx
      have hyes : txC x = true → (s.take (k + 1)).all txC = true := fun e => by rw [hts, List.all_append, hall]; simp [e]
      have hno : txC x = false → P = false := fun e => by
        rw [HP.out]; unfold txtB
        rw [← Bool.not_eq_true]
        intro h
        rw [List.all_eq_true] at h
        have := h x hmem
        rw [e] at this
        exact absurd this (by decide)
      rw [txC_se] at hyes hno
      have HYES := Lib.hid hyes
      have HNO := Lib.hid hno
      have HSE := Lib.hid (seen_any x w)
      clear hts hmem hall hyes hno
      by_cases hse : seB x = true
      · rw [hse] at HSE
        have HY := Lib.hid (HYES.out (by rw [hse]; rfl))
        clear hse
        go_wp2_with fail
        refine HSE.out.mono ?_
        rintro e w1 ⟨rfl, rfl⟩
        go_wp2_with fail
        go_round
        case rel => exact ⟨k + 1, by omega, by go_num, HY.out⟩
        case measure => simp [intOf]; omega
      · have hse2 : seB x = false := by simpa using hse
        rw [hse2] at HSE
        by_cases h32 : x = 32
        · subst h32
          have HY := Lib.hid (HYES.out (by decide))
          have e : vb 32 = .int .u8 32 := rfl
          rw [e] at hik HSE
          clear hse hse2
          go_wp2_with fail
          refine HSE.out.mono ?_
          rintro e w1 ⟨rfl, rfl⟩
          go_wp2_with fail
          go_round
          case rel => exact ⟨k + 1, by omega, by go_num, HY.out⟩
          case measure => simp [intOf]; omega
        · by_cases h9 : x = 9
          · subst h9
            have HY := Lib.hid (HYES.out (by decide))
            have e : vb 9 = .int .u8 9 := rfl
            rw [e] at hik HSE
            clear hse hse2 h32
            go_wp2_with fail
            refine HSE.out.mono ?_
            rintro e w1 ⟨rfl, rfl⟩
            go_wp2_with fail
            go_round
            case rel => exact ⟨k + 1, by omega, by go_num, HY.out⟩
            case measure => simp [intOf]; omega
          · obtain rfl := HNO.out (by rw [hse2]; simp [h32, h9])
            have hv : vb x = .int .u8 (x.toNat : Int) := rfl
            rw [hv] at hik HSE
            have n32 : x.toNat ≠ 32 := fun e => h32 (UInt8.toNat_inj.1 e)
            have n9 : x.toNat ≠ 9 := fun e => h9 (UInt8.toNat_inj.1 e)
            obtain ⟨X, hX⟩ : ∃ X, X = x.toNat := ⟨_, rfl⟩
            rw [← hX] at hik HSE n32 n9
            have f32 : ((X : Int) != 32) = true := by rw [bne_iff_ne]; omega
            have f9 : ((X : Int) != 9) = true := by rw [bne_iff_ne]; omega
            have e32 : ((X : Int) == 32) = false := by rw [beq_eq_false_iff_ne]; omega
            have e9 : ((X : Int) == 9) = false := by rw [beq_eq_false_iff_ne]; omega
            clear hse hse2 h32 h9 hX hv HYES HNO n32 n9
            go_wp2_with fail
            refine HSE.out.mono ?_
            rintro e w1 ⟨rfl, rfl⟩
            go_wp2_with fail
            go_ret
            exact ⟨rfl, rfl⟩
    · have hts : s.take k = s := List.take_of_length_le (by omega)
      rw [hts] at hall
      obtain rfl : P = true := by rw [HP.out]; exact hall
      clear hts hall
      go_wp2_with fail
      go_ret
      exact ⟨rfl, rfl⟩
end Go.Proofs.YtajclihnoedecaaGreatDoor
