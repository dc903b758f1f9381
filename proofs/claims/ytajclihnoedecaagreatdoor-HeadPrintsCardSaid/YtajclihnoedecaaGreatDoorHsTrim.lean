/- The reference's trim: the text without blanks and tabs at its ends. -/
import Derived.Test.YtajclihnoedecaaGreatDoorHsTok
import Derived.Test.YtajclihnoedecaaGreatDoorStrT
set_option maxRecDepth 100000
namespace Go.Proofs.YtajclihnoedecaaGreatDoor
open Go.RowKit Go.Shelf
def lenV : Value → Nat
  | .string t => t.size
  | _ => 0
theorem lenV_str (t : List UInt8) : lenV (str t) = t.length := by show (ByteArray.mk t.toArray).size = _; simp [ByteArray.size]
theorem index_first (t : List UInt8) (h : 0 < t.length) (w : World) : (Instr.index 9 (str t) (.int .i64 0)).run Tryz.prog w = .ok (vb (t.getD 0 0)) w := str_index t 0 h w
theorem index_last (t : List UInt8) (h : 0 < t.length) (w : World) : (Instr.index 9 (str t) (.int .i64 ((t.length : Int) - 1))).run Tryz.prog w = .ok (vb (t.getD (t.length - 1) 0)) w := by
  have := str_index t (t.length - 1) (by omega) w
  rwa [show ((t.length - 1 : Nat) : Int) = (t.length : Int) - 1 by omega] at this
theorem slice_first (t : List UInt8) (h : 0 < t.length) (w : World) : (Instr.slice 9 (str t) (some (.int .i64 1)) none none).run Tryz.prog w = .ok (str t.tail) w := by rw [← List.drop_one]; exact str_drop t 1 h w
theorem slice_last (t : List UInt8) (h : 0 < t.length) (w : World) : (Instr.slice 9 (str t) none (some (.int .i64 ((t.length : Int) - 1))) none).run Tryz.prog w = .ok (str (t.take (t.length - 1))) w := by
  have := str_take t (t.length - 1) (by omega) w
  rwa [show ((t.length - 1 : Nat) : Int) = (t.length : Int) - 1 by omega] at this
def blB (c : UInt8) : Bool := c == 32 || c == 9
def backL (l : List UInt8) : List UInt8 := (l.reverse.dropWhile blB).reverse
def trimR (l : List UInt8) : List UInt8 := backL (l.dropWhile blB)
theorem front_yes {t : List UInt8} (h : 0 < t.length) (hx : blB (t.getD 0 0) = true) : t.dropWhile blB = t.tail.dropWhile blB := by
  cases t with
  | nil => simp at h
  | cons a u => exact List.dropWhile_cons_of_pos hx
theorem front_no {t : List UInt8} (hx : 0 < t.length → blB (t.getD 0 0) = false) : t.dropWhile blB = t := by
  cases t with
  | nil => rfl
  | cons a u => exact List.dropWhile_cons_of_neg (by have : blB a = false := hx (by simp); simp [this])
theorem last_at {t : List UInt8} (h : 0 < t.length) : t = t.take (t.length - 1) ++ [t.getD (t.length - 1) 0] := by
  have := take_snocH t (t.length - 1) (by omega)
  rw [show t.length - 1 + 1 = t.length by omega, List.take_length] at this
  rw [List.getD_eq_getElem?_getD, List.getElem?_eq_getElem (by omega)]
  exact this
theorem back_yes {t : List UInt8} (h : 0 < t.length) (hx : blB (t.getD (t.length - 1) 0) = true) : backL t = backL (t.take (t.length - 1)) := by
  have e := last_at h
  generalize t.getD (t.length - 1) 0 = x at e hx
  generalize t.take (t.length - 1) = u at e ⊢
  subst e
  unfold backL
  rw [List.reverse_append]
  exact congrArg List.reverse (List.dropWhile_cons_of_pos hx)
theorem back_no {t : List UInt8} (hx : 0 < t.length → blB (t.getD (t.length - 1) 0) = false) : backL t = t := by
  by_cases h : 0 < t.length
  · have e := last_at h
    have hx1 := hx h
    clear hx
    generalize t.getD (t.length - 1) 0 = x at e hx1
    generalize t.take (t.length - 1) = u at e
    subst e
    unfold backL
    rw [List.reverse_append, show [x].reverse ++ u.reverse = x :: u.reverse from rfl, List.dropWhile_cons_of_neg (by simp [hx1])]
    simp
  · have : t = [] := List.eq_nil_of_length_eq_zero (by omega)
    subst this; rfl
set_option maxHeartbeats 4000000 in
theorem refTrim_any (s : List UInt8) (w : World) (hs : s.length ≤ 100000) : Calls Tryz.prog 24 #[str s] w fun e w' => e = .returned (str (trimR s)) ∧ w = w' := by
  go_enter Tryz.func24, Tryz.ntmps24
  go_wp2_with fail
  go_loop [0] (fun i => ∃ t : List UInt8, t.length ≤ 100000 ∧ i = str t ∧ Hid (t.dropWhile blB = s.dropWhile blB)) (fun i => lenV i)
  case atStart => exact ⟨s, hs, rfl, Lib.hid rfl⟩
  case round =>
    obtain ⟨t, ht, rfl, HT⟩ := hrel
    by_cases hp : 0 < t.length
    · have hp2 : (0 : Int) < (t.length : Int) := by omega
      have i0 := fun W => index_first t hp W
      have d0 := fun W => slice_first t hp W
      obtain ⟨x, hx⟩ : ∃ x, x = t.getD 0 0 := ⟨_, rfl⟩
      have HY := Lib.hid (fun h => (front_yes hp h).symm.trans HT.out)
      have HN := Lib.hid (fun h => front_no (t := t) (fun _ => h))
      rw [← hx] at i0 HY HN
      clear hx
      by_cases h32 : x = 32
      · subst h32
        have e : vb 32 = .int .u8 32 := rfl
        rw [e] at i0
        go_wp2_with fail
        go_round
        case rel => exact ⟨t.tail, by simp; omega, rfl, Lib.hid (HY.out (by decide))⟩
        case measure => rw [lenV_str, lenV_str]; simp; omega
      · by_cases h9 : x = 9
        · subst h9
          have e : vb 9 = .int .u8 9 := rfl
          rw [e] at i0
          clear h32
          go_wp2_with fail
          go_round
          case rel => exact ⟨t.tail, by simp; omega, rfl, Lib.hid (HY.out (by decide))⟩
          case measure => rw [lenV_str, lenV_str]; simp; omega
        · have hv : vb x = .int .u8 (x.toNat : Int) := rfl
          rw [hv] at i0
          have n32 : x.toNat ≠ 32 := fun e => h32 (UInt8.toNat_inj.1 e)
          have n9 : x.toNat ≠ 9 := fun e => h9 (UInt8.toNat_inj.1 e)
          obtain ⟨X, hX⟩ : ∃ X, X = x.toNat := ⟨_, rfl⟩
          rw [← hX] at i0 n32 n9
          have e32 : ((X : Int) == 32) = false := by rw [beq_eq_false_iff_ne]; omega
          have e9 : ((X : Int) == 9) = false := by rw [beq_eq_false_iff_ne]; omega
          have hN := HN.out (by unfold blB; simp [h32, h9])
          have HT := Lib.hid (show backL t = trimR s by unfold trimR; rw [← HT.out, hN])
          clear h32 h9 hX hv n32 n9 hN HY HN
          go_wp2_with fail
          go_loop [0] (fun i => ∃ t : List UInt8, t.length ≤ 100000 ∧ i = str t ∧ Hid (backL t = trimR s)) (fun i => lenV i)
          case atStart => exact ⟨t, ht, rfl, HT⟩
          case round =>
            clear ht HT
            obtain ⟨t, ht, rfl, HT⟩ := hrel
            by_cases hp : 0 < t.length
            · have hp2 : (0 : Int) < (t.length : Int) := by omega
              have i0 := fun W => index_last t hp W
              have d0 := fun W => slice_last t hp W
              obtain ⟨x, hx⟩ : ∃ x, x = t.getD (t.length - 1) 0 := ⟨_, rfl⟩
              have HY := Lib.hid (fun h => (back_yes hp h).symm.trans HT.out)
              have HN := Lib.hid (fun h => back_no (t := t) (fun _ => h))
              rw [← hx] at i0 HY HN
              clear hx
              by_cases h32 : x = 32
              · subst h32
                have e : vb 32 = .int .u8 32 := rfl
                rw [e] at i0
                go_wp2_with fail
                go_round
                case rel => exact ⟨t.take (t.length - 1), by simp; omega, rfl, Lib.hid (HY.out (by decide))⟩
                case measure => rw [lenV_str, lenV_str]; simp; omega
              · by_cases h9 : x = 9
                · subst h9
                  have e : vb 9 = .int .u8 9 := rfl
                  rw [e] at i0
                  clear h32
                  go_wp2_with fail
                  go_round
                  case rel => exact ⟨t.take (t.length - 1), by simp; omega, rfl, Lib.hid (HY.out (by decide))⟩
                  case measure => rw [lenV_str, lenV_str]; simp; omega
                · have hv : vb x = .int .u8 (x.toNat : Int) := rfl
                  rw [hv] at i0
                  have n32 : x.toNat ≠ 32 := fun e => h32 (UInt8.toNat_inj.1 e)
                  have n9 : x.toNat ≠ 9 := fun e => h9 (UInt8.toNat_inj.1 e)
                  obtain ⟨X, hX⟩ : ∃ X, X = x.toNat := ⟨_, rfl⟩
                  rw [← hX] at i0 n32 n9
                  have e32 : ((X : Int) == 32) = false := by rw [beq_eq_false_iff_ne]; omega
                  have e9 : ((X : Int) == 9) = false := by rw [beq_eq_false_iff_ne]; omega
                  have hN := HN.out (by unfold blB; simp [h32, h9])
                  have HT := Lib.hid (hN.symm.trans HT.out)
                  clear h32 h9 hX hv n32 n9 hN HY HN
                  go_wp2_with fail
                  go_ret
                  exact ⟨by rw [← HT.out]; rfl, rfl⟩
            · have hp2 : ¬ (0 : Int) < (t.length : Int) := by omega
              have hN := back_no (t := t) (fun h => absurd h hp)
              have HT := Lib.hid (hN.symm.trans HT.out)
              clear hN
              go_wp2_with fail
              go_ret
              exact ⟨by rw [← HT.out]; rfl, rfl⟩
    · have hp2 : ¬ (0 : Int) < (t.length : Int) := by omega
      have hN := front_no (t := t) (fun h => absurd h hp)
      have HT := Lib.hid (show backL t = trimR s by unfold trimR; rw [← HT.out, hN])
      clear hN
      go_wp2_with fail
      go_loop [0] (fun i => ∃ t : List UInt8, t.length ≤ 100000 ∧ i = str t ∧ Hid (backL t = trimR s)) (fun i => lenV i)
      case atStart => exact ⟨t, ht, rfl, HT⟩
      case round =>
        clear ht HT
        obtain ⟨t, ht, rfl, HT⟩ := hrel
        by_cases hp : 0 < t.length
        · have hp2 : (0 : Int) < (t.length : Int) := by omega
          have i0 := fun W => index_last t hp W
          have d0 := fun W => slice_last t hp W
          obtain ⟨x, hx⟩ : ∃ x, x = t.getD (t.length - 1) 0 := ⟨_, rfl⟩
          have HY := Lib.hid (fun h => (back_yes hp h).symm.trans HT.out)
          have HN := Lib.hid (fun h => back_no (t := t) (fun _ => h))
          rw [← hx] at i0 HY HN
          clear hx
          by_cases h32 : x = 32
          · subst h32
            have e : vb 32 = .int .u8 32 := rfl
            rw [e] at i0
            go_wp2_with fail
            go_round
            case rel => exact ⟨t.take (t.length - 1), by simp; omega, rfl, Lib.hid (HY.out (by decide))⟩
            case measure => rw [lenV_str, lenV_str]; simp; omega
          · by_cases h9 : x = 9
            · subst h9
              have e : vb 9 = .int .u8 9 := rfl
              rw [e] at i0
              clear h32
              go_wp2_with fail
              go_round
              case rel => exact ⟨t.take (t.length - 1), by simp; omega, rfl, Lib.hid (HY.out (by decide))⟩
              case measure => rw [lenV_str, lenV_str]; simp; omega
            · have hv : vb x = .int .u8 (x.toNat : Int) := rfl
              rw [hv] at i0
              have n32 : x.toNat ≠ 32 := fun e => h32 (UInt8.toNat_inj.1 e)
              have n9 : x.toNat ≠ 9 := fun e => h9 (UInt8.toNat_inj.1 e)
              obtain ⟨X, hX⟩ : ∃ X, X = x.toNat := ⟨_, rfl⟩
              rw [← hX] at i0 n32 n9
              have e32 : ((X : Int) == 32) = false := by rw [beq_eq_false_iff_ne]; omega
              have e9 : ((X : Int) == 9) = false := by rw [beq_eq_false_iff_ne]; omega
              have hN := HN.out (by unfold blB; simp [h32, h9])
              have HT := Lib.hid (hN.symm.trans HT.out)
              clear h32 h9 hX hv n32 n9 hN HY HN
              go_wp2_with fail
              go_ret
              exact ⟨by rw [← HT.out]; rfl, rfl⟩
        · have hp2 : ¬ (0 : Int) < (t.length : Int) := by omega
          have hN := back_no (t := t) (fun h => absurd h hp)
          have HT := Lib.hid (hN.symm.trans HT.out)
          clear hN
          go_wp2_with fail
          go_ret
          exact ⟨by rw [← HT.out]; rfl, rfl⟩
end Go.Proofs.YtajclihnoedecaaGreatDoor
