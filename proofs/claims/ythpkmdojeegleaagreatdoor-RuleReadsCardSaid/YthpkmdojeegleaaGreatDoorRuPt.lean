/- The reference's port. -/
import Derived.Test.YthpkmdojeegleaaGreatDoorRuDc
import Derived.Test.YthpkmdojeegleaaGreatDoorRuFn
set_option maxRecDepth 100000
namespace Go.Proofs.YthpkmdojeegleaaGreatDoor
open Go.RowKit Go.Shelf
attribute [local go_sem] Oper.semAt_some
/-- A port, or nought. -/
def portN (s : List UInt8) : Int := (portP s 4 65535).1
theorem portN_bad {s : List UInt8} (h : ¬ (1 ≤ s.length ∧ s.length ≤ 5 ∧ s.head? ≠ some 48 ∧ s.all isD = true ∧ valD s ≤ 65535)) : portN s = 0 := by
  unfold portN portP
  rw [if_neg h]
theorem portN_good {s : List UInt8} (h : 1 ≤ s.length ∧ s.length ≤ 5 ∧ s.head? ≠ some 48 ∧ s.all isD = true ∧ valD s ≤ 65535) : portN s = ((valD s : Nat) : Int) := by
  unfold portN portP
  rw [if_pos h]
def Few5 (k n : Nat) : Prop := (k = 0 ∧ n ≤ 0) ∨ (k = 1 ∧ n ≤ 9) ∨ (k = 2 ∧ n ≤ 99) ∨ (k = 3 ∧ n ≤ 999) ∨ (k = 4 ∧ n ≤ 9999) ∨ (k = 5 ∧ n ≤ 99999)
theorem Few5.step {k n d : Nat} (h : Few5 k n) (hk : k ≤ 4) (hd : d ≤ 9) : Few5 (k + 1) (10 * n + d) := by unfold Few5 at *; omega
theorem Few5.le {k n : Nat} (h : Few5 k n) : k ≤ 5 ∧ n ≤ 99999 := by unfold Few5 at h; omega
set_option maxHeartbeats 4000000 in
theorem refPort_any (s : List UInt8) (w : World) (hs : s.length ≤ 100000) : Calls Tryz.prog 48 #[str s] w fun e w' => e = .returned (.int .i64 (portN s)) ∧ w = w' := by
  obtain ⟨P, hP⟩ : ∃ P, P = portN s := ⟨_, rfl⟩
  rw [← hP]
  have HP := Lib.hid hP; clear hP
  go_enter Tryz.func48, Tryz.ntmps48
  go_wp2_with fail
  go_loop [3, 4] (fun n i => ∃ (k m : Nat), k ≤ s.length ∧ i = .int .i64 (k : Int) ∧ n = .int .i64 (m : Int) ∧ m = valD (s.take k) ∧ (s.take k).all isD = true ∧ Few5 k m ∧ (0 < k → s.head? ≠ some 48)) (fun _ i => s.length - (intOf i).toNat)
  case atStart => exact ⟨0, 0, by omega, rfl, rfl, rfl, rfl, .inl ⟨rfl, Nat.le_refl _⟩, fun h => absurd h (by omega)⟩
  case round =>
    obtain ⟨k, m, hk, rfl, rfl, hm, hall, h5, hhd⟩ := hrel
    have hle := h5.le
    by_cases hlt : k < s.length
    · have hik : (Instr.index 9 (str s) (.int .i64 (k : Int))).run Tryz.prog w = .ok (vb (s.getD k 0)) w := str_index s k hlt w
      have hgx : s.getD k 0 = s[k] := by rw [List.getD_eq_getElem?_getD, List.getElem?_eq_getElem hlt]; rfl
      have hts := take_snoc s k hlt
      rw [← hgx] at hts
      have hmem : s.getD k 0 ∈ s := by rw [hgx]; exact List.getElem_mem hlt
      have hh0 : k = 0 → s.head? = some (s.getD k 0) := fun e => by
        subst e
        cases s with
        | nil => simp at hlt
        | cons a t => rfl
      obtain ⟨x, hx⟩ : ∃ x, x = s.getD k 0 := ⟨_, rfl⟩
      rw [← hx] at hik hts hmem hh0
      have hval : valD (s.take (k + 1)) = 10 * m + (x.toNat - 48) := by rw [hts, valD_snoc, hm]
      have hall2 : isD x = true → (s.take (k + 1)).all isD = true := fun e => by rw [hts, List.all_append, hall]; simp [e]
      have hnoD : isD x = false → P = 0 := fun e => HP.out.trans (portN_bad (fun h => by
        have := List.all_eq_true.1 h.2.2.2.1 x hmem
        rw [e] at this; cases this))
      have hno5 : 5 ≤ k → P = 0 := fun e => HP.out.trans (portN_bad (fun h => by omega))
      have hno0 : k = 0 → x.toNat = 48 → P = 0 := fun e1 e2 => HP.out.trans (portN_bad (fun h => h.2.2.1 (by rw [hh0 e1]; congr 1; exact UInt8.toNat_inj.1 e2)))
      have hhd2 : (k = 0 → x.toNat ≠ 48) → 0 < k + 1 → s.head? ≠ some 48 := fun e _ => by
        by_cases hk0 : k = 0
        · rw [hh0 hk0]; intro e3; injection e3 with e4; exact e hk0 (by rw [e4]; rfl)
        · exact hhd (by omega)
      have hDx : isD x = (decide (48 ≤ x.toNat) && decide (x.toNat ≤ 57)) := rfl
      have hlx := x.toNat_lt
      have hv : vb x = .int .u8 (x.toNat : Int) := rfl
      rw [hv] at hik
      rw [hDx] at hall2 hnoD
      obtain ⟨X, hX⟩ : ∃ X, X = x.toNat := ⟨_, rfl⟩
      rw [← hX] at hik hlx hall2 hnoD hno0 hhd2 hval
      have HV := Lib.hid hval; have HA := Lib.hid hall2; have HD := Lib.hid hnoD; have HN5 := Lib.hid hno5; have HN0 := Lib.hid hno0; have HH := Lib.hid hhd2; have H5 := Lib.hid h5
      clear hv hX hDx hval hall2 hnoD hno5 hno0 hhd2 h5 hh0 hmem hts hgx hx hhd hall hm
      by_cases c1 : X < 48
      · skip
        obtain rfl := HD.out (by rw [decide_eq_false (by omega : ¬ 48 ≤ X)]; rfl)
        have c1z : (X : Int) < 48 := by omega
        have c1d : decide ((X : Int) < 48) = true := decide_eq_true c1z
        clear HV HA HD HN5 HN0 HH H5
        go_wp2_with fail
        go_ret
        exact ⟨rfl, rfl⟩
      have c1n : decide ((X : Int) < 48) = false := decide_eq_false (by omega)
      by_cases c2 : 57 < X
      · skip
        obtain rfl := HD.out (by rw [decide_eq_false (by omega : ¬ X ≤ 57), Bool.and_false])
        have c2z : (57 : Int) < (X : Int) := by omega
        have c2d : decide ((57 : Int) < (X : Int)) = true := decide_eq_true c2z
        clear HV HA HD HN5 HN0 HH H5
        go_wp2_with fail
        go_ret
        exact ⟨rfl, rfl⟩
      have c2n : decide ((57 : Int) < (X : Int)) = false := decide_eq_false (by omega)
      by_cases c3 : 5 ≤ k
      · skip
        obtain rfl := HN5.out c3
        have c3z : (4 : Int) < (k : Int) := by omega
        have c3d : decide ((4 : Int) < (k : Int)) = true := decide_eq_true c3z
        clear HV HA HD HN5 HN0 HH H5
        go_wp2_with fail
        go_ret
        exact ⟨rfl, rfl⟩
      have c3n : decide ((4 : Int) < (k : Int)) = false := decide_eq_false (by omega)
      have hA := HA.out (by rw [decide_eq_true (by omega : 48 ≤ X), decide_eq_true (by omega : X ≤ 57)]; rfl)
      have h5n := H5.out.step (d := X - 48) (by omega) (by omega)
      have g1 : (48 : Int) ≤ (X : Int) := by omega
      have g2 : (X : Int) ≤ 57 := by omega
      have g3 : (m : Int) ≤ 99999 := by omega
      have HA2 := Lib.hid hA; have H5N := Lib.hid h5n
      clear hA h5n
      by_cases c4 : k = 0
      · subst c4
        have hik0 : (Instr.index 9 (str s) (.int .i64 0)).run Tryz.prog w = .ok (.int .u8 (X : Int)) w := hik
        have z0 : ((0 : Nat) : Int) = 0 := rfl
        try rw [z0]
        by_cases c5 : X = 48
        · subst c5
          have hik1 : (Instr.index 9 (str s) (.int .i64 0)).run Tryz.prog w = .ok (.int .u8 48) w := hik
          clear hik hik0
          obtain rfl := HN0.out rfl rfl
          clear HV HA HD HN5 HN0 HH H5
          go_wp2_with fail
          go_ret
          exact ⟨rfl, rfl⟩
        · have c5d : ((X : Int) == 48) = false := by rw [beq_eq_false_iff_ne]; omega
          clear hik
          have HH2 := Lib.hid (HH.out (by omega) (Nat.succ_pos 0))
          clear HA HD HN5 HN0 HH H5
          go_wp2_with fail
          go_round
          case rel => exact ⟨0 + 1, 10 * m + (X - 48), by omega, by go_num, by go_num, HV.out.symm, HA2.out, H5N.out, fun _ => HH2.out⟩
          case measure => simp [intOf]; omega
      · have c4d : ((k : Int) == 0) = false := by rw [beq_eq_false_iff_ne]; omega
        have HH2 := Lib.hid (HH.out (by omega) (Nat.succ_pos k))
        clear HA HD HN5 HN0 HH H5
        go_wp2_with fail
        go_round
        case rel => exact ⟨k + 1, 10 * m + (X - 48), by omega, by go_num, by go_num, HV.out.symm, HA2.out, H5N.out, fun _ => HH2.out⟩
        case measure => simp [intOf]; omega
    · obtain rfl : k = s.length := by omega
      rw [List.take_of_length_le (Nat.le_refl _)] at hm hall
      by_cases c6 : 65535 < m
      · obtain rfl : P = 0 := HP.out.trans (portN_bad (fun h => by have := h.2.2.2.2; omega))
        have c6z : (65535 : Int) < (m : Int) := by omega
        clear hm hall h5 hhd
        go_wp2_with fail
        go_ret
        exact ⟨rfl, rfl⟩
      · have hPm : P = (m : Int) := by
          by_cases h0 : s.length = 0
          · have : s = [] := List.eq_nil_of_length_eq_zero h0
            rw [HP.out, portN_bad (fun h => by omega), hm, this]; rfl
          · rw [HP.out, portN_good ⟨by omega, by omega, hhd (by omega), hall, by omega⟩, hm]
        have c6z : ¬ (65535 : Int) < (m : Int) := by omega
        subst hPm
        clear hm hall h5 hhd
        go_wp2_with fail
        go_ret
        exact ⟨rfl, rfl⟩
end Go.Proofs.YthpkmdojeegleaaGreatDoor
