/- trace: the reference's num. -/
import Derived.Test.YtoehkhbppmgfkaaGreatDoorTvRl
set_option maxRecDepth 100000
namespace Go.Proofs.YtoehkhbppmgfkaaGreatDoor
open Go.RowKit Go.Shelf
attribute [local go_sem] Oper.semAt_some
/-- The number of a text of digits. -/
def valN (l : List UInt8) : Nat := l.foldl (fun n c => 10 * n + (c.toNat - 48)) 0
def isN (c : UInt8) : Bool := decide (48 ≤ c.toNat) && decide (c.toNat ≤ 57)
def numOk (s : List UInt8) : Bool := s.all isN && decide (1 ≤ s.length) && decide (s.length ≤ 16) && (decide (s.length ≤ 1) || decide ((s.getD 0 0).toNat ≠ 48))
theorem valN_snoc (l : List UInt8) (c : UInt8) : valN (l ++ [c]) = 10 * valN l + (c.toNat - 48) := by unfold valN; simp
theorem valN_lt (k : Nat) : ∀ l : List UInt8, l.length = k → l.all isN = true → valN l < 10 ^ k := by
  induction k with
  | zero => intro l h _; rw [List.eq_nil_of_length_eq_zero h]; decide
  | succ k ih =>
    intro l h ha
    rcases List.eq_nil_or_concat l with rfl | ⟨t, c, rfl⟩
    · simp at h
    · rw [List.concat_eq_append] at h ha ⊢
      rw [List.length_append, List.length_singleton] at h
      rw [List.all_append, Bool.and_eq_true] at ha
      have h1 := ih t (by omega) ha.1
      have h2 : isN c = true := by simpa using ha.2
      unfold isN at h2
      simp only [Bool.and_eq_true, decide_eq_true_eq] at h2
      rw [valN_snoc, Nat.pow_succ]
      omega
set_option maxHeartbeats 4000000 in
theorem refNum_any (s : List UInt8) (w : World) (hs : s.length ≤ 100000) : Calls Tryz.prog 27 #[str s] w fun e w' => e = .returned (if numOk s = true then .tuple #[.int .u64 (valN s : Int), .bool true] else .tuple #[.int .u64 0, .bool false]) ∧ w = w' := by
  obtain ⟨R, hR⟩ : ∃ R, R = (if numOk s = true then Value.tuple #[.int .u64 (valN s : Int), .bool true] else .tuple #[.int .u64 0, .bool false]) := ⟨_, rfl⟩
  rw [← hR]
  have HR := Lib.hid hR
  clear hR
  go_enter Tryz.func27, Tryz.ntmps27
  go_wp2_with fail
  go_loop [4, 5] (fun n i => ∃ k : Nat, k ≤ s.length ∧ k ≤ 16 ∧ i = .int .i64 (k : Int) ∧ n = .int .u64 (valN (s.take k) : Int) ∧ (s.take k).all isN = true ∧ (k ≤ 1 ∨ (s.getD 0 0).toNat ≠ 48)) (fun _ i => s.length - (intOf i).toNat)
  case atStart => exact ⟨0, by omega, by omega, rfl, rfl, rfl, .inl (by omega)⟩
  case round =>
    obtain ⟨k, hk, hk16, rfl, rfl, hall, h0⟩ := hrel
    by_cases hlt : k < s.length
    · have hik : (Instr.index 9 (str s) (.int .i64 (k : Int))).run Tryz.prog w = .ok (vb (s.getD k 0)) w := str_index s k hlt w
      have hi0 : (Instr.index 9 (str s) (.int .i64 0)).run Tryz.prog w = .ok (vb (s.getD 0 0)) w := str_index s 0 (by omega) w
      have hgx : s.getD k 0 = s[k] := by rw [List.getD_eq_getElem?_getD, List.getElem?_eq_getElem hlt]; rfl
      have hts : s.take (k + 1) = s.take k ++ [s.getD k 0] := by rw [hgx]; exact List.take_succ_eq_append_getElem hlt
      have hmem : s.getD k 0 ∈ s := by rw [hgx]; exact List.getElem_mem hlt
      have hvl := valN_lt k (s.take k) (by rw [List.length_take]; omega) hall
      have h10 : (10 : Nat) ^ k ≤ 10 ^ 16 := Nat.pow_le_pow_right (by omega) hk16
      have h16 : (10 : Nat) ^ 16 = 10000000000000000 := by decide
      obtain ⟨N, hN⟩ : ∃ N, N = valN (s.take k) := ⟨_, rfl⟩
      have hN2 : N < 10000000000000000 := by rw [hN]; omega
      have hnext : valN (s.take (k + 1)) = 10 * N + ((s.getD k 0).toNat - 48) := by rw [hts, valN_snoc, hN]
      rw [← hN]
      have hfalse : numOk s = false → R = .tuple #[.int .u64 0, .bool false] := fun h => by rw [HR.out, h]; rfl
      have hbad : isN (s.getD k 0) = false → numOk s = false := fun h => by
        have : s.all isN = false := Bool.eq_false_iff.2 (fun q => by rw [List.all_eq_true.1 q _ hmem] at h; cases h)
        unfold numOk; rw [this]; rfl
      have hlong : 16 ≤ k → numOk s = false := fun h => by
        have : decide (s.length ≤ 16) = false := decide_eq_false (by omega)
        unfold numOk; rw [this]; simp
      have hlead : k = 1 → (s.getD 0 0).toNat = 48 → numOk s = false := fun h1 h2 => by
        have e1 : decide (s.length ≤ 1) = false := decide_eq_false (by omega)
        have e2 : decide ((s.getD 0 0).toNat ≠ 48) = false := decide_eq_false (fun q => q h2)
        unfold numOk; rw [e1, e2]; simp
      obtain ⟨x, hx⟩ : ∃ x, x = s.getD k 0 := ⟨_, rfl⟩
      obtain ⟨y, hy⟩ : ∃ y, y = s.getD 0 0 := ⟨_, rfl⟩
      rw [← hx] at hik hts hmem hnext hbad
      rw [← hy] at hi0 hlead
      have hta : isN x = true → (s.take (k + 1)).all isN = true := fun e => by rw [hts, List.all_append, hall]; simp [e]
      have h0' : k = 1 → y.toNat ≠ 48 → (s.getD 0 0).toNat ≠ 48 := fun _ h => by rw [← hy]; exact h
      have hlx := x.toNat_lt
      have hly := y.toNat_lt
      have hv : vb x = .int .u8 (x.toNat : Int) := rfl
      have hvy : vb y = .int .u8 (y.toNat : Int) := rfl
      rw [hv] at hik
      rw [hvy] at hi0
      have hpx : isN x = (decide (48 ≤ x.toNat) && decide (x.toNat ≤ 57)) := rfl
      obtain ⟨X, hX⟩ : ∃ X, X = x.toNat := ⟨_, rfl⟩
      obtain ⟨Y, hY⟩ : ∃ Y, Y = y.toNat := ⟨_, rfl⟩
      rw [← hX] at hik hlx hpx hnext
      rw [← hY] at hi0 hly hlead h0'
      have HF := Lib.hid hfalse
      have HBAD := Lib.hid hbad
      have HLONG := Lib.hid hlong
      have HLEAD := Lib.hid hlead
      have HTA := Lib.hid hta
      have HH0 := Lib.hid h0'
      have HH := Lib.hid h0
      have HNX := Lib.hid hnext
      have HPX := Lib.hid hpx
      clear hts hmem hvl h10 h16 hN hfalse hbad hlong hlead hta h0' h0 hnext hpx hall hgx hx hy hv hvy hX hY
      by_cases c1 : X < 48
      · have d1 : (X : Int) < 48 := by omega
        have hz := HF.out (HBAD.out (by rw [HPX.out, decide_eq_false (by omega)]; rfl))
        subst hz
        go_wp2_with fail
        go_ret2
        exact ⟨rfl, rfl⟩
      · have d1 : ¬ ((X : Int) < 48) := by omega
        by_cases c2 : 57 < X
        · have d2 : (57 : Int) < (X : Int) := by omega
          have hz := HF.out (HBAD.out (by rw [HPX.out, decide_eq_false (show ¬ X ≤ 57 by omega), Bool.and_false]))
          subst hz
          go_wp2_with fail
          go_ret2
          exact ⟨rfl, rfl⟩
        · have d2 : ¬ ((57 : Int) < (X : Int)) := by omega
          by_cases c3 : 15 < k
          · have d3 : (15 : Int) < (k : Int) := by omega
            have hz := HF.out (HLONG.out (by omega))
            subst hz
            go_wp2_with fail
            go_ret2
            exact ⟨rfl, rfl⟩
          · have d3 : ¬ ((15 : Int) < (k : Int)) := by omega
            have hisn : isN x = true := by rw [HPX.out, decide_eq_true (show 48 ≤ X by omega), decide_eq_true (show X ≤ 57 by omega)]; rfl
            have w1 : IntKind.u64.wrap (10 * (N : Int)) = 10 * (N : Int) := IntWalk.u64_in _ (by omega)
            have w2 : IntKind.u8.wrap ((X : Int) - 48) = (X : Int) - 48 := IntWalk.u8_in _ (by omega)
            have w3 : IntKind.u64.wrap ((X : Int) - 48) = (X : Int) - 48 := IntWalk.u64_in _ (by omega)
            have w4 : IntKind.u64.wrap (10 * (N : Int) + ((X : Int) - 48)) = 10 * (N : Int) + ((X : Int) - 48) := IntWalk.u64_in _ (by omega)
            have hval : ((valN (s.take (k + 1)) : Nat) : Int) = 10 * (N : Int) + ((X : Int) - 48) := by rw [HNX.out]; omega
            by_cases c4 : k = 1
            · have d4 : ((k : Int) == 1) = true := by rw [c4]; rfl
              have HC4 := Lib.hid c4
              clear c4
              by_cases c5 : Y = 48
              · have hz := HF.out (HLEAD.out HC4.out c5)
                subst hz
                subst c5
                go_wp2_with fail
                go_ret2
                exact ⟨rfl, rfl⟩
              · have d5 : ((Y : Int) == 48) = false := beq_eq_false_iff_ne.2 (by omega)
                have d5' : ¬ ((Y : Int) = 48) := by omega
                go_wp2_with fail
                go_round
                case rel => exact ⟨k + 1, by omega, by omega, by go_num, by rw [hval], HTA.out hisn, .inr (HH0.out HC4.out c5)⟩
                case measure => simp [intOf]; omega
            · have d4 : ((k : Int) == 1) = false := beq_eq_false_iff_ne.2 (by omega)
              have d4' : ¬ ((k : Int) = 1) := by omega
              go_wp2_with fail
              go_round
              case rel => exact ⟨k + 1, by omega, by omega, by go_num, by rw [hval], HTA.out hisn, by rcases HH.out with q | q; exact .inl (by omega); exact .inr q⟩
              case measure => simp [intOf]; omega
    · have hkx : k = s.length := by omega
      rw [hkx, List.take_length] at hall ⊢
      obtain ⟨N, hN⟩ : ∃ N, N = valN s := ⟨_, rfl⟩
      rw [← hN]
      rw [← hN] at HR
      have HN := Lib.hid hN
      by_cases hs0 : s.length = 0
      · have hz : R = .tuple #[.int .u64 0, .bool false] := by
          have : numOk s = false := by unfold numOk; rw [decide_eq_false (show ¬ 1 ≤ s.length by omega)]; simp
          rw [HR.out, this]; rfl
        have hse : s = [] := List.eq_nil_of_length_eq_zero hs0
        have hN0 : N = 0 := by rw [hN, hse]; rfl
        subst hz
        subst hN0
        have d1 : ¬ (0 : Int) < (s.length : Int) := by omega
        clear hN HN hse
        go_wp2_with fail
        go_ret2
        exact ⟨rfl, rfl⟩
      · have hz : R = .tuple #[.int .u64 (N : Int), .bool true] := by
          have : numOk s = true := by
            unfold numOk
            rw [hall, decide_eq_true (show 1 ≤ s.length by omega), decide_eq_true (show s.length ≤ 16 by omega)]
            rcases h0 with q | q
            · rw [decide_eq_true (show s.length ≤ 1 by omega)]; rfl
            · rw [decide_eq_true q]; simp
          rw [HR.out, this]; rfl
        subst hz
        have d1 : (0 : Int) < (s.length : Int) := by omega
        have d2 : decide (0 < s.length) = true := decide_eq_true (by omega)
        have d3 : 0 < s.length := by omega
        clear hN
        go_wp2_with fail
        go_ret2
        exact ⟨rfl, rfl⟩
end Go.Proofs.YtoehkhbppmgfkaaGreatDoor
