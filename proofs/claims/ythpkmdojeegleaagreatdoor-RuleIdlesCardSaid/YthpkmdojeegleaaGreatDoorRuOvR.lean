/- The reference's over, Covers. -/
import Derived.Test.YthpkmdojeegleaaGreatDoorRuOv
import Derived.Test.YthpkmdojeegleaaGreatDoorRuVa
import Derived.Test.YthpkmdojeegleaaGreatDoorStrI
set_option maxRecDepth 100000
namespace Go.Proofs.YthpkmdojeegleaaGreatDoor
open Go.RowKit Go.Shelf
attribute [local go_sem] Oper.semAt_some
theorem cut_hd (s : List UInt8) (k : Nat) (h : k ≤ s.length) (W : World) : (Instr.slice 9 (str s) none (some (.int .i64 (k : Int))) none).run Tryz.prog W = .ok (str (s.take k)) W := by
  have e : (ByteArray.mk s.toArray).extract 0 k = ByteArray.mk (s.take k).toArray := by
    apply ByteArray.ext
    simp [ByteArray.data_extract]
  go_simp
theorem cut_tl (s : List UInt8) (k : Nat) (h : k ≤ s.length) (W : World) : (Instr.slice 9 (str s) (some (.int .i64 (k : Int))) none none).run Tryz.prog W = .ok (str (s.drop k)) W := by
  have e : (ByteArray.mk s.toArray).extract k s.length = ByteArray.mk (s.drop k).toArray := by
    apply ByteArray.ext
    simp [ByteArray.data_extract]
    exact List.take_of_length_le (by simp)
  go_simp
set_option maxHeartbeats 4000000 in
theorem refOver_any (a b : List UInt8) (w : World) (ha : a.length ≤ 10000) (hb : b.length ≤ 10000) :
    Calls Tryz.prog 59 #[str a, str b] w fun e w' => e = .returned (.bool (overP a b)) ∧ Below w.heap.size w w' := by
  obtain ⟨P, hP⟩ : ∃ P, P = overP a b := ⟨_, rfl⟩
  rw [← hP]
  by_cases h1 : a = [42]
  · subst h1
    obtain rfl : P = true := hP.trans (over_star b)
    clear hP
    go_enter Tryz.func59, Tryz.ntmps59
    go_wp2_with fail
    go_ret
    exact ⟨rfl, Below.refl _ _⟩
  have g1 : (a == [42]) = false := by rw [beq_eq_false_iff_ne]; exact h1
  by_cases h2 : a = b
  · subst h2
    obtain rfl : P = true := hP.trans (over_same a)
    clear hP
    go_enter Tryz.func59, Tryz.ntmps59
    go_wp2_with fail
    go_ret
    exact ⟨rfl, Below.refl _ _⟩
  have g2 : (a == b) = false := by rw [beq_eq_false_iff_ne]; exact h2
  have HP := Lib.hid hP
  have H2 := Lib.hid h2
  clear h1 h2 hP
  go_enter Tryz.func59, Tryz.ntmps59
  go_wp2_with fail
  clear g1 g2
  go_loop [5, 6] (fun c i => ∃ k : Nat, k ≤ a.length ∧ i = .int .i64 (k : Int) ∧ c = .int .i64 (((a.take k).count 42 : Nat) : Int)) (fun _ i => a.length - (intOf i).toNat)
  case atStart => exact ⟨0, by omega, rfl, rfl⟩
  case round =>
    obtain ⟨k, hk, rfl, rfl⟩ := hrel
    by_cases hlt : k < a.length
    · have hik : (Instr.index 9 (str a) (.int .i64 (k : Int))).run Tryz.prog w = .ok (vb (a.getD k 0)) w := str_index a k hlt w
      have hts : a.take (k + 1) = a.take k ++ [a.getD k 0] := by
        rw [List.take_succ_eq_append_getElem hlt, List.getD_eq_getElem?_getD, List.getElem?_eq_getElem hlt]; rfl
      have hcl := List.count_le_length (a := (42 : UInt8)) (l := a.take k)
      rw [List.length_take] at hcl
      obtain ⟨x, hx⟩ : ∃ x, x = a.getD k 0 := ⟨_, rfl⟩
      rw [← hx] at hik hts
      have hc : (a.take (k + 1)).count 42 = (a.take k).count 42 + if x = 42 then 1 else 0 := by
        rw [hts, List.count_append]
        simp [List.count_cons]
      obtain ⟨c, hcc⟩ : ∃ c, c = (a.take k).count 42 := ⟨_, rfl⟩
      rw [← hcc] at hc hcl ⊢
      have hcb : c ≤ 10000 := by omega
      clear hx hts hcc hcl
      by_cases h42 : x = 42
      · rw [if_pos h42] at hc
        subst h42
        have HC := Lib.hid hc; clear hc
        have hikx : (Instr.index 9 (str a) (.int .i64 (k : Int))).run Tryz.prog w = .ok (.int .u8 42) w := hik
        clear hik
        go_wp2_with fail
        go_round
        case rel => exact ⟨k + 1, by omega, by go_num, by rw [HC.out]; go_num⟩
        case measure => simp [intOf]; omega
      · rw [if_neg h42] at hc
        have hcf : ((x.toNat : Int) == 42) = false := by
          rw [beq_eq_false_iff_ne]; have : x.toNat ≠ 42 := fun e => h42 (UInt8.toNat_inj.1 e); omega
        have hikx : (Instr.index 9 (str a) (.int .i64 (k : Int))).run Tryz.prog w = .ok (.int .u8 (x.toNat : Int)) w := hik
        have hlx := x.toNat_lt
        have HC := Lib.hid hc; clear hc h42 hik
        go_wp2_with fail
        go_round
        case rel => exact ⟨k + 1, by omega, by go_num, by rw [HC.out]; rfl⟩
        case measure => simp [intOf]; omega
    · have hkk : a.take k = a := List.take_of_length_le (by omega)
      rw [hkk]
      have hcl := List.count_le_length (a := (42 : UInt8)) (l := a)
      clear hkk
      by_cases h1 : a.count 42 = 1
      · have hP : P = overR a b := HP.out.trans (over_one H2.out h1)
        rw [h1] at hcl ⊢
        have e1 : ((1 : Nat) : Int) = 1 := rfl
        rw [e1]
        obtain ⟨n, hn⟩ : ∃ n, a.length = n + 1 := ⟨a.length - 1, by omega⟩
        unfold overR at hP
        have en : a.length - 1 = n := by omega
        rw [en] at hP
        have ez : ((n + 1 : Nat) : Int) - 1 = (n : Int) := by omega
        have ey : IntKind.i64.wrap (n : Int) = (n : Int) := IntWalk.i64_in _ (by omega)
        by_cases hbn : b.length < n
        · have hnb : (b.length : Int) < (n : Int) := by omega
          obtain rfl : P = false := by rw [hP, decide_eq_false (by omega : ¬ n ≤ b.length)]; rfl
          clear hP HP H2 h1 en hcl
          go_wp2_with fail
          go_ret
          exact ⟨rfl, Below.refl _ _⟩
        · have hnb : ¬ (b.length : Int) < (n : Int) := by omega
          rw [decide_eq_true (by omega : n ≤ b.length)] at hP
          have hi1 : ∀ W, (Instr.index 9 (str a) (.int .i64 (n : Int))).run Tryz.prog W = .ok (vb (a.getD n 0)) W := str_index a n (by omega)
          have hi2 : ∀ W, (Instr.index 9 (str a) (.int .i64 0)).run Tryz.prog W = .ok (vb (a.getD 0 0)) W := str_index a 0 (by omega)
          have hs1 := cut_hd b n (by omega)
          have hs2 := cut_hd a n (by omega)
          have hs3 := cut_tl b (b.length - n) (by omega)
          have hs4 : ∀ W, (Instr.slice 9 (str a) (some (.int .i64 1)) none none).run Tryz.prog W = .ok (str (a.drop 1)) W := cut_tl a 1 (by omega)
          have ex : ((b.length : Int) - (n : Int)) = ((b.length - n : Nat) : Int) := by omega
          have ew : IntKind.i64.wrap ((b.length : Int) - (n : Int)) = (b.length : Int) - (n : Int) := IntWalk.i64_in _ (by omega)
          rw [← ex] at hs3
          clear ex
          obtain ⟨x, hx⟩ : ∃ x, x = a.getD n 0 := ⟨_, rfl⟩
          obtain ⟨y, hy⟩ : ∃ y, y = a.getD 0 0 := ⟨_, rfl⟩
          obtain ⟨s1, h1⟩ : ∃ s1, s1 = b.take n := ⟨_, rfl⟩
          obtain ⟨s2, h2⟩ : ∃ s2, s2 = a.take n := ⟨_, rfl⟩
          obtain ⟨s3, h3⟩ : ∃ s3, s3 = b.drop (b.length - n) := ⟨_, rfl⟩
          obtain ⟨s4, h4⟩ : ∃ s4, s4 = a.drop 1 := ⟨_, rfl⟩
          rw [← hx] at hP hi1
          rw [← hy] at hP hi2
          rw [← h1] at hP hs1
          rw [← h2] at hP hs2
          rw [← h3] at hP hs3
          rw [← h4] at hP hs4
          clear hx hy h1 h2 h3 h4 HP H2 en
          obtain ⟨u, hu⟩ : ∃ u, u = (s1 == s2) := ⟨_, rfl⟩
          obtain ⟨v, hv⟩ : ∃ v, v = (s3 == s4) := ⟨_, rfl⟩
          rw [← hu, ← hv] at hP
          have hu2 := hu.symm; have hv2 := hv.symm
          clear hu hv
          have hX : x = 42 ∨ (x == 42) = false ∧ ((x.toNat : Int) == 42) = false := by
            by_cases e : x = 42
            · exact .inl e
            · refine .inr ⟨by rw [beq_eq_false_iff_ne]; exact e, ?_⟩
              rw [beq_eq_false_iff_ne]; have : x.toNat ≠ 42 := fun h => e (UInt8.toNat_inj.1 h); omega
          have hY : y = 42 ∨ (y == 42) = false ∧ ((y.toNat : Int) == 42) = false := by
            by_cases e : y = 42
            · exact .inl e
            · refine .inr ⟨by rw [beq_eq_false_iff_ne]; exact e, ?_⟩
              rw [beq_eq_false_iff_ne]; have : y.toNat ≠ 42 := fun h => e (UInt8.toNat_inj.1 h); omega
          have hlx := x.toNat_lt
          have hly := y.toNat_lt
          rcases hX with rfl | ⟨hX1, hX2⟩ <;> rcases hY with rfl | ⟨hY1, hY2⟩ <;> cases u <;> cases v
          all_goals
            try rw [hX1] at hP
            try rw [hY1] at hP
            first | (have hd3 : P = true := hP.trans (by first | rfl | decide)
                     subst hd3) | (have hd3 : P = false := hP.trans (by first | rfl | decide)
                                   subst hd3)
            clear hP
            unfold vb bn at hi1 hi2
            try have k42 : (((42 : UInt8).toNat : Nat) : Int) = 42 := rfl
            try rw [k42] at hi1
            try rw [k42] at hi2
            go_wp2_with fail
            go_quiet (fail)
            go_wp2_with fail
            go_ret
            exact ⟨rfl, below_drewN (Below.refl _ w) _⟩
      · obtain rfl : P = false := HP.out.trans (over_not H2.out h1)
        obtain ⟨c, hc⟩ : ∃ c, c = a.count 42 := ⟨_, rfl⟩
        rw [← hc] at h1 hcl ⊢
        have h1n : ((c : Int) != 1) = true := by rw [bne_iff_ne]; omega
        clear HP H2 hc h1
        go_wp2_with fail
        go_ret
        exact ⟨rfl, Below.refl _ _⟩
end Go.Proofs.YthpkmdojeegleaaGreatDoor
