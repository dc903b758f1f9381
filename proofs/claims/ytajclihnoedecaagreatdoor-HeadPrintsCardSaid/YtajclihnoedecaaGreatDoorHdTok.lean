/- head: texts, tokens, targets; cutting and striking. -/
import Derived.Test.YtajclihnoedecaaGreatDoorHdEnv
import Derived.Test.YtajclihnoedecaaGreatDoorHdP
import Derived.Test.YtajclihnoedecaaGreatDoorHdAny
import Derived.Test.YtajclihnoedecaaGreatDoorStrI
import Derived.Lib.QuietBelow
import Derived.Shelf.Strings.SlTrimAscii
namespace Go.Proofs.YtajclihnoedecaaGreatDoor
open Go.RowKit Go.Shelf
theorem take_snocH (xs : List UInt8) (k : Nat) (h : k < xs.length) : xs.take (k + 1) = xs.take k ++ [xs[k]] := List.take_succ_eq_append_getElem h
theorem txC_num (x : UInt8) : txC x = decide (x.toNat < 256 ∧ (x.toNat = 9 ∨ (32 ≤ x.toNat ∧ x.toNat ≠ 127))) := by
  have hl := x.toNat_lt
  have h9 : (x = 9) ↔ x.toNat = 9 := by constructor; (intro h; rw [h]; rfl); (intro h; exact UInt8.toNat_inj.1 h)
  have h127 : (x = 127) ↔ x.toNat = 127 := by constructor; (intro h; rw [h]; rfl); (intro h; exact UInt8.toNat_inj.1 h)
  unfold txC
  rw [Bool.eq_iff_iff]
  simp only [Bool.or_eq_true, Bool.and_eq_true, beq_iff_eq, bne_iff_ne, ne_eq, decide_eq_true_eq, h9, h127]
  omega
theorem belowN {w : World} (n : Nat) : Below w.heap.size w (w.drewN n) := (Below.refl _ w).trans ⟨rfl, rfl, rfl, Nat.le_refl _, fun _ _ => rfl⟩
theorem cut_env (s sep : List UInt8) (w : World) (hE : Env w) (hs : s.length ≤ 100000) :
    Calls Tryz.prog 32 #[str s, str sep] w fun e w' => e = .returned (.tuple #[str (Lib.cut s sep).1, str (Lib.cut s sep).2.1, .bool (Lib.cut s sep).2.2]) ∧ Below w.heap.size w w' := by
  obtain ⟨m, hm⟩ := hE.looks
  refine (Tryz.strings_Cut ⟨s.toArray⟩ ⟨sep.toArray⟩ m w (by simp [ByteArray.size]; omega) hm).mono ?_
  rintro e w' ⟨rfl, n, rfl⟩
  exact ⟨by simp, belowN n⟩
theorem trim_env (s cs : List UInt8) (w : World) (hs : s.length ≤ 100000) (hc : cs.length ≤ 1000) (ha : cs.all (fun b => decide (b.toNat < 128)) = true) :
    Calls Tryz.prog 34 #[str s, str cs] w fun e w' => e = .returned (str (Lib.trimS s cs)) ∧ Below w.heap.size w w' := by
  refine Any.strings_Trim_laid Tryz.lays160 (by kernel_rfl) ⟨s.toArray⟩ ⟨cs.toArray⟩ w (by simp [ByteArray.size]; omega) (by simp [ByteArray.size]; omega) ?_
  intro j b hb
  have := List.all_eq_true.1 ha b (List.mem_of_getElem? (by simpa using hb))
  simpa using this
theorem ne_isEmpty {l : List UInt8} (h : l ≠ []) : l.isEmpty = false := by cases l; exact absurd rfl h; rfl
set_option maxRecDepth 100000 in
theorem token_any (s : List UInt8) (w : World) (hs : s.length ≤ 100000) : Calls Tryz.prog 44 #[str s] w fun e w' => e = .returned (.bool (tokB s)) ∧ Below w.heap.size w w' := by
  have ht := trimS_nil s tokS
  have hp : tokB s = (!s.isEmpty && s.all (tokS.contains ·)) := rfl
  have HC := Lib.hid (trim_env s tokS w hs (by decide) (by decide +kernel))
  obtain ⟨T, hT⟩ : ∃ T, T = Lib.trimS s tokS := ⟨_, rfl⟩
  rw [← hT] at ht HC
  obtain ⟨P, hP⟩ : ∃ P, P = tokB s := ⟨_, rfl⟩
  rw [← hP] at hp ⊢
  clear hP hT
  by_cases h0 : s = []
  · subst h0
    obtain rfl : P = false := by rw [hp]; rfl
    clear hp ht HC
    go_enter Tryz.func44, Tryz.ntmps44
    go_wp2_with fail
    go_ret
    exact ⟨rfl, Below.refl _ _⟩
  · have hne := ne_isEmpty h0
    by_cases hTe : T = []
    · obtain rfl : P = true := by rw [hp, hne, ht.1 hTe]; rfl
      subst hTe
      clear hp ht h0
      go_enter Tryz.func44, Tryz.ntmps44
      go_wp2_with fail
      refine HC.out.mono ?_
      rintro e w1 ⟨rfl, hB⟩
      have HB := Lib.hid hB; clear hB HC
      go_wp2_with fail
      go_ret
      exact ⟨rfl, HB.out⟩
    · have hall : s.all (tokS.contains ·) = false := by rw [← Bool.not_eq_true]; exact fun e => hTe (ht.2 e)
      obtain rfl : P = false := by rw [hp, hall, Bool.and_false]
      have hTe2 := ne_isEmpty hTe
      clear hp ht h0 hall hTe
      go_enter Tryz.func44, Tryz.ntmps44
      go_wp2_with fail
      refine HC.out.mono ?_
      rintro e w1 ⟨rfl, hB⟩
      have HB := Lib.hid hB; clear hB HC
      go_wp2_with fail
      go_ret
      exact ⟨rfl, HB.out⟩
set_option maxRecDepth 100000 in
set_option maxHeartbeats 4000000 in
theorem isText_any (s : List UInt8) (w : World) (hs : s.length ≤ 100000) : Calls Tryz.prog 55 #[str s] w fun e w' => e = .returned (.bool (txtB s)) ∧ w = w' := by
  have hp : (txtB s) = (txtB s) := rfl
  obtain ⟨P, hP⟩ : ∃ P, P = (txtB s) := ⟨_, rfl⟩
  rw [← hP]
  have HP := Lib.hid hP; clear hP hp
  go_enter Tryz.func55, Tryz.ntmps55
  go_wp2_with fail
  go_loop [6] (fun i => ∃ k : Nat, k ≤ s.length ∧ i = .int .i64 (k : Int) ∧ (s.take k).all txC = true) (fun i => s.length - (intOf i).toNat)
  case atStart => exact ⟨0, by omega, rfl, rfl⟩
  case round =>
    obtain ⟨k, hk, rfl, hall⟩ := hrel
    by_cases hlt : k < s.length
    · have hik : (Instr.index 9 (str s) (.int .i64 (k : Int))).run Tryz.prog w = .ok (vb (s.getD k 0)) w := str_index s k hlt w
      have hts := take_snocH s k hlt
      have hgx : s.getD k 0 = s[k] := by rw [List.getD_eq_getElem?_getD, List.getElem?_eq_getElem hlt]; rfl
      rw [← hgx] at hts
      have hmem : s.getD k 0 ∈ s := by rw [hgx]; exact List.getElem_mem hlt
      obtain ⟨x, hx⟩ : ∃ x, x = s.getD k 0 := ⟨_, rfl⟩
      rw [← hx] at hik hts hmem
      clear hx hgx
      have hyes : txC x = true → (s.take (k + 1)).all txC = true := fun e => by rw [hts, List.all_append, hall]; simp [e]
      have hno : txC x = false → P = false := fun e => by
        rw [HP.out]; unfold txtB
        have : s.all txC = false := by
          rw [← Bool.not_eq_true]
          intro h
          rw [List.all_eq_true] at h
          have := h x hmem
          rw [e] at this
          exact absurd this (by decide)
        rw [this]
      have HYES := Lib.hid hyes
      have HNO := Lib.hid hno
      have hlx := x.toNat_lt
      clear hts hmem hall hyes hno
      have hv : vb x = .int .u8 (x.toNat : Int) := rfl
      rw [hv] at hik
      have hpx : ∀ r : Bool, decide (x.toNat < 256 ∧ (x.toNat = 9 ∨ (32 ≤ x.toNat ∧ x.toNat ≠ 127))) = r → txC x = r := fun r hr => by rw [← hr]; exact txC_num x
      obtain ⟨X, hX⟩ : ∃ X, X = x.toNat := ⟨_, rfl⟩
      rw [← hX] at hik hlx hpx
      have HPX := Lib.hid hpx; clear hpx hv hX
      rcases (show (0 ≤ X ∧ X ≤ 8) ∨ (9 ≤ X ∧ X ≤ 9) ∨ (10 ≤ X ∧ X ≤ 31) ∨ (32 ≤ X ∧ X ≤ 126) ∨ (127 ≤ X ∧ X ≤ 127) ∨ (128 ≤ X ∧ X ≤ 255) by omega) with ⟨hr1, hr2⟩ | ⟨hr1, hr2⟩ | ⟨hr1, hr2⟩ | ⟨hr1, hr2⟩ | ⟨hr1, hr2⟩ | ⟨hr1, hr2⟩
      · have hpv := HPX.out false (decide_eq_false (by omega))
        have e9 : ((X : Int) == 9) = false := by rw [beq_eq_false_iff_ne]; omega
        have f9 : ((X : Int) != 9) = true := by rw [bne_iff_ne]; omega
        have e127 : ((X : Int) == 127) = false := by rw [beq_eq_false_iff_ne]; omega
        have f127 : ((X : Int) != 127) = true := by rw [bne_iff_ne]; omega
        have g1 : (0 : Int) ≤ (X : Int) := by omega
        have g2 : (X : Int) ≤ 8 := by omega
        clear HPX
        obtain rfl := HNO.out hpv
        clear hpv
        go_wp2_with fail
        go_ret
        exact ⟨rfl, rfl⟩
      · have hpv := HPX.out true (decide_eq_true (by omega))
        obtain rfl : X = 9 := by omega
        have eX : ((9 : Nat) : Int) = 9 := rfl
        rw [eX] at hik
        clear hr1 hr2 eX HPX hlx
        go_wp2_with fail
        go_round
        case rel => exact ⟨k + 1, by omega, by go_num, HYES.out hpv⟩
        case measure => simp [intOf]; omega
      · have hpv := HPX.out false (decide_eq_false (by omega))
        have e9 : ((X : Int) == 9) = false := by rw [beq_eq_false_iff_ne]; omega
        have f9 : ((X : Int) != 9) = true := by rw [bne_iff_ne]; omega
        have e127 : ((X : Int) == 127) = false := by rw [beq_eq_false_iff_ne]; omega
        have f127 : ((X : Int) != 127) = true := by rw [bne_iff_ne]; omega
        have g1 : (10 : Int) ≤ (X : Int) := by omega
        have g2 : (X : Int) ≤ 31 := by omega
        clear HPX
        obtain rfl := HNO.out hpv
        clear hpv
        go_wp2_with fail
        go_ret
        exact ⟨rfl, rfl⟩
      · have hpv := HPX.out true (decide_eq_true (by omega))
        have e9 : ((X : Int) == 9) = false := by rw [beq_eq_false_iff_ne]; omega
        have f9 : ((X : Int) != 9) = true := by rw [bne_iff_ne]; omega
        have e127 : ((X : Int) == 127) = false := by rw [beq_eq_false_iff_ne]; omega
        have f127 : ((X : Int) != 127) = true := by rw [bne_iff_ne]; omega
        have g1 : (32 : Int) ≤ (X : Int) := by omega
        have g2 : (X : Int) ≤ 126 := by omega
        clear HPX
        go_wp2_with fail
        go_round
        case rel => exact ⟨k + 1, by omega, by go_num, HYES.out hpv⟩
        case measure => simp [intOf]; omega
      · have hpv := HPX.out false (decide_eq_false (by omega))
        obtain rfl : X = 127 := by omega
        have eX : ((127 : Nat) : Int) = 127 := rfl
        rw [eX] at hik
        clear hr1 hr2 eX HPX hlx
        obtain rfl := HNO.out hpv
        clear hpv
        go_wp2_with fail
        go_ret
        exact ⟨rfl, rfl⟩
      · have hpv := HPX.out true (decide_eq_true (by omega))
        have e9 : ((X : Int) == 9) = false := by rw [beq_eq_false_iff_ne]; omega
        have f9 : ((X : Int) != 9) = true := by rw [bne_iff_ne]; omega
        have e127 : ((X : Int) == 127) = false := by rw [beq_eq_false_iff_ne]; omega
        have f127 : ((X : Int) != 127) = true := by rw [bne_iff_ne]; omega
        have g1 : (128 : Int) ≤ (X : Int) := by omega
        have g2 : (X : Int) ≤ 255 := by omega
        clear HPX
        go_wp2_with fail
        go_round
        case rel => exact ⟨k + 1, by omega, by go_num, HYES.out hpv⟩
        case measure => simp [intOf]; omega
    · have hall2 : s.all txC = true := by rw [← hall, List.take_of_length_le (by omega)]
      obtain rfl : P = true := by rw [HP.out]; exact hall2
      clear hall hall2 HP
      go_wp2_with fail
      go_ret
      exact ⟨rfl, rfl⟩
set_option maxRecDepth 100000 in
theorem isTarget_any (s : List UInt8) (w : World) (hs : s.length ≤ 100000) : Calls Tryz.prog 45 #[str s] w fun e w' => e = .returned (.bool (tgtB s)) ∧ Below w.heap.size w w' := by
  have hp : tgtB s = (!s.isEmpty && txtB s && !Lib.containsAny s [32, 9]) := rfl
  have HC := Lib.hid (has_any s w hs)
  have HX := Lib.hid (isText_any s w hs)
  obtain ⟨T, hT⟩ : ∃ T, T = txtB s := ⟨_, rfl⟩
  obtain ⟨U, hU⟩ : ∃ U, U = Lib.containsAny s [32, 9] := ⟨_, rfl⟩
  obtain ⟨P, hP⟩ : ∃ P, P = tgtB s := ⟨_, rfl⟩
  rw [← hT] at hp HX
  rw [← hU] at hp HC
  rw [← hP] at hp ⊢
  clear hP hT hU
  by_cases h0 : s = []
  · subst h0
    obtain rfl : P = false := by rw [hp]; rfl
    clear hp HC HX
    go_enter Tryz.func45, Tryz.ntmps45
    go_wp2_with fail
    go_ret
    exact ⟨rfl, Below.refl _ _⟩
  · have hne := ne_isEmpty h0
    rw [hne] at hp
    clear h0
    cases T with
    | false =>
      obtain rfl : P = false := by rw [hp]; rfl
      clear hp HC
      go_enter Tryz.func45, Tryz.ntmps45
      go_wp2_with fail
      refine HX.out.mono ?_
      rintro e w1 ⟨rfl, rfl⟩
      clear HX
      go_wp2_with fail
      go_ret
      exact ⟨rfl, Below.refl _ _⟩
    | true =>
      cases U
      all_goals
        obtain rfl := hp
        go_enter Tryz.func45, Tryz.ntmps45
        go_wp2_with fail
        refine HX.out.mono ?_
        rintro e w1 ⟨rfl, rfl⟩
        clear HX
        go_wp2_with fail
        refine HC.out.mono ?_
        rintro e w1 ⟨rfl, hB⟩
        have HB := Lib.hid hB; clear hB HC
        go_wp2_with fail
        go_ret
        exact ⟨rfl, HB.out⟩
end Go.Proofs.YtajclihnoedecaaGreatDoor
