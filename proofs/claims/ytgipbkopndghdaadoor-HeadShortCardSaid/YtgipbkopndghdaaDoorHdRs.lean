/- The reference's Split. -/
import Derived.Test.YtgipbkopndghdaaDoorHdAwk
import Derived.Lib.ConvBytes
import Derived.Lib.IndexBytes
namespace Go.Proofs.YtgipbkopndghdaaDoor
open Go.RowKit Go.Shelf
theorem conv_new (s : List UInt8) (w : World) : ∃ c W, (convert 9 27 (str s)).run Tryd.prog w = .ok (.slice (some ⟨w.heap.size, 0, none⟩) s.length c) W ∧ Below w.heap.size w W ∧ Bs W w.heap.size 0 s ∧ w.heap.size < W.heap.size := by
  refine ⟨_, _, Lib.run_convert_string_bytes w 9 27 5 ⟨s.toArray⟩ Tryd.underlying9 Tryd.underlying27 Tryd.underlying5, Lib.bytesWorld_below w _ _, fun j h => ?_, by rw [Lib.bytesWorld_size]; omega⟩
  rw [Nat.zero_add, Lib.bytesWorld_cell w _ _ j (by simpa [ByteArray.size] using h)]
  simp [vb, bn, List.getD_eq_getElem?_getD, List.getElem?_eq_getElem h]
theorem ib_hit : ∀ (l : List UInt8) (c : UInt8) (k : Nat), (∀ j, j < k → l[j]? ≠ some c) → l[k]? = some c → Lib.indexByte l c = k
  | [], _, _, _, h => by simp at h
  | b :: l, c, 0, _, h => by
    have : b = c := by simpa using h
    subst this; simp [Lib.indexByte]
  | b :: l, c, k + 1, hn, h => by
    have h0 : b ≠ c := fun e => hn 0 (by omega) (by simp [e])
    have ih := ib_hit l c k (fun j hj => by have := hn (j + 1) (by omega); simpa using this) (by simpa using h)
    unfold Lib.indexByte
    rw [ih]
    have : ((k : Int) == -1) = false := by rw [beq_eq_false_iff_ne]; omega
    simp [h0, this]
theorem ib_none : ∀ (l : List UInt8) (c : UInt8), (∀ j : Nat, l[j]? ≠ some c) → Lib.indexByte l c = -1
  | [], _, _ => rfl
  | b :: l, c, hn => by
    have h0 : b ≠ c := fun e => hn 0 (by simp [e])
    have ih := ib_none l c (fun j => by have := hn (j + 1); simpa using this)
    unfold Lib.indexByte
    rw [ih]
    simp [h0]
set_option maxRecDepth 100000 in
set_option maxHeartbeats 1000000 in
theorem at_any (s : List UInt8) (c : UInt8) (w : World) (hs : s.length ≤ 100000) : Calls Tryd.prog 43 #[str s, vb c] w fun e w' => e = .returned (.int .i64 (Lib.indexByte s c)) ∧ w = w' := by
  go_enter Tryd.func43, Tryd.ntmps43
  go_wp2_with fail
  go_loop [5] (fun i => ∃ k : Nat, k ≤ s.length ∧ i = .int .i64 (k : Int) ∧ ∀ j, j < k → s[j]? ≠ some c) (fun i => s.length - (intOf i).toNat)
  case atStart => exact ⟨0, by omega, rfl, fun j h => by omega⟩
  case round =>
    obtain ⟨k, hk, rfl, hn⟩ := hrel
    by_cases hlt : k < s.length
    · have hik : (Instr.index 9 (str s) (.int .i64 (k : Int))).run Tryd.prog w = .ok (vb (s.getD k 0)) w := str_index s k hlt w
      have hgx : s[k]? = some (s.getD k 0) := by rw [List.getD_eq_getElem?_getD, List.getElem?_eq_getElem hlt]; rfl
      obtain ⟨x, hx⟩ : ∃ x, x = s.getD k 0 := ⟨_, rfl⟩
      rw [← hx] at hik hgx
      clear hx
      by_cases hc : x = c
      · subst hc
        have HR := Lib.hid (ib_hit s x k hn hgx)
        clear hn hgx
        go_wp2_with fail
        go_ret
        exact ⟨by rw [HR.out]; rfl, rfl⟩
      · have hbe : (bn x == bn c) = false := by rw [beq_eq_false_iff_ne]; exact fun e => hc (bn_inj e)
        have hn2 : ∀ j, j < k + 1 → s[j]? ≠ some c := fun j hj => by
          by_cases e : j = k
          · subst e; rw [hgx]; intro h; exact hc (by simpa using h)
          · exact hn j (by omega)
        have HN := Lib.hid hn2
        clear hn hgx hn2 hc
        go_wp2_with fail
        go_round
        case rel => exact ⟨k + 1, by omega, by go_num, HN.out⟩
        case measure => simp [intOf]; omega
    · have HR := Lib.hid (ib_none s c (fun j => by
        by_cases hj : j < k
        · exact hn j hj
        · rw [List.getElem?_eq_none (by omega)]; simp))
      clear hn
      go_wp2_with fail
      go_ret
      exact ⟨by rw [HR.out]; rfl, rfl⟩
def hostC (c : UInt8) : Bool := hostS.contains c
theorem hostC_all : ∀ n : Fin 256, hostC (UInt8.ofNat n.val) = decide (n.val < 256 ∧ ((45 ≤ n.val ∧ n.val ≤ 46) ∨ (48 ≤ n.val ∧ n.val ≤ 57) ∨ (65 ≤ n.val ∧ n.val ≤ 90) ∨ n.val = 95 ∨ (97 ≤ n.val ∧ n.val ≤ 122))) := by decide +kernel
theorem hostC_num (x : UInt8) : hostC x = decide (x.toNat < 256 ∧ ((45 ≤ x.toNat ∧ x.toNat ≤ 46) ∨ (48 ≤ x.toNat ∧ x.toNat ≤ 57) ∨ (65 ≤ x.toNat ∧ x.toNat ≤ 90) ∨ x.toNat = 95 ∨ (97 ≤ x.toNat ∧ x.toNat ≤ 122))) := by
  have := hostC_all ⟨x.toNat, x.toNat_lt⟩
  simpa using this
theorem isD_num (x : UInt8) : isD x = decide (x.toNat < 256 ∧ (48 ≤ x.toNat ∧ x.toNat ≤ 57)) := by
  have := x.toNat_lt
  unfold isD
  rw [Bool.eq_iff_iff]
  simp only [Bool.and_eq_true, decide_eq_true_eq]
  omega
theorem splitL_none {s : List UInt8} (h : Lib.indexByte s 58 < 1 ∨ 32 < Lib.indexByte s 58) : splitL s = ([], 0, false) := by
  have hc : Lib.cut s [58] = if 0 ≤ Lib.indexByte s 58 then (s.take (Lib.indexByte s 58).toNat, s.drop ((Lib.indexByte s 58).toNat + 1), true) else (s, [], false) := by
    unfold Lib.cut; rw [Lib.index_one]; rfl
  have hge := Lib.indexByte_ge s 58
  unfold splitL
  by_cases h0 : 0 ≤ Lib.indexByte s 58
  · rw [if_pos h0] at hc
    rw [hc]
    have hl := Lib.index_le s [58]
    rw [Lib.index_one] at hl
    refine if_neg ?_
    rintro ⟨_, h1, h2, _⟩
    simp only [List.length_take] at h2
    have h3 : (s.take (Lib.indexByte s 58).toNat).length ≠ 0 := fun e => h1 (List.eq_nil_of_length_eq_zero e)
    rw [List.length_take] at h3
    omega
  · rw [if_neg h0] at hc
    rw [hc]
    refine if_neg ?_
    rintro ⟨h1, _⟩
    have h2 : (decP [] 1 65535).2 = true := h1
    exact absurd h2 (by decide +kernel)
theorem splitL_at {s : List UInt8} {i : Nat} (h : Lib.indexByte s 58 = i) (h1 : 1 ≤ i) (h2 : i ≤ 32) (hi : i < s.length) :
    splitL s = if (portP (s.drop (i + 1)) 4 65535).2 = true ∧ (s.take i).all hostC = true then (s.take i, (portP (s.drop (i + 1)) 4 65535).1, true) else ([], 0, false) := by
  have hc : Lib.cut s [58] = (s.take i, s.drop (i + 1), true) := by
    unfold Lib.cut; rw [Lib.index_one, h, if_pos (by omega)]; rfl
  have hl : (s.take i).length = i := by rw [List.length_take]; omega
  unfold splitL
  have hdp : decP (s.drop (i + 1)) 1 65535 = portP (s.drop (i + 1)) 4 65535 := decP_port _ 4 65535 (by decide) (by decide)
  rw [hc]
  show (if (decP (s.drop (i + 1)) 1 65535).2 = true ∧ s.take i ≠ [] ∧ (s.take i).length ≤ 32 ∧ (s.take i).all (hostS.contains ·) = true then (s.take i, (decP (s.drop (i + 1)) 1 65535).1, true) else ([], 0, false)) = _
  rw [hdp]
  show (if (portP (s.drop (i + 1)) 4 65535).2 = true ∧ s.take i ≠ [] ∧ (s.take i).length ≤ 32 ∧ (s.take i).all (hostS.contains ·) = true then _ else _) = _
  by_cases hh : (portP (s.drop (i + 1)) 4 65535).2 = true ∧ (s.take i).all hostC = true
  · rw [if_pos hh, if_pos ⟨hh.1, (fun e => by rw [e] at hl; simp at hl; omega), by omega, hh.2⟩]
  · rw [if_neg hh, if_neg (fun x => hh ⟨x.1, x.2.2.2⟩)]
theorem valD_from : ∀ (l : List UInt8) (acc : Nat), l.all isD = true → l.foldl (fun n c => 10 * n + (c.toNat - 48)) acc + 1 ≤ (acc + 1) * 10 ^ l.length
  | [], acc, _ => by simp
  | b :: r, acc, h => by
    rw [List.all_cons, Bool.and_eq_true] at h
    have hc := h.1
    unfold isD at hc
    simp only [Bool.and_eq_true, decide_eq_true_eq] at hc
    have h1 := valD_from r (10 * acc + (b.toNat - 48)) h.2
    have h2 : (10 * acc + (b.toNat - 48) + 1) * 10 ^ r.length ≤ ((acc + 1) * 10) * 10 ^ r.length := Nat.mul_le_mul_right _ (by omega)
    rw [List.foldl_cons, List.length_cons, Nat.pow_succ, Nat.mul_comm (10 ^ r.length) 10, ← Nat.mul_assoc]
    exact Nat.le_trans h1 h2
theorem valD_lt (l : List UInt8) (h : l.all isD = true) : valD l < 10 ^ l.length := by
  have := valD_from l 0 h
  unfold valD
  omega
theorem pow_le5 {k : Nat} (h : k ≤ 5) : 10 ^ k ≤ 100000 := Nat.pow_le_pow_right (by decide) h
set_option maxRecDepth 100000 in
set_option maxHeartbeats 4000000 in
theorem refSplit_any (s : List UInt8) (w : World) (hs : s.length ≤ 1000) :
    Calls Tryd.prog 27 #[str s] w fun e w' => e = .returned (.tuple #[str (splitL s).1, .int .i64 (splitL s).2.1, .bool (splitL s).2.2]) ∧ Below w.heap.size w w' := by
  have HAT := Lib.hid (at_any s 58 w (by omega))
  have hge := Lib.indexByte_ge s 58
  have hle := Lib.index_le s [58]
  rw [Lib.index_one] at hle
  by_cases hbad : Lib.indexByte s 58 < 1 ∨ 32 < Lib.indexByte s 58
  · have HNO := Lib.hid (show Ending.returned (.tuple #[str [], .int .i64 0, .bool false]) = Ending.returned (.tuple #[str (splitL s).1, .int .i64 (splitL s).2.1, .bool (splitL s).2.2]) by rw [splitL_none hbad])
    obtain ⟨i, hi⟩ : ∃ i, i = Lib.indexByte s 58 := ⟨_, rfl⟩
    rw [← hi] at HAT hbad hge hle
    clear hi
    by_cases h1 : i < 1
    · clear hbad
      go_enter Tryd.func27, Tryd.ntmps27
      go_wp2_with fail
      refine HAT.out.mono ?_
      rintro e w1 ⟨rfl, rfl⟩
      clear HAT
      go_wp2_with fail
      go_ret3
      exact ⟨HNO.out, Below.refl _ _⟩
    · have h2 : 32 < i := by omega
      clear hbad
      go_enter Tryd.func27, Tryd.ntmps27
      go_wp2_with fail
      refine HAT.out.mono ?_
      rintro e w1 ⟨rfl, rfl⟩
      clear HAT
      go_wp2_with fail
      go_ret3
      exact ⟨HNO.out, Below.refl _ _⟩
  · obtain ⟨i, hi⟩ : ∃ i : Nat, Lib.indexByte s 58 = i := ⟨(Lib.indexByte s 58).toNat, by omega⟩
    have hi1 : 1 ≤ i := by omega
    have hi2 : i ≤ 32 := by omega
    have hil : i < s.length := by
      have := Lib.index_room s [58] (by rw [Lib.index_one]; omega)
      rw [Lib.index_one, hi] at this
      simp at this; omega
    have hsp := splitL_at hi hi1 hi2 hil
    rw [hi] at HAT
    obtain ⟨c1, W1, hcv, hB1, hbs1, hz1⟩ := conv_new (s.take i) w
    have hl1 : (s.take i).length = i := by rw [List.length_take]; omega
    obtain ⟨A, hA⟩ : ∃ A, A = s.take i := ⟨_, rfl⟩
    obtain ⟨B, hBd⟩ : ∃ B, B = s.drop (i + 1) := ⟨_, rfl⟩
    have hst := str_take s i (by omega) w
    have hst2 := fun W => str_take s i (by omega) W
    have hsd := fun W => str_drop s (i + 1) (by omega) W
    have hic : ((i + 1 : Nat) : Int) = (i : Int) + 1 := by omega
    rw [hic] at hsd
    rw [← hA] at hcv hbs1 hl1 hsp hst hst2
    rw [← hBd] at hsp hsd
    rw [hl1] at hcv
    have hBl : B.length ≤ 1000 := by rw [hBd, List.length_drop]; omega
    obtain ⟨R, hR⟩ : ∃ R, R = splitL s := ⟨_, rfl⟩
    rw [← hR] at hsp ⊢
    have HSP := Lib.hid hsp
    have HBS := Lib.hid hbs1
    have HB := Lib.hid hB1
    have HL1 := Lib.hid hl1
    have hii : (1 : Int) ≤ (i : Int) := by omega
    have hii2 : ¬ (32 : Int) < (i : Int) := by omega
    have hii3 : (i : Int) ≤ (s.length : Int) := by omega
    have HSD := Lib.hid hsd
    have HST2 := Lib.hid hst2
    clear hsd hst2 hA hBd hR hsp hbs1 hB1 hl1 hi hbad hge hle hic
    go_enter Tryd.func27, Tryd.ntmps27
    go_wp2_with fail
    refine HAT.out.mono ?_
    rintro e w1 ⟨rfl, rfl⟩
    clear HAT
    go_wp2_with fail
    clear hcv hst
    go_loop [25] (fun v => ∃ k : Nat, k ≤ i ∧ v = .int .i64 (k : Int) ∧ (A.take k).all hostC = true) (fun v => i - (intOf v).toNat)
    case atStart => exact ⟨0, by omega, rfl, rfl⟩
    case round =>
      obtain ⟨k, hk, rfl, hall⟩ := hrel
      by_cases hlt : k < i
      · have hltA : k < A.length := by rw [HL1.out]; exact hlt
        have ck : W1.cell? ⟨w.heap.size, k, none⟩ = some (vb A[k]) := by have := HBS.out k hltA; rwa [Nat.zero_add] at this
        have hts := take_snocH A k hltA
        have hmem : A[k] ∈ A := List.getElem_mem hltA
        obtain ⟨x, hx⟩ : ∃ x, x = A[k] := ⟨_, rfl⟩
        rw [← hx] at ck hts hmem
        clear hx
        have HYES := Lib.hid (fun (e : hostC x = true) => show (A.take (k + 1)).all hostC = true by rw [hts, List.all_append, hall]; simp [e])
        have HNO := Lib.hid (fun (e : hostC x = false) => show Ending.returned (.tuple #[str [], .int .i64 0, .bool false]) = Ending.returned (.tuple #[str R.1, .int .i64 R.2.1, .bool R.2.2]) by
          rw [HSP.out, if_neg]
          rintro ⟨_, h⟩
          have := List.all_eq_true.1 h x hmem
          rw [e] at this; exact absurd this (by decide))
        have hlx := x.toNat_lt
        clear hts hmem hall
        have hv : vb x = .int .u8 (x.toNat : Int) := rfl
        rw [hv] at ck
        have HPX := Lib.hid (fun (r : Bool) (hr : decide (x.toNat < 256 ∧ ((45 ≤ x.toNat ∧ x.toNat ≤ 46) ∨ (48 ≤ x.toNat ∧ x.toNat ≤ 57) ∨ (65 ≤ x.toNat ∧ x.toNat ≤ 90) ∨ x.toNat = 95 ∨ (97 ≤ x.toNat ∧ x.toNat ≤ 122))) = r) => show hostC x = r by rw [← hr]; exact hostC_num x)
        obtain ⟨X, hX⟩ : ∃ X, X = x.toNat := ⟨_, rfl⟩
        rw [← hX] at ck hlx HPX
        clear hv hX
        rcases (show (0 ≤ X ∧ X ≤ 44) ∨ (45 ≤ X ∧ X ≤ 45) ∨ (46 ≤ X ∧ X ≤ 46) ∨ (47 ≤ X ∧ X ≤ 47) ∨ (48 ≤ X ∧ X ≤ 57) ∨ (58 ≤ X ∧ X ≤ 64) ∨ (65 ≤ X ∧ X ≤ 90) ∨ (91 ≤ X ∧ X ≤ 94) ∨ (95 ≤ X ∧ X ≤ 95) ∨ (96 ≤ X ∧ X ≤ 96) ∨ (97 ≤ X ∧ X ≤ 122) ∨ (123 ≤ X ∧ X ≤ 255) by omega) with ⟨hr1, hr2⟩ | ⟨hr1, hr2⟩ | ⟨hr1, hr2⟩ | ⟨hr1, hr2⟩ | ⟨hr1, hr2⟩ | ⟨hr1, hr2⟩ | ⟨hr1, hr2⟩ | ⟨hr1, hr2⟩ | ⟨hr1, hr2⟩ | ⟨hr1, hr2⟩ | ⟨hr1, hr2⟩ | ⟨hr1, hr2⟩
        · have hpv := HPX.out false (decide_eq_false (by omega))
          have e45 : ((X : Int) == 45) = false := by rw [beq_eq_false_iff_ne]; omega
          have e46 : ((X : Int) == 46) = false := by rw [beq_eq_false_iff_ne]; omega
          have e95 : ((X : Int) == 95) = false := by rw [beq_eq_false_iff_ne]; omega
          have g1 : (0 : Int) ≤ (X : Int) := by omega
          have g2 : (X : Int) ≤ 44 := by omega
          have d57 : decide ((X : Int) ≤ 57) = true := decide_eq_true (by omega)
          have d90 : decide ((X : Int) ≤ 90) = true := decide_eq_true (by omega)
          have d122 : decide ((X : Int) ≤ 122) = true := decide_eq_true (by omega)
          clear HPX
          have HN2 := Lib.hid (HNO.out hpv)
          clear hpv
          go_wp2_with fail
          go_ret3
          exact ⟨HN2.out, HB.out⟩
        · have hpv := HPX.out true (decide_eq_true (by omega))
          obtain rfl : X = 45 := by omega
          have eX : ((45 : Nat) : Int) = 45 := rfl
          rw [eX] at ck
          clear hr1 hr2 eX HPX hlx
          go_wp2_with fail
          go_round
          case rel => exact ⟨k + 1, by omega, by go_num, HYES.out hpv⟩
          case measure => simp [intOf]; omega
        · have hpv := HPX.out true (decide_eq_true (by omega))
          obtain rfl : X = 46 := by omega
          have eX : ((46 : Nat) : Int) = 46 := rfl
          rw [eX] at ck
          clear hr1 hr2 eX HPX hlx
          go_wp2_with fail
          go_round
          case rel => exact ⟨k + 1, by omega, by go_num, HYES.out hpv⟩
          case measure => simp [intOf]; omega
        · have hpv := HPX.out false (decide_eq_false (by omega))
          obtain rfl : X = 47 := by omega
          have eX : ((47 : Nat) : Int) = 47 := rfl
          rw [eX] at ck
          clear hr1 hr2 eX HPX hlx
          have HN2 := Lib.hid (HNO.out hpv)
          clear hpv
          go_wp2_with fail
          go_ret3
          exact ⟨HN2.out, HB.out⟩
        · have hpv := HPX.out true (decide_eq_true (by omega))
          have e45 : ((X : Int) == 45) = false := by rw [beq_eq_false_iff_ne]; omega
          have e46 : ((X : Int) == 46) = false := by rw [beq_eq_false_iff_ne]; omega
          have e95 : ((X : Int) == 95) = false := by rw [beq_eq_false_iff_ne]; omega
          have g1 : (48 : Int) ≤ (X : Int) := by omega
          have g2 : (X : Int) ≤ 57 := by omega
          have d57 : decide ((X : Int) ≤ 57) = true := decide_eq_true (by omega)
          have d90 : decide ((X : Int) ≤ 90) = true := decide_eq_true (by omega)
          have d122 : decide ((X : Int) ≤ 122) = true := decide_eq_true (by omega)
          clear HPX
          go_wp2_with fail
          go_round
          case rel => exact ⟨k + 1, by omega, by go_num, HYES.out hpv⟩
          case measure => simp [intOf]; omega
        · have hpv := HPX.out false (decide_eq_false (by omega))
          have e45 : ((X : Int) == 45) = false := by rw [beq_eq_false_iff_ne]; omega
          have e46 : ((X : Int) == 46) = false := by rw [beq_eq_false_iff_ne]; omega
          have e95 : ((X : Int) == 95) = false := by rw [beq_eq_false_iff_ne]; omega
          have g1 : (58 : Int) ≤ (X : Int) := by omega
          have g2 : (X : Int) ≤ 64 := by omega
          have d57 : decide ((X : Int) ≤ 57) = false := decide_eq_false (by omega)
          have d90 : decide ((X : Int) ≤ 90) = true := decide_eq_true (by omega)
          have d122 : decide ((X : Int) ≤ 122) = true := decide_eq_true (by omega)
          clear HPX
          have HN2 := Lib.hid (HNO.out hpv)
          clear hpv
          go_wp2_with fail
          go_ret3
          exact ⟨HN2.out, HB.out⟩
        · have hpv := HPX.out true (decide_eq_true (by omega))
          have e45 : ((X : Int) == 45) = false := by rw [beq_eq_false_iff_ne]; omega
          have e46 : ((X : Int) == 46) = false := by rw [beq_eq_false_iff_ne]; omega
          have e95 : ((X : Int) == 95) = false := by rw [beq_eq_false_iff_ne]; omega
          have g1 : (65 : Int) ≤ (X : Int) := by omega
          have g2 : (X : Int) ≤ 90 := by omega
          have d57 : decide ((X : Int) ≤ 57) = false := decide_eq_false (by omega)
          have d90 : decide ((X : Int) ≤ 90) = true := decide_eq_true (by omega)
          have d122 : decide ((X : Int) ≤ 122) = true := decide_eq_true (by omega)
          clear HPX
          go_wp2_with fail
          go_round
          case rel => exact ⟨k + 1, by omega, by go_num, HYES.out hpv⟩
          case measure => simp [intOf]; omega
        · have hpv := HPX.out false (decide_eq_false (by omega))
          have e45 : ((X : Int) == 45) = false := by rw [beq_eq_false_iff_ne]; omega
          have e46 : ((X : Int) == 46) = false := by rw [beq_eq_false_iff_ne]; omega
          have e95 : ((X : Int) == 95) = false := by rw [beq_eq_false_iff_ne]; omega
          have g1 : (91 : Int) ≤ (X : Int) := by omega
          have g2 : (X : Int) ≤ 94 := by omega
          have d57 : decide ((X : Int) ≤ 57) = false := decide_eq_false (by omega)
          have d90 : decide ((X : Int) ≤ 90) = false := decide_eq_false (by omega)
          have d122 : decide ((X : Int) ≤ 122) = true := decide_eq_true (by omega)
          clear HPX
          have HN2 := Lib.hid (HNO.out hpv)
          clear hpv
          go_wp2_with fail
          go_ret3
          exact ⟨HN2.out, HB.out⟩
        · have hpv := HPX.out true (decide_eq_true (by omega))
          obtain rfl : X = 95 := by omega
          have eX : ((95 : Nat) : Int) = 95 := rfl
          rw [eX] at ck
          clear hr1 hr2 eX HPX hlx
          go_wp2_with fail
          go_round
          case rel => exact ⟨k + 1, by omega, by go_num, HYES.out hpv⟩
          case measure => simp [intOf]; omega
        · have hpv := HPX.out false (decide_eq_false (by omega))
          obtain rfl : X = 96 := by omega
          have eX : ((96 : Nat) : Int) = 96 := rfl
          rw [eX] at ck
          clear hr1 hr2 eX HPX hlx
          have HN2 := Lib.hid (HNO.out hpv)
          clear hpv
          go_wp2_with fail
          go_ret3
          exact ⟨HN2.out, HB.out⟩
        · have hpv := HPX.out true (decide_eq_true (by omega))
          have e45 : ((X : Int) == 45) = false := by rw [beq_eq_false_iff_ne]; omega
          have e46 : ((X : Int) == 46) = false := by rw [beq_eq_false_iff_ne]; omega
          have e95 : ((X : Int) == 95) = false := by rw [beq_eq_false_iff_ne]; omega
          have g1 : (97 : Int) ≤ (X : Int) := by omega
          have g2 : (X : Int) ≤ 122 := by omega
          have d57 : decide ((X : Int) ≤ 57) = false := decide_eq_false (by omega)
          have d90 : decide ((X : Int) ≤ 90) = false := decide_eq_false (by omega)
          have d122 : decide ((X : Int) ≤ 122) = true := decide_eq_true (by omega)
          clear HPX
          go_wp2_with fail
          go_round
          case rel => exact ⟨k + 1, by omega, by go_num, HYES.out hpv⟩
          case measure => simp [intOf]; omega
        · have hpv := HPX.out false (decide_eq_false (by omega))
          have e45 : ((X : Int) == 45) = false := by rw [beq_eq_false_iff_ne]; omega
          have e46 : ((X : Int) == 46) = false := by rw [beq_eq_false_iff_ne]; omega
          have e95 : ((X : Int) == 95) = false := by rw [beq_eq_false_iff_ne]; omega
          have g1 : (123 : Int) ≤ (X : Int) := by omega
          have g2 : (X : Int) ≤ 255 := by omega
          have d57 : decide ((X : Int) ≤ 57) = false := decide_eq_false (by omega)
          have d90 : decide ((X : Int) ≤ 90) = false := decide_eq_false (by omega)
          have d122 : decide ((X : Int) ≤ 122) = false := decide_eq_false (by omega)
          clear HPX
          have HN2 := Lib.hid (HNO.out hpv)
          clear hpv
          go_wp2_with fail
          go_ret3
          exact ⟨HN2.out, HB.out⟩
      · have hall2 : A.all hostC = true := by rw [← hall, List.take_of_length_le (by rw [HL1.out]; omega)]
        have HS2 := Lib.hid (show R = if (portP B 4 65535).2 = true then (A, (portP B 4 65535).1, true) else ([], 0, false) by
          rw [HSP.out]
          by_cases h : (portP B 4 65535).2 = true
          · rw [if_pos h, if_pos ⟨h, hall2⟩]
          · rw [if_neg h, if_neg (fun x => h x.1)])
        clear hall hall2
        have hsd1 := HSD.out W1
        obtain ⟨c2, W2, hcv2, hB2, hbs2, hz2⟩ := conv_new B W1
        have HB2 := Lib.hid (HB.out.trans (hB2.mono HB.out.size))
        have HBS2 := Lib.hid hbs2
        have hst3 := HST2.out W2
        clear hB2 hbs2
        have hno : (portP B 4 65535).2 = false → Ending.returned (.tuple #[str [], .int .i64 0, .bool false]) = Ending.returned (.tuple #[str R.1, .int .i64 R.2.1, .bool R.2.2]) := fun e => by
          rw [HS2.out, e, if_neg (by decide)]
        have hpp : portP B 4 65535 = if 1 ≤ B.length ∧ B.length ≤ 4 + 1 ∧ B.head? ≠ some 48 ∧ B.all isD = true ∧ valD B ≤ 65535 then (((valD B : Nat) : Int), true) else ((0 : Int), false) := rfl
        have HPP := Lib.hid hpp
        have HNO := Lib.hid hno
        clear hpp hno
        by_cases hb0 : B.length < 1
        · have hb0' : (B.length : Int) < 1 := by omega
          have HN2 := Lib.hid (HNO.out (by rw [HPP.out, if_neg (fun h => by omega)]))
          go_wp2_with fail
          go_ret3
          exact ⟨HN2.out, HB.out⟩
        · by_cases hb5 : B.length ≤ 5
          · have hb0' : ¬ (B.length : Int) < 1 := by omega
            have hb5' : ¬ (5 : Int) < (B.length : Int) := by omega
            have hi0 : (Instr.index 9 (str B) (.int .i64 0)).run Tryd.prog W1 = .ok (vb (B.getD 0 0)) W1 := str_index B 0 (by omega) W1
            have hhd : B.head? = some (B.getD 0 0) := by
              cases B with
              | nil => simp at hb0
              | cons => rfl
            obtain ⟨y, hy⟩ : ∃ y, y = B.getD 0 0 := ⟨_, rfl⟩
            rw [← hy] at hi0 hhd
            clear hy
            by_cases h48 : y = 48
            · have HN2 := Lib.hid (HNO.out (by rw [HPP.out, if_neg (fun h => h.2.2.1 (by rw [hhd, h48]))]))
              subst h48
              have hv : vb (48 : UInt8) = .int .u8 48 := rfl
              rw [hv] at hi0
              clear hhd hv
              go_wp2_with fail
              go_ret3
              exact ⟨HN2.out, HB.out⟩
            · have hbe : (bn y == 48) = false := by rw [beq_eq_false_iff_ne]; exact fun e => h48 (bn_inj (y := 48) e)
              have HH := Lib.hid (show B.head? ≠ some 48 by rw [hhd]; intro h; exact h48 (by simpa using h))
              clear hhd h48
              go_wp2_with fail
              clear hi0 hsd1 hcv2 hbe
              go_loop [8, 85] (fun n v => ∃ k : Nat, k ≤ B.length ∧ v = .int .i64 (k : Int) ∧ n = .int .i64 (valD (B.take k) : Int) ∧ (B.take k).all isD = true) (fun _ v => B.length - (intOf v).toNat)
              case atStart => exact ⟨0, by omega, rfl, rfl, rfl⟩
              case round =>
                obtain ⟨k, hk, rfl, rfl, hall⟩ := hrel
                have hvl : valD (B.take k) < 100000 := by
                  have h1 := valD_lt _ hall
                  have h2 : (B.take k).length ≤ 5 := by rw [List.length_take]; omega
                  have := pow_le5 h2
                  omega
                by_cases hlt : k < B.length
                · have ck : W2.cell? ⟨W1.heap.size, k, none⟩ = some (vb B[k]) := by have := HBS2.out k hlt; rwa [Nat.zero_add] at this
                  have hts := take_snocH B k hlt
                  have hmem : B[k] ∈ B := List.getElem_mem hlt
                  obtain ⟨x, hx⟩ : ∃ x, x = B[k] := ⟨_, rfl⟩
                  rw [← hx] at ck hts hmem
                  clear hx
                  obtain ⟨V, hV⟩ : ∃ V, V = valD (B.take k) := ⟨_, rfl⟩
                  have HYES := Lib.hid (fun (e : isD x = true) => show (B.take (k + 1)).all isD = true by rw [hts, List.all_append, hall]; simp [e])
                  obtain ⟨VI, hVI⟩ : ∃ VI : Int, VI = (V : Int) := ⟨_, rfl⟩
                  have HVAL := Lib.hid (fun (h : 48 ≤ x.toNat) => show ((valD (B.take (k + 1)) : Nat) : Int) = 10 * VI + ((x.toNat : Int) - 48) by rw [hts, valD_snoc, ← hV, hVI]; omega)
                  have HN2 := Lib.hid (fun (e : isD x = false) => HNO.out (by
                    rw [HPP.out, if_neg]
                    rintro ⟨_, _, _, h, _⟩
                    have := List.all_eq_true.1 h x hmem
                    rw [e] at this; exact absurd this (by decide)))
                  rw [← hV] at hvl ⊢
                  rw [← hVI]
                  have v0 : (0 : Int) ≤ VI := by omega
                  have v1 : VI < 100000 := by omega
                  clear hvl hVI
                  have hlx := x.toNat_lt
                  clear hts hmem hall hV
                  have hv : vb x = .int .u8 (x.toNat : Int) := rfl
                  rw [hv] at ck
                  have HPX := Lib.hid (fun (r : Bool) (hr : decide (x.toNat < 256 ∧ (48 ≤ x.toNat ∧ x.toNat ≤ 57)) = r) => show isD x = r by rw [← hr]; exact isD_num x)
                  obtain ⟨X, hX⟩ : ∃ X, X = x.toNat := ⟨_, rfl⟩
                  rw [← hX] at ck hlx HPX HVAL
                  clear hv hX
                  rcases (show (0 ≤ X ∧ X ≤ 47) ∨ (48 ≤ X ∧ X ≤ 57) ∨ (58 ≤ X ∧ X ≤ 255) by omega) with ⟨hr1, hr2⟩ | ⟨hr1, hr2⟩ | ⟨hr1, hr2⟩
                  · have hpv := HPX.out false (decide_eq_false (by omega))
                    have g1 : (0 : Int) ≤ (X : Int) := by omega
                    have g2 : (X : Int) ≤ 47 := by omega
                    clear HPX
                    have HN3 := Lib.hid (HN2.out hpv)
                    clear hpv
                    go_wp2_with fail
                    go_ret3
                    exact ⟨HN3.out, HB2.out⟩
                  · have hpv := HPX.out true (decide_eq_true (by omega))
                    have g1 : (48 : Int) ≤ (X : Int) := by omega
                    have g2 : (X : Int) ≤ 57 := by omega
                    clear HPX
                    go_wp2_with fail
                    go_round
                    case rel => exact ⟨k + 1, by omega, by go_num, by rw [HVAL.out (by omega)], HYES.out hpv⟩
                    case measure => simp [intOf]; omega
                  · have hpv := HPX.out false (decide_eq_false (by omega))
                    have g1 : (58 : Int) ≤ (X : Int) := by omega
                    have g2 : (X : Int) ≤ 255 := by omega
                    clear HPX
                    have HN3 := Lib.hid (HN2.out hpv)
                    clear hpv
                    go_wp2_with fail
                    go_ret3
                    exact ⟨HN3.out, HB2.out⟩
                · have htk : B.take k = B := List.take_of_length_le (by omega)
                  rw [htk] at hall hvl ⊢
                  obtain ⟨V, hV⟩ : ∃ V, V = valD B := ⟨_, rfl⟩
                  by_cases hm : valD B ≤ 65535
                  · have HF := Lib.hid (show Ending.returned (.tuple #[str A, .int .i64 (V : Int), .bool true]) = Ending.returned (.tuple #[str R.1, .int .i64 R.2.1, .bool R.2.2]) by
                      have hq : portP B 4 65535 = (((valD B : Nat) : Int), true) := by rw [HPP.out]; exact if_pos ⟨by omega, by omega, HH.out, hall, hm⟩
                      rw [HS2.out, hq, if_pos rfl, hV])
                    rw [← hV] at hm hvl ⊢
                    have hm' : ¬ (65535 : Int) < (V : Int) := by omega
                    clear hall htk hV hm
                    go_wp2_with fail
                    go_ret3
                    exact ⟨HF.out, HB2.out⟩
                  · have HF := Lib.hid (HNO.out (by rw [HPP.out, if_neg (fun h => hm h.2.2.2.2)]))
                    rw [← hV] at hm hvl ⊢
                    have hm' : (65535 : Int) < (V : Int) := by omega
                    clear hall htk hV hm
                    go_wp2_with fail
                    go_ret3
                    exact ⟨HF.out, HB2.out⟩
          · have hb0' : ¬ (B.length : Int) < 1 := by omega
            have hb5' : (5 : Int) < (B.length : Int) := by omega
            have HN2 := Lib.hid (HNO.out (by rw [HPP.out, if_neg (fun h => by omega)]))
            go_wp2_with fail
            go_ret3
            exact ⟨HN2.out, HB.out⟩
end Go.Proofs.YtgipbkopndghdaaDoor
