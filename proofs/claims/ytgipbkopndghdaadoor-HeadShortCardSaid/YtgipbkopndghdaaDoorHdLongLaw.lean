/- HeadLong's walk. -/
import Derived.Test.YtgipbkopndghdaaDoorHdLong
import Derived.Test.YtgipbkopndghdaaDoorStrI
namespace Go.Proofs.YtgipbkopndghdaaDoor
open Go.RowKit Go.Shelf
theorem u8_rngH {n : Int} (h : (Lit.int .u8 n).wf = true) : 0 ≤ n ∧ n ≤ 255 := by
  simp [Lit.wf, IntKind.min, IntKind.max, IntKind.bits, IntKind.signed] at h
  omega
theorem ys_succ (j : Nat) : preH ++ ys j ++ [121] = preH ++ ys (j + 1) := by
  rw [List.append_assoc]
  unfold ys
  rw [List.replicate_succ']
def lenM : Value → Nat
  | .string b => b.size
  | _ => 0
set_option maxRecDepth 100000 in
set_option maxHeartbeats 1000000 in
theorem long_law (n : Int) (w : World) (hn : (Lit.int .u8 n).wf = true) (hE : Env w) : Calls Tryd.prog 7 #[.int .u8 n] w fun e w' => e = .returned (.bool true) ∧ Below w.heap.size w w' := by
  obtain ⟨n0, n1⟩ := u8_rngH hn
  have HA := Lib.hid (awake9 w hE)
  have HE := Lib.hid hE
  obtain ⟨q, hq⟩ : ∃ q, n % 7 = q := ⟨_, rfl⟩
  have q0 : 0 ≤ q := by omega
  have q1 : q ≤ 6 := by omega
  obtain ⟨m, hm⟩ : ∃ m : Nat, (m : Int) = 4070 + q := ⟨(4070 + q).toNat, by omega⟩
  have HM := Lib.hid hm
  have hm1 : 1 ≤ m := by omega
  have hm2 : m + 19 ≤ 4096 := by omega
  have hml : m ≤ 4076 := by omega
  clear hn hE hm
  go_enter Tryd.func7, Tryd.ntmps7
  go_wp2_with fail
  refine HA.out.mono ?_
  rintro e w1 ⟨rfl, hB⟩
  have HB := Lib.hid hB; have HE1 := Lib.hid (HE.out.below hB); clear hB HA
  go_wp2_with fail
  clear hq
  go_loop [4] (fun v => ∃ j : Nat, j ≤ m ∧ v = str (preH ++ ys j)) (fun v => 5000 - lenM v)
  case atStart => exact ⟨0, by omega, rfl⟩
  case round =>
    obtain ⟨j, hj, rfl⟩ := hrel
    obtain ⟨t, ht⟩ : ∃ t, t = preH ++ ys j := ⟨_, rfl⟩
    have hl : t.length = j + 19 := by rw [ht]; exact long_body j
    rw [← ht]
    have HT := Lib.hid ht
    have HM2 := HM.out
    have hl2 : (t.length : Int) ≤ 5000 := by omega
    by_cases hlt : j < m
    · have hg : (t.length : Int) + 4 < 4093 + q := by omega
      have HL := Lib.hid hl
      clear ht hl HM2
      go_wp2_with fail
      go_round
      case rel => exact ⟨j + 1, by omega, by rw [← ys_succ, ← HT.out]; exact congrArg Value.string (str_app t [121])⟩
      case measure =>
        show 5000 - (ByteArray.mk t.toArray ++ ByteArray.mk #[121]).size < 5000 - t.length
        rw [ByteArray.size_append]
        show 5000 - (t.length + 1) < _
        have := HL.out
        omega
    · obtain rfl : j = m := by omega
      have hg : ¬ (t.length : Int) + 4 < 4093 + q := by omega
      have hab : (ByteArray.mk t.toArray) ++ (ByteArray.mk #[13, 10, 13, 10]) = ByteArray.mk (longH j).toArray := by
        rw [HT.out]; exact str_app (preH ++ ys j) crcr
      obtain ⟨c, W1, hcv, hB1, hbs, hz1, hc1, hc2⟩ := conv_newc (longH j) w1 (by rw [longH_len]; omega)
      have hll := longH_len j
      have HRQ := Lib.hid (request_any w1.heap.size 0 c (longH j) W1 (HE1.out.below hB1) hbs hz1 hc1 hc2 (by omega) (long_ascii j))
      have HB1 := Lib.hid (HB.out.trans (hB1.mono HB.out.size))
      obtain ⟨P, hP⟩ : ∃ P, P = longH j := ⟨_, rfl⟩
      rw [← hP] at hab hcv HRQ
      have HL := Lib.hid hl
      have HP := Lib.hid hP
      have hcast : ((j + 23 : Nat) : Int) = 4093 + q := by omega
      have HCA := Lib.hid hcast
      clear ht hl hbs hB1 hll hc1 hc2 hP hcast HM2
      go_wp2_with fail
      clear hab hcv
      refine HRQ.out.mono ?_
      rintro e w3 ⟨v, fs, nn, x, rfl, hp, hO, hB⟩
      obtain ⟨VA, VC, rfl⟩ := hO.form
      have HB3 := Lib.hid ((HB1.out.trans (hB.mono HB1.out.size)).alloc (by have := HB1.out.size; have := hB.size; omega) (.cells #[str (if x = 0 then (reqT (line0 P)).1 else []), str (if x = 0 then (reqT (line0 P)).2.1 else []), .slice VA fs.length VC] 63))
      obtain ⟨M1, hM1⟩ : ∃ M1, M1 = (if x = 0 then (reqT (line0 P)).1 else []) := ⟨_, rfl⟩
      obtain ⟨M2, hM2⟩ : ∃ M2, M2 = (if x = 0 then (reqT (line0 P)).2.1 else []) := ⟨_, rfl⟩
      rw [← hM1, ← hM2] at HB3 ⊢
      clear hM1 hM2 hO hB HRQ
      by_cases hsz : j + 23 ≤ 4096
      · rw [HP.out, long_ok hsz hm1, HCA.out] at hp
        cases hp
        have g1 : ¬ (4096 : Int) < 4093 + q := by have := HM.out; omega
        have g2 : 4093 + q ≤ (4096 : Int) := by omega
        clear hsz hg hlt
        go_wp2_with fail
        go_ret
        exact ⟨rfl, HB3.out⟩
      · rw [HP.out, long_bad (by omega) hm2] at hp
        cases hp
        have g1 : (4096 : Int) < 4093 + q := by have := HM.out; omega
        clear hsz hg hlt
        go_wp2_with fail
        go_ret
        exact ⟨rfl, HB3.out⟩
end Go.Proofs.YtgipbkopndghdaaDoor
