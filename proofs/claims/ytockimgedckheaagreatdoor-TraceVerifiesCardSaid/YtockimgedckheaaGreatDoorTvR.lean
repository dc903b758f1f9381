/- trace: the reference: Plain, Dec, Line. trace: the reference's Trace in memory; its Add. trace: Adds that are refused; the reference's Known and Chain. trace: the reference's Known and Chain. -/
import Derived.Test.YtockimgedckheaaGreatDoorTcLn
import Derived.Test.YtockimgedckheaaGreatDoorRefHexN
import Derived.Test.YtockimgedckheaaGreatDoorStrI
import Derived.Deep.QuietTactic
import Derived.Test.YtockimgedckheaaGreatDoorTvA
import Derived.StillTailTactics
import Derived.Test.YtockimgedckheaaGreatDoorCut
import Derived.Test.YtockimgedckheaaGreatDoorTvRs
import Derived.Lib.AppendStr
import Derived.BigQuiet
set_option maxRecDepth 100000
namespace Go.Proofs.YtockimgedckheaaGreatDoor
open Go.RowKit Go.Shelf
attribute [local go_sem] Oper.semAt_some
theorem take_snocV (s : List UInt8) (k : Nat) (hk : k < s.length) : s.take (k + 1) = s.take k ++ [s[k]] := List.take_succ_eq_append_getElem hk
set_option maxHeartbeats 4000000 in
theorem refPlain_any (s : List UInt8) (w : World) (hs : s.length ≤ 600) : Calls Tryz.prog 37 #[str s] w fun e w' => e = .returned (.bool (plainL s)) ∧ w = w' := by
  have hp : plainL s = (s.all plB && decide (1 ≤ s.length) && decide (s.length ≤ 32)) := rfl
  obtain ⟨P, hP⟩ : ∃ P, P = plainL s := ⟨_, rfl⟩
  rw [← hP] at hp ⊢
  clear hP
  have HP := Lib.hid hp; clear hp
  go_enter Tryz.func37, Tryz.ntmps37
  go_wp2_with fail
  go_loop [3] (fun i => ∃ k : Nat, k ≤ s.length ∧ i = .int .i64 (k : Int) ∧ (s.take k).all plB = true) (fun i => s.length - (intOf i).toNat)
  case atStart => exact ⟨0, by omega, rfl, rfl⟩
  case round =>
    obtain ⟨k, hk, rfl, hall⟩ := hrel
    by_cases hlt : k < s.length
    · have hik : (Instr.index 9 (str s) (.int .i64 (k : Int))).run Tryz.prog w = .ok (vb (s.getD k 0)) w := str_index s k hlt w
      have hts := take_snocV s k hlt
      have hgx : s.getD k 0 = s[k] := by rw [List.getD_eq_getElem?_getD, List.getElem?_eq_getElem hlt]; rfl
      rw [← hgx] at hts
      have hmem : s.getD k 0 ∈ s := by rw [hgx]; exact List.getElem_mem hlt
      obtain ⟨x, hx⟩ : ∃ x, x = s.getD k 0 := ⟨_, rfl⟩
      rw [← hx] at hik hts hmem
      clear hx hgx
      have hyes : plB x = true → (s.take (k + 1)).all plB = true := fun e => by rw [hts, List.all_append, hall]; simp [e]
      have hno : plB x = false → P = false := fun e => by
        rw [HP.out]
        have : s.all plB = false := by
          rw [← Bool.not_eq_true]
          intro h
          rw [List.all_eq_true] at h
          have := h x hmem
          rw [e] at this
          exact absurd this (by decide)
        rw [this]; rfl
      have HYES := Lib.hid hyes
      have HNO := Lib.hid hno
      have hlx := x.toNat_lt
      clear hts hmem hall hyes hno
      have hpx : plB x = ((decide (97 ≤ x.toNat) && decide (x.toNat ≤ 122)) || (decide (48 ≤ x.toNat) && decide (x.toNat ≤ 57)) || x.toNat == 45 || x.toNat == 95) := rfl
      have hv : vb x = .int .u8 (x.toNat : Int) := rfl
      rw [hv] at hik
      obtain ⟨X, hX⟩ : ∃ X, X = x.toNat := ⟨_, rfl⟩
      rw [← hX] at hik hlx hpx
      obtain ⟨pb, hpb⟩ : ∃ pb, pb = plB x := ⟨_, rfl⟩
      rw [← hpb] at hpx HYES HNO
      clear hv hX hpb
      rcases (show (0 ≤ X ∧ X ≤ 44) ∨ (45 ≤ X ∧ X ≤ 45) ∨ (46 ≤ X ∧ X ≤ 47) ∨ (48 ≤ X ∧ X ≤ 57) ∨ (58 ≤ X ∧ X ≤ 94) ∨ (95 ≤ X ∧ X ≤ 95) ∨ (96 ≤ X ∧ X ≤ 96) ∨ (97 ≤ X ∧ X ≤ 122) ∨ (123 ≤ X ∧ X ≤ 255) by omega) with ⟨hr1, hr2⟩ | ⟨hr1, hr2⟩ | ⟨hr1, hr2⟩ | ⟨hr1, hr2⟩ | ⟨hr1, hr2⟩ | ⟨hr1, hr2⟩ | ⟨hr1, hr2⟩ | ⟨hr1, hr2⟩ | ⟨hr1, hr2⟩
      · have hpv : pb = false := by rw [hpx]; simp only [Bool.or_eq_false_iff, Bool.and_eq_false_iff, decide_eq_false_iff_not, beq_eq_false_iff_ne, ne_eq]; omega
        subst hpv
        have e45 : ((X : Int) == 45) = false := by rw [beq_eq_false_iff_ne]; omega
        have e95 : ((X : Int) == 95) = false := by rw [beq_eq_false_iff_ne]; omega
        have g1 : (0 : Int) ≤ (X : Int) := by omega
        have g2 : (X : Int) ≤ 44 := by omega
        clear hpx
        obtain rfl := HNO.out rfl
        go_wp2_with fail
        go_ret
        exact ⟨rfl, rfl⟩
      · have hpv : pb = true := by rw [hpx]; simp only [Bool.or_eq_true, Bool.and_eq_true, decide_eq_true_eq, beq_iff_eq]; omega
        subst hpv
        obtain rfl : X = 45 := by omega
        have eX : ((45 : Nat) : Int) = 45 := rfl
        rw [eX] at hik
        clear hr1 hr2 eX hpx
        go_wp2_with fail
        go_round
        case rel => exact ⟨k + 1, by omega, by go_num, HYES.out rfl⟩
        case measure => simp [intOf]; omega
      · have hpv : pb = false := by rw [hpx]; simp only [Bool.or_eq_false_iff, Bool.and_eq_false_iff, decide_eq_false_iff_not, beq_eq_false_iff_ne, ne_eq]; omega
        subst hpv
        have e45 : ((X : Int) == 45) = false := by rw [beq_eq_false_iff_ne]; omega
        have e95 : ((X : Int) == 95) = false := by rw [beq_eq_false_iff_ne]; omega
        have g1 : (46 : Int) ≤ (X : Int) := by omega
        have g2 : (X : Int) ≤ 47 := by omega
        clear hpx
        obtain rfl := HNO.out rfl
        go_wp2_with fail
        go_ret
        exact ⟨rfl, rfl⟩
      · have hpv : pb = true := by rw [hpx]; simp only [Bool.or_eq_true, Bool.and_eq_true, decide_eq_true_eq, beq_iff_eq]; omega
        subst hpv
        have e45 : ((X : Int) == 45) = false := by rw [beq_eq_false_iff_ne]; omega
        have e95 : ((X : Int) == 95) = false := by rw [beq_eq_false_iff_ne]; omega
        have g1 : (48 : Int) ≤ (X : Int) := by omega
        have g2 : (X : Int) ≤ 57 := by omega
        clear hpx
        go_wp2_with fail
        go_round
        case rel => exact ⟨k + 1, by omega, by go_num, HYES.out rfl⟩
        case measure => simp [intOf]; omega
      · have hpv : pb = false := by rw [hpx]; simp only [Bool.or_eq_false_iff, Bool.and_eq_false_iff, decide_eq_false_iff_not, beq_eq_false_iff_ne, ne_eq]; omega
        subst hpv
        have e45 : ((X : Int) == 45) = false := by rw [beq_eq_false_iff_ne]; omega
        have e95 : ((X : Int) == 95) = false := by rw [beq_eq_false_iff_ne]; omega
        have g1 : (58 : Int) ≤ (X : Int) := by omega
        have g2 : (X : Int) ≤ 94 := by omega
        have d57 : decide ((X : Int) ≤ 57) = false := decide_eq_false (by omega)
        clear hpx
        obtain rfl := HNO.out rfl
        go_wp2_with fail
        go_ret
        exact ⟨rfl, rfl⟩
      · have hpv : pb = true := by rw [hpx]; simp only [Bool.or_eq_true, Bool.and_eq_true, decide_eq_true_eq, beq_iff_eq]; omega
        subst hpv
        obtain rfl : X = 95 := by omega
        have eX : ((95 : Nat) : Int) = 95 := rfl
        rw [eX] at hik
        clear hr1 hr2 eX hpx
        go_wp2_with fail
        go_round
        case rel => exact ⟨k + 1, by omega, by go_num, HYES.out rfl⟩
        case measure => simp [intOf]; omega
      · have hpv : pb = false := by rw [hpx]; simp only [Bool.or_eq_false_iff, Bool.and_eq_false_iff, decide_eq_false_iff_not, beq_eq_false_iff_ne, ne_eq]; omega
        subst hpv
        obtain rfl : X = 96 := by omega
        have eX : ((96 : Nat) : Int) = 96 := rfl
        rw [eX] at hik
        clear hr1 hr2 eX hpx
        obtain rfl := HNO.out rfl
        go_wp2_with fail
        go_ret
        exact ⟨rfl, rfl⟩
      · have hpv : pb = true := by rw [hpx]; simp only [Bool.or_eq_true, Bool.and_eq_true, decide_eq_true_eq, beq_iff_eq]; omega
        subst hpv
        have e45 : ((X : Int) == 45) = false := by rw [beq_eq_false_iff_ne]; omega
        have e95 : ((X : Int) == 95) = false := by rw [beq_eq_false_iff_ne]; omega
        have g1 : (97 : Int) ≤ (X : Int) := by omega
        have g2 : (X : Int) ≤ 122 := by omega
        clear hpx
        go_wp2_with fail
        go_round
        case rel => exact ⟨k + 1, by omega, by go_num, HYES.out rfl⟩
        case measure => simp [intOf]; omega
      · have hpv : pb = false := by rw [hpx]; simp only [Bool.or_eq_false_iff, Bool.and_eq_false_iff, decide_eq_false_iff_not, beq_eq_false_iff_ne, ne_eq]; omega
        subst hpv
        have e45 : ((X : Int) == 45) = false := by rw [beq_eq_false_iff_ne]; omega
        have e95 : ((X : Int) == 95) = false := by rw [beq_eq_false_iff_ne]; omega
        have g1 : (123 : Int) ≤ (X : Int) := by omega
        have g2 : (X : Int) ≤ 255 := by omega
        have d57 : decide ((X : Int) ≤ 57) = false := decide_eq_false (by omega)
        have d122 : decide ((X : Int) ≤ 122) = false := decide_eq_false (by omega)
        clear hpx
        obtain rfl := HNO.out rfl
        go_wp2_with fail
        go_ret
        exact ⟨rfl, rfl⟩
    · obtain rfl : k = s.length := by omega
      rw [List.take_length] at hall
      have hp := HP.out
      rw [hall, Bool.true_and] at hp
      clear HP
      by_cases h1 : 1 ≤ s.length <;> by_cases h32 : s.length ≤ 32
      · obtain rfl : P = true := by rw [hp, decide_eq_true h1, decide_eq_true h32]; rfl
        have h1' : (1 : Int) ≤ (s.length : Int) := by omega
        have h2' : (s.length : Int) ≤ 32 := by omega
        clear hp
        go_wp2_with fail
        go_ret
        first | exact ⟨rfl, rfl⟩ | exact ⟨by simp, rfl⟩
      · obtain rfl : P = false := by rw [hp, decide_eq_false h32, Bool.and_false]
        have h1' : (1 : Int) ≤ (s.length : Int) := by omega
        have h2' : ¬ (s.length : Int) ≤ 32 := by omega
        clear hp
        go_wp2_with fail
        go_ret
        first | exact ⟨rfl, rfl⟩ | exact ⟨by simp, rfl⟩ | exact ⟨by simp; omega, rfl⟩
      · obtain rfl : P = false := by rw [hp, decide_eq_false h1, Bool.false_and]
        have h1' : ¬ (1 : Int) ≤ (s.length : Int) := by omega
        clear hp
        go_wp2_with fail
        go_ret
        first | exact ⟨rfl, rfl⟩ | exact ⟨by simp, rfl⟩ | exact ⟨by simp; omega, rfl⟩
      · exfalso; omega
theorem dec_sign (m : Nat) (h : m < 10) (W : World) : (Instr.slice 9 (str [48, 49, 50, 51, 52, 53, 54, 55, 56, 57]) (some (.int .u64 (m : Int))) (some (.int .u64 ((m : Int) + 1))) none).run Tryz.prog W = .ok (str [UInt8.ofNat (48 + m)]) W := by
  rcases (show m = 0 ∨ m = 1 ∨ m = 2 ∨ m = 3 ∨ m = 4 ∨ m = 5 ∨ m = 6 ∨ m = 7 ∨ m = 8 ∨ m = 9 by omega) with rfl | rfl | rfl | rfl | rfl | rfl | rfl | rfl | rfl | rfl <;> go_simp <;> rfl
set_option maxHeartbeats 2000000 in
theorem refDec_any (n : Nat) (w : World) (hn : n ≤ 9223372036854775807) :
    Calls Tryz.prog 38 #[.int .u64 (n : Int)] w fun e w' => e = .returned (str (Lib.decDigits n)) ∧ Below w.heap.size w w' := by
  obtain ⟨R, hR⟩ : ∃ R, R = Lib.decDigits n := ⟨_, rfl⟩
  rw [← hR]
  have hRl : R.length ≤ 20 := by rw [hR, Lib.decDigits_length]; exact Lib.nDigits_le20 n (by omega)
  have HR := Lib.hid hR; clear hR
  go_enter Tryz.func38, Tryz.ntmps38
  go_wp2_with fail
  go_loop [0, 3] (fun a s => ∃ (k : Nat) (l : List UInt8), k ≤ 9223372036854775807 ∧ a = .int .u64 (k : Int) ∧ s = str l ∧ Lib.decDigits k ++ l = R) (fun a _ => (intOf a).toNat)
  case atStart => exact ⟨n, [], hn, rfl, rfl, by rw [List.append_nil, HR.out]⟩
  case round =>
    obtain ⟨k, l, hk, rfl, rfl, hl⟩ := hrel
    have hll : l.length ≤ 20 := by
      have := congrArg List.length hl
      rw [List.length_append] at this
      omega
    obtain ⟨q, hq⟩ : ∃ q, q = k / 10 := ⟨_, rfl⟩
    obtain ⟨m, hm⟩ : ∃ m, m = k % 10 := ⟨_, rfl⟩
    have hm10 : m < 10 := by omega
    have hkq : k = 10 * q + m := by omega
    have e1 : (k : Int) % 10 = (m : Int) := by omega
    have e2 : (k : Int) / 10 = (q : Int) := by omega
    have hs := dec_sign m hm10 w
    have hstep : k < 10 → l = l ∧ UInt8.ofNat (48 + m) :: l = R := fun h => ⟨rfl, by
      rw [← hl, Lib.decDigits_one h, show m = k by omega]; rfl⟩
    have hmore : ¬ k < 10 → Lib.decDigits q ++ UInt8.ofNat (48 + m) :: l = R := fun h => by
      have hd : Lib.decDigits k = Lib.decDigits q ++ [UInt8.ofNat (48 + m)] := by
        rw [Lib.decDigits, dif_neg h, hq, hm]
      rw [← hl, hd]; simp
    have HST := Lib.hid hstep
    have HMO := Lib.hid hmore
    clear hstep hmore hl hq hm
    obtain ⟨c, hc⟩ : ∃ c, c = UInt8.ofNat (48 + m) := ⟨_, rfl⟩
    rw [← hc] at hs HST HMO
    clear hc
    by_cases h10 : k < 10
    · obtain rfl : q = 0 := by omega
      have e0 : ((0 : Nat) : Int) = 0 := rfl
      rw [e0] at e2
      have HE := Lib.hid (HST.out h10).2
      clear hkq HMO HST
      go_wp2_with fail
      go_ret
      exact ⟨by rw [← HE.out]; rfl, Below.refl _ _⟩
    · have hq0 : ((q : Int) == 0) = false := by rw [beq_eq_false_iff_ne]; omega
      have hqk : q < k := by omega
      have HE := Lib.hid (HMO.out h10)
      have hq9 : q ≤ 9223372036854775807 := by omega
      clear hkq HMO HST
      go_wp2_with fail
      go_round
      case rel => exact ⟨q, c :: l, by omega, rfl, rfl, HE.out⟩
      case measure => simp [intOf]; omega
theorem bytes_add (a b : List UInt8) : ByteArray.mk a.toArray ++ ByteArray.mk b.toArray = ByteArray.mk (a ++ b).toArray := by
  apply ByteArray.ext; simp [ByteArray.data_append]
set_option maxHeartbeats 4000000 in
theorem refLine_ok (e : EvL) (ho : e.Ok) (w : World) :
    Calls Tryz.prog 10 #[evA e] w fun x w' => x = .returned (.tuple #[str (evLine e), .int .i64 0]) ∧ Below w.heap.size w w' := by
  obtain ⟨n, t, k, c, s⟩ := e
  obtain ⟨o1, o2, o3, o4, o5, o6, o7⟩ := ho
  simp only at o1 o2 o3 o4 o5 o6 o7
  have hk32 : k.length ≤ 32 := by
    unfold plainL at o4
    simp only [Bool.and_eq_true, decide_eq_true_eq] at o4
    omega
  have HPL := Lib.hid (fun W => refPlain_any k W (by omega))
  rw [o4] at HPL
  have HF1 := Lib.hid (fun W => refDec_any n W (by omega))
  have HF2 := Lib.hid (fun W => refDec_any t W (by omega))
  have hcn : Lib.itoa c = Lib.decDigits c.toNat := by unfold Lib.itoa; rw [if_neg (by omega)]
  have hwc : IntKind.u64.wrap c = c := IntWalk.u64_in c ⟨by omega, by omega⟩
  have HF3 := Lib.hid (fun W => show Calls Tryz.prog 38 #[.int .u64 c] W _ from by
    have := refDec_any c.toNat W (by omega)
    rw [show ((c.toNat : Nat) : Int) = c by omega] at this
    exact this)
  have l1 : (Lib.decDigits n).length ≤ 20 := by rw [Lib.decDigits_length]; exact Lib.nDigits_le20 n (by omega)
  have l2 : (Lib.decDigits t).length ≤ 20 := by rw [Lib.decDigits_length]; exact Lib.nDigits_le20 t (by omega)
  have l3 : (Lib.decDigits c.toNat).length ≤ 20 := by rw [Lib.decDigits_length]; exact Lib.nDigits_le20 _ (by omega)
  unfold evLine
  simp only [hcn]
  generalize Lib.decDigits n = D1 at HF1 l1 ⊢
  generalize Lib.decDigits t = D2 at HF2 l2 ⊢
  generalize Lib.decDigits c.toNat = D3 at HF3 l3 ⊢
  clear hcn
  have i1 : decide ((n : Int) < 1) = false := decide_eq_false (by omega)
  have i2 : decide ((9007199254740992 : Int) < (n : Int)) = false := decide_eq_false (by omega)
  have i3 : decide ((1099511627776 : Int) < (t : Int)) = false := decide_eq_false (by omega)
  have i5 : decide (c < 0) = false := decide_eq_false (by omega)
  have i6 : decide (2147483647 < c) = false := decide_eq_false (by omega)
  have i7 : decide ((200 : Int) < (s.length : Int)) = false := decide_eq_false (by omega)
  obtain ⟨W, hW⟩ : ∃ W, W = w.alloc (.cells #[.int .u64 n, .int .u64 t, str k, .int .i64 c, str s] 24) := ⟨_, rfl⟩
  have HB0 := Lib.hid (show Below w.heap.size w W from by rw [hW]; exact (Below.refl _ w).alloc (Nat.le_refl _) _)
  have HK0 := Lib.hid (show Blk W w.heap.size [.int .u64 n, .int .u64 t, str k, .int .i64 c, str s] from by rw [hW]; exact Blk.new w _ _)
  have HSIX := Lib.hid (fun W (h : Blk W w.heap.size [.int .u64 n, .int .u64 t, str k, .int .i64 c, str s]) => (show W.cell? ⟨w.heap.size, 0, none⟩ = some (.int .u64 n) ∧ W.cell? ⟨w.heap.size, 1, none⟩ = some (.int .u64 t) ∧ W.cell? ⟨w.heap.size, 2, none⟩ = some (str k) ∧ W.cell? ⟨w.heap.size, 3, none⟩ = some (.int .i64 c) ∧ W.cell? ⟨w.heap.size, 4, none⟩ = some (str s) from ⟨h.at (o := 0) rfl, h.at (o := 1) rfl, h.at (o := 2) rfl, h.at (o := 3) rfl, h.at (o := 4) rfl⟩))
  clear o1 o2 o3 o4 o5 o6
  unfold evA
  simp only
  go_enter Tryz.func10, Tryz.ntmps10
  go_wp2_with fail
  rw [← hW]
  clear hW
  refine (HPL.out W).mono ?_
  rintro e w1 ⟨rfl, hw⟩
  subst hw
  obtain ⟨q0, q1, q2, q3, q4⟩ := HSIX.out W HK0.out
  go_wp2_with fail
  refine wp_region_noPanic ?_
  refine wp_region_held (S := fun W => W.cell? ⟨w.heap.size, 0, none⟩ = some (.int .u64 n) ∧ W.cell? ⟨w.heap.size, 1, none⟩ = some (.int .u64 t) ∧ W.cell? ⟨w.heap.size, 2, none⟩ = some (str k) ∧ W.cell? ⟨w.heap.size, 3, none⟩ = some (.int .i64 c) ∧ W.cell? ⟨w.heap.size, 4, none⟩ = some (str s)) (by kernel_rfl) ?_
  change wpAnyH _ _ _ _ _ _ _ _ (World.drew _)
  obtain ⟨V1, hV1⟩ : ∃ V, V = World.drew W := ⟨_, rfl⟩
  have HK1 := Lib.hid (show Blk V1 w.heap.size _ from by rw [hV1]; exact HK0.out.drew)
  have HB1 := Lib.hid (show Below w.heap.size w V1 from by rw [hV1]; exact HB0.out.drew)
  rw [← hV1]
  clear hV1
  have HX := Lib.hid (HSIX.out _ HK1.out)
  refine takeH 0 40 (.pointer (some ⟨w.heap.size, 0, none⟩)) rfl rfl (by kernel_rfl) (by kernel_rfl) (by kernel_rfl) (fun _ _ _ h => h) rfl (fun w' h => by obtain ⟨h0, h1, h2, h3, h4⟩ := h; go_simp) HX.out ?_
  go_frame
  refine takeH 1 41 (.int .u64 n) rfl rfl (by kernel_rfl) (by kernel_rfl) (by kernel_rfl) (fun _ _ _ h => h) rfl (fun w' h => by obtain ⟨h0, h1, h2, h3, h4⟩ := h; go_simp) HX.out ?_
  go_frame
  refine takeH 4 44 (.pointer (some ⟨w.heap.size, 1, none⟩)) rfl rfl (by kernel_rfl) (by kernel_rfl) (by kernel_rfl) (fun _ _ _ h => h) rfl (fun w' h => by obtain ⟨h0, h1, h2, h3, h4⟩ := h; go_simp) HX.out ?_
  go_frame
  refine takeH 5 45 (.int .u64 t) rfl rfl (by kernel_rfl) (by kernel_rfl) (by kernel_rfl) (fun _ _ _ h => h) rfl (fun w' h => by obtain ⟨h0, h1, h2, h3, h4⟩ := h; go_simp) HX.out ?_
  go_frame
  refine takeH 9 49 (.pointer (some ⟨w.heap.size, 2, none⟩)) rfl rfl (by kernel_rfl) (by kernel_rfl) (by kernel_rfl) (fun _ _ _ h => h) rfl (fun w' h => by obtain ⟨h0, h1, h2, h3, h4⟩ := h; go_simp) HX.out ?_
  go_frame
  refine takeH 10 50 (str k) rfl rfl (by kernel_rfl) (by kernel_rfl) (by kernel_rfl) (fun _ _ _ h => h) rfl (fun w' h => by obtain ⟨h0, h1, h2, h3, h4⟩ := h; go_simp) HX.out ?_
  go_frame
  refine takeH 13 53 (.pointer (some ⟨w.heap.size, 3, none⟩)) rfl rfl (by kernel_rfl) (by kernel_rfl) (by kernel_rfl) (fun _ _ _ h => h) rfl (fun w' h => by obtain ⟨h0, h1, h2, h3, h4⟩ := h; go_simp) HX.out ?_
  go_frame
  refine takeH 14 54 (.int .i64 c) rfl rfl (by kernel_rfl) (by kernel_rfl) (by kernel_rfl) (fun _ _ _ h => h) rfl (fun w' h => by obtain ⟨h0, h1, h2, h3, h4⟩ := h; go_simp) HX.out ?_
  go_frame
  refine takeH 15 55 (.int .u64 c) rfl rfl (by kernel_rfl) (by kernel_rfl) (by kernel_rfl) (fun _ _ _ h => h) rfl (fun w' h => by obtain ⟨h0, h1, h2, h3, h4⟩ := h; go_simp) HX.out ?_
  go_frame
  refine wpAnyH_all (rs := [2]) (by kernel_rfl) (by simp) ?_
  simp only [List.mem_singleton, forall_eq]
  refine wpOp_callD 42 rfl rfl rfl 38 #[.int .u64 n] (by go_simp) ?_
  refine (HF1.out V1).mono ?_
  rintro e V2 ⟨rfl, hB⟩
  have HK2 := Lib.hid (HK1.out.below hB HK1.out.lt)
  have HB2 := Lib.hid (HB1.out.trans (hB.mono HB1.out.size))
  clear hB HX
  have HX := Lib.hid (HSIX.out _ HK2.out)
  refine ⟨_, rfl, HX.out, ?_⟩
  go_frame
  refine takeH 3 43 (str (D1 ++ [32])) rfl rfl (by kernel_rfl) (by kernel_rfl) (by kernel_rfl) (fun _ _ _ h => h) rfl (fun w' h => by have e := bytes_add (D1) ([32]); go_simp; omega) HX.out ?_
  go_frame
  obtain ⟨X1, hX1⟩ : ∃ X, X = D1 ++ [32] := ⟨_, rfl⟩
  have hlX1 : X1.length ≤ 100 := by rw [hX1, List.length_append]; (try simp only [List.length_cons, List.length_nil]); omega
  rw [← hX1]
  have HX1 := Lib.hid hX1; clear hX1
  refine wpAnyH_all (rs := [6]) (by kernel_rfl) (by simp) ?_
  simp only [List.mem_singleton, forall_eq]
  refine wpOp_callD 46 rfl rfl rfl 38 #[.int .u64 t] (by go_simp) ?_
  refine (HF2.out V2).mono ?_
  rintro e V3 ⟨rfl, hB⟩
  have HK3 := Lib.hid (HK2.out.below hB HK2.out.lt)
  have HB3 := Lib.hid (HB2.out.trans (hB.mono HB2.out.size))
  clear hB HX
  have HX := Lib.hid (HSIX.out _ HK3.out)
  refine ⟨_, rfl, HX.out, ?_⟩
  go_frame
  refine takeH 7 47 (str (X1 ++ D2)) rfl rfl (by kernel_rfl) (by kernel_rfl) (by kernel_rfl) (fun _ _ _ h => h) rfl (fun w' h => by have e := bytes_add (X1) (D2); go_simp; omega) HX.out ?_
  go_frame
  obtain ⟨X2, hX2⟩ : ∃ X, X = X1 ++ D2 := ⟨_, rfl⟩
  have hlX2 : X2.length ≤ 200 := by rw [hX2, List.length_append]; (try simp only [List.length_cons, List.length_nil]); omega
  rw [← hX2]
  have HX2 := Lib.hid hX2; clear hX2
  refine takeH 8 48 (str (X2 ++ [32])) rfl rfl (by kernel_rfl) (by kernel_rfl) (by kernel_rfl) (fun _ _ _ h => h) rfl (fun w' h => by have e := bytes_add (X2) ([32]); go_simp; omega) HX.out ?_
  go_frame
  obtain ⟨X3, hX3⟩ : ∃ X, X = X2 ++ [32] := ⟨_, rfl⟩
  have hlX3 : X3.length ≤ 300 := by rw [hX3, List.length_append]; (try simp only [List.length_cons, List.length_nil]); omega
  rw [← hX3]
  have HX3 := Lib.hid hX3; clear hX3
  refine takeH 11 51 (str (X3 ++ k)) rfl rfl (by kernel_rfl) (by kernel_rfl) (by kernel_rfl) (fun _ _ _ h => h) rfl (fun w' h => by have e := bytes_add (X3) (k); go_simp; omega) HX.out ?_
  go_frame
  obtain ⟨X4, hX4⟩ : ∃ X, X = X3 ++ k := ⟨_, rfl⟩
  have hlX4 : X4.length ≤ 400 := by rw [hX4, List.length_append]; (try simp only [List.length_cons, List.length_nil]); omega
  rw [← hX4]
  have HX4 := Lib.hid hX4; clear hX4
  refine takeH 12 52 (str (X4 ++ [32])) rfl rfl (by kernel_rfl) (by kernel_rfl) (by kernel_rfl) (fun _ _ _ h => h) rfl (fun w' h => by have e := bytes_add (X4) ([32]); go_simp; omega) HX.out ?_
  go_frame
  obtain ⟨X5, hX5⟩ : ∃ X, X = X4 ++ [32] := ⟨_, rfl⟩
  have hlX5 : X5.length ≤ 500 := by rw [hX5, List.length_append]; (try simp only [List.length_cons, List.length_nil]); omega
  rw [← hX5]
  have HX5 := Lib.hid hX5; clear hX5
  refine wpAnyH_all (rs := [16]) (by kernel_rfl) (by simp) ?_
  simp only [List.mem_singleton, forall_eq]
  refine wpOp_callD 56 rfl rfl rfl 38 #[.int .u64 c] (by go_simp) ?_
  refine (HF3.out V3).mono ?_
  rintro e V4 ⟨rfl, hB⟩
  have HK4 := Lib.hid (HK3.out.below hB HK3.out.lt)
  have HB4 := Lib.hid (HB3.out.trans (hB.mono HB3.out.size))
  clear hB HX
  have HX := Lib.hid (HSIX.out _ HK4.out)
  refine ⟨_, rfl, HX.out, ?_⟩
  go_frame
  refine takeH 17 57 (str (X5 ++ D3)) rfl rfl (by kernel_rfl) (by kernel_rfl) (by kernel_rfl) (fun _ _ _ h => h) rfl (fun w' h => by have e := bytes_add (X5) (D3); go_simp; omega) HX.out ?_
  go_frame
  obtain ⟨X6, hX6⟩ : ∃ X, X = X5 ++ D3 := ⟨_, rfl⟩
  have hlX6 : X6.length ≤ 600 := by rw [hX6, List.length_append]; (try simp only [List.length_cons, List.length_nil]); omega
  rw [← hX6]
  have HX6 := Lib.hid hX6; clear hX6
  refine takeH 18 58 (str (X6 ++ [32])) rfl rfl (by kernel_rfl) (by kernel_rfl) (by kernel_rfl) (fun _ _ _ h => h) rfl (fun w' h => by have e := bytes_add (X6) ([32]); go_simp; omega) HX.out ?_
  go_frame
  obtain ⟨X7, hX7⟩ : ∃ X, X = X6 ++ [32] := ⟨_, rfl⟩
  have hlX7 : X7.length ≤ 700 := by rw [hX7, List.length_append]; (try simp only [List.length_cons, List.length_nil]); omega
  rw [← hX7]
  have HX7 := Lib.hid hX7; clear hX7
  refine takeH 19 4 (str X7) rfl rfl (by kernel_rfl) (by kernel_rfl) (by kernel_rfl) (fun _ _ _ h => h) rfl (fun w' h => by go_simp) HX.out ?_
  go_frame
  refine wpAnyH_done (by kernel_rfl) ?_ _
  refine NoPanic.normal ?_
  have d4 : V4.cell? ⟨w.heap.size, 4, none⟩ = some (str s) := HK4.out.at (o := 4) rfl
  have hX : ∀ F, X7 ++ F = D1 ++ 32 :: (D2 ++ 32 :: (k ++ 32 :: (D3 ++ 32 :: F))) := fun F => by
    rw [HX7.out, HX6.out, HX5.out, HX4.out, HX3.out, HX2.out, HX1.out]
    simp
  have HFX := Lib.hid hX
  clear hX
  by_cases hs0 : s = []
  · subst hs0
    have e := bytes_add X7 [45]
    have hlast := HFX.out [45]
    have HLA := Lib.hid hlast
    clear hlast
    go_wp2_with fail
    go_ret2
    exact ⟨by rw [show textF [] = [45] from rfl, ← HLA.out]; rfl, HB4.out⟩
  · have hs1 : s.isEmpty = false := str_ne s (fun h => hs0 (List.eq_nil_of_length_eq_zero h))
    obtain ⟨vb, W2, hc, hB2, hv2⟩ := conv_tx s V4 (by omega)
    have HV2 := Lib.hid hv2
    have HB5 := Lib.hid (HB4.out.trans (hB2.mono HB4.out.size))
    clear hv2 hB2
    go_wp2_with fail
    refine (refHex_any _ vb s W2 HV2.out (Nat.le_refl _) (by omega)).mono ?_
    rintro e w3 ⟨rfl, hB⟩
    have HB6 := Lib.hid (HB5.out.trans (hB.mono HB5.out.size))
    have hx : (encH s).length ≤ 1000 := by
      unfold encH; rw [letters_length]; unfold many; omega
    clear hB HV2 hc
    have HTF := Lib.hid (show textF s = encH s from by unfold textF; rw [if_neg hs0])
    generalize encH s = X at hx HTF ⊢
    have e := bytes_add X7 X
    go_wp2_with fail
    go_ret2
    exact ⟨by rw [HTF.out, ← HFX.out X]; rfl, HB6.out⟩
set_option maxHeartbeats 4000000 in
theorem refLine_bad (e : EvL) (hk600 : e.kind.length ≤ 600) (ho : ¬ e.Ok) (w : World) :
    Calls Tryz.prog 10 #[evA e] w fun x w' => x = .returned (.tuple #[str [], .int .i64 4]) ∧ Below w.heap.size w w' := by
  obtain ⟨n, t, k, c, s⟩ := e
  simp only at hk600
  have HPL := Lib.hid (fun W => refPlain_any k W hk600)
  obtain ⟨W, hW⟩ : ∃ W, W = w.alloc (.cells #[.int .u64 n, .int .u64 t, str k, .int .i64 c, str s] 24) := ⟨_, rfl⟩
  have HB0 := Lib.hid (show Below w.heap.size w W from by rw [hW]; exact (Below.refl _ w).alloc (Nat.le_refl _) _)
  have HK0 := Lib.hid (show Blk W w.heap.size [.int .u64 n, .int .u64 t, str k, .int .i64 c, str s] from by rw [hW]; exact Blk.new w _ _)
  have hb : (plainL k = false) ∨ (plainL k = true ∧ (1099511627776 : Int) < (t : Int)) ∨ (plainL k = true ∧ ¬ (1099511627776 : Int) < (t : Int) ∧ c < 0) ∨ (plainL k = true ∧ ¬ (1099511627776 : Int) < (t : Int) ∧ ¬ c < 0 ∧ 2147483647 < c) ∨ (plainL k = true ∧ ¬ (1099511627776 : Int) < (t : Int) ∧ ¬ c < 0 ∧ ¬ 2147483647 < c ∧ (200 : Int) < (s.length : Int))
      ∨ (plainL k = true ∧ ¬ (1099511627776 : Int) < (t : Int) ∧ ¬ c < 0 ∧ ¬ 2147483647 < c ∧ ¬ (200 : Int) < (s.length : Int) ∧ (n : Int) < 1) ∨ (plainL k = true ∧ ¬ (1099511627776 : Int) < (t : Int) ∧ ¬ c < 0 ∧ ¬ 2147483647 < c ∧ ¬ (200 : Int) < (s.length : Int) ∧ ¬ (n : Int) < 1 ∧ (9007199254740992 : Int) < (n : Int)) := by
    cases hp : plainL k with
    | false => exact .inl rfl
    | true =>
      refine .inr ?_
      by_cases i3 : (1099511627776 : Int) < (t : Int)
      · exact .inl ⟨rfl, i3⟩
      by_cases i5 : c < 0
      · exact .inr (.inl ⟨rfl, i3, i5⟩)
      by_cases i6 : 2147483647 < c
      · exact .inr (.inr (.inl ⟨rfl, i3, i5, i6⟩))
      by_cases i7 : (200 : Int) < (s.length : Int)
      · exact .inr (.inr (.inr (.inl ⟨rfl, i3, i5, i6, i7⟩)))
      by_cases i1 : (n : Int) < 1
      · exact .inr (.inr (.inr (.inr (.inl ⟨rfl, i3, i5, i6, i7, i1⟩))))
      by_cases i2 : (9007199254740992 : Int) < (n : Int)
      · exact .inr (.inr (.inr (.inr (.inr ⟨rfl, i3, i5, i6, i7, i1, i2⟩))))
      exact absurd (⟨by show 1 ≤ n; omega, by show n ≤ _; omega, by show t ≤ _; omega, hp, by show 0 ≤ c; omega, by show c ≤ _; omega, by show s.length ≤ _; omega⟩ : EvL.Ok ⟨n, t, k, c, s⟩) ho
  clear ho hk600
  unfold evA
  simp only
  obtain ⟨q0, q1, q2, q3, q4⟩ : W.cell? ⟨w.heap.size, 0, none⟩ = some (.int .u64 n) ∧ W.cell? ⟨w.heap.size, 1, none⟩ = some (.int .u64 t) ∧ W.cell? ⟨w.heap.size, 2, none⟩ = some (str k) ∧ W.cell? ⟨w.heap.size, 3, none⟩ = some (.int .i64 c) ∧ W.cell? ⟨w.heap.size, 4, none⟩ = some (str s) := ⟨HK0.out.at (o := 0) rfl, HK0.out.at (o := 1) rfl, HK0.out.at (o := 2) rfl, HK0.out.at (o := 3) rfl, HK0.out.at (o := 4) rfl⟩
  rcases hb with hp | ⟨hp, i3⟩ | ⟨hp, i3, i5⟩ | ⟨hp, i3, i5, i6⟩ | ⟨hp, i3, i5, i6, i7⟩ | ⟨hp, i3, i5, i6, i7, i1⟩ | ⟨hp, i3, i5, i6, i7, i1, i2⟩
  all_goals
    rw [hp] at HPL
    clear hp
    (try have e3 := decide_eq_false i3)
    (try have e3 := decide_eq_true i3)
    (try have e5 := decide_eq_false i5)
    (try have e5 := decide_eq_true i5)
    (try have e6 := decide_eq_false i6)
    (try have e6 := decide_eq_true i6)
    (try have e7 := decide_eq_false i7)
    (try have e7 := decide_eq_true i7)
    (try have e1 := decide_eq_false i1)
    (try have e1 := decide_eq_true i1)
    (try have e2 := decide_eq_true i2)
    go_enter Tryz.func10, Tryz.ntmps10
    go_wp2_with fail
    rw [← hW]
    clear hW
    refine (HPL.out W).mono ?_
    rintro e w1 ⟨rfl, hw⟩
    subst hw
    go_wp2_with fail
    go_ret2
    exact ⟨rfl, HB0.out⟩
end Go.Proofs.YtockimgedckheaaGreatDoor
set_option maxRecDepth 100000
namespace Go.Proofs.YtockimgedckheaaGreatDoor
open Go.RowKit Go.Shelf
attribute [local go_sem] Oper.semAt_some
abbrev tEr : TypeId := 24
abbrev tErs : TypeId := 43
theorem info_er : (Tryz.prog.info? tEr).map (fun i => (i.zero, i.size, i.bytes)) = some (some zev, 5, 56) := by kernel_rfl
theorem evTr : EvT tErs tEr := ⟨Tryz.underlying43, info_er⟩
/-- The reference's Trace at block b. -/
structure XT (w : World) (base b room : Nat) (V : Value) (L : List EvL) : Prop where
  blk : Blk w b [.int .i64 (room : Int), V]
  own : OwnV tEr w base V L
  geb : base ≤ b
  apb : V.ownBlock ≠ some b
  len : L.length ≤ 1000
section
variable {w w' : World} {base b room : Nat} {V : Value} {L : List EvL}
theorem XT.below (h : XT w base b room V L) (hb : Below w.heap.size w w') : XT w' base b room V L :=
  ⟨h.blk.below hb h.blk.lt, h.own.below hb, h.geb, h.apb, h.len⟩
theorem XT.trs {S : List Nat} (h : XT w base b room V L) (ht : Trs S w w') (h1 : b ∉ S) (h2 : ∀ k, V.ownBlock = some k → k ∉ S) : XT w' base b room V L :=
  ⟨ht.blk h.blk h1, h.own.trs ht h2, h.geb, h.apb, h.len⟩
theorem XT.size (h : XT w base b room V L) : base ≤ w.heap.size := Nat.le_trans h.geb (Nat.le_of_lt h.blk.lt)
end
theorem wpOp_appEvs {tS tE : TypeId} (hT : EvT tS tE) {ops : Array Oper} {Q : Exit → Act → World → Prop} {K : Act → World → Prop} {a : Act} {w : World} {i : Nat} {o : Oper} (d : Tmp) (hi : ops[i]? = some o) (hd : o.dst = some d) (hgd : o.guard = none) (s x : Operand) (ho : o.op = .call { callee := .builtin .append, args := #[s, x], argTypes := #[tS, tS] })
    (base : Nat) (v : Value) (l ms : List EvL) (hs : a.eval s = v) (hown : OwnV tE w base v l) (B : Nat) (vx : Value) (hx : a.eval x = vx) (hsrc : EvIn w B vx ms) (hlen : l.length + ms.length ≤ 100000) (hbase : base ≤ w.heap.size)
    (h : ∀ v' w', OwnV tE w' base v' (l ++ ms) → w.grownBy w' v.ownBlock → (v'.ownBlock = v.ownBlock ∨ v'.ownBlock = some w.heap.size) → K (a.put (some d) v') w') : wpOp Tryz.prog ops Q i K a w := by
  have hw : Region.wanted o (yielded ops a.tmps) = true := by simp [Region.wanted, hgd]
  obtain ⟨i0, hi0, hz0, hz1, hz2⟩ := info_parts hT.i
  obtain ⟨A, c, rfl, h1, h2, h3⟩ := id hsrc
  cases A with
  | none =>
    obtain rfl : ms = [] := by
      cases ms with
      | nil => rfl
      | cons y t => obtain ⟨g, o, e, _⟩ := h3 (by simp); cases e
    obtain rfl := h2.2 rfl
    have hrun := run_append_owned_none (P := Tryz.prog) (w := w) base tS o.type tE i0 5 hT.u hi0 v l.length (vcs l) hown
    refine wpOp_valueX d hi hd hw v w ?_ (h v w (by simpa using hown) (World.grownBy.refl w _) (.inl rfl))
    rw [List.length_nil] at hx
    simp [execOp, ho, resolve, invoke, builtin, hs, hx, hrun]
  | some ad =>
    obtain ⟨v', w', hr, g1, g2, _, g3⟩ := run_append_own_at (P := Tryz.prog) w base tS o.type tE i0 _ 5 56 hT.u hi0 hz0 hz1 hz2 rfl (by decide) v l.length (vcs l) hown ad ms.length c (vcs ms) (by rw [vcs_len]; omega) hsrc.adds (vcs_one ms) (by unfold maxLen; omega) (by omega) hbase
    refine wpOp_valueX d hi hd hw v' w' ?_ (h v' w' ?_ g2 g3)
    · simp [execOp, ho, resolve, invoke, builtin, hs, hx, hr]
    · unfold OwnV
      rw [List.length_append, vcs_app]
      exact g1
set_option maxHeartbeats 8000000 in
theorem refAdd_ok {w : World} {base b room : Nat} {V : Value} {L : List EvL} (h : XT w base b room V L) (hl : L.length ≤ 100) (tick : Nat) (kd : List UInt8) (cn : Int) (tx : List UInt8) (ho : EvL.Ok ⟨L.length + 1, tick, kd, cn, tx⟩) :
    Calls Tryz.prog 47 #[.pointer (some ⟨b, 0, none⟩), .int .u64 tick, str kd, .int .i64 cn, str tx] w fun x w' => x = .returned (.tuple #[.int .u64 ((L.length + 1 : Nat) : Int), .int .i64 0]) ∧
      ∃ V', XT w' base b room V' (L ++ [⟨L.length + 1, tick, kd, cn, tx⟩]) ∧ Trs [b] w w' ∧ (∀ k, V'.ownBlock = some k → w.heap.size ≤ k) := by
  obtain ⟨e, he⟩ : ∃ e : EvL, e = ⟨L.length + 1, tick, kd, cn, tx⟩ := ⟨_, rfl⟩
  rw [← he] at ho ⊢
  have HLN := Lib.hid (fun W => refLine_ok e ho W)
  obtain ⟨VA, VC, eV, -, -⟩ := h.own.form
  obtain ⟨N, hN⟩ : ∃ N : Nat, N = L.length + 1 := ⟨_, rfl⟩
  have hwr : IntKind.i64.wrap ((L.length : Int) + 1) = (N : Int) := by rw [hN]; rw [IntWalk.i64_in _ (by omega)]; omega
  have hwu : IntKind.u64.wrap (N : Int) = (N : Int) := IntWalk.u64_in _ (by omega)
  obtain ⟨W, hW⟩ : ∃ W, W = w.alloc (.cells #[.int .u64 (N : Int), .int .u64 tick, str kd, .int .i64 cn, str tx] tEr) := ⟨_, rfl⟩
  have hec : e.cells = [.int .u64 (N : Int), .int .u64 tick, str kd, .int .i64 cn, str tx] := by rw [he, hN]; rfl
  have hea : evA e = .agg #[.int .u64 (N : Int), .int .u64 tick, str kd, .int .i64 cn, str tx] := by rw [he, hN]; rfl
  have k1 : w.cell? ⟨b, 1, none⟩ = some V := h.blk.at (o := 1) rfl
  rw [eV] at k1
  have hbW : Below w.heap.size w W := by rw [hW]; exact (Below.refl _ w).alloc (Nat.le_refl _) _
  have hzW : W.heap.size = w.heap.size + 1 := by rw [hW]; simp
  have hkW : Blk W w.heap.size e.cells := by rw [hW, hec]; exact Blk.new w _ _
  have HW := h.below hbW
  have hbw : b < w.heap.size := h.blk.lt
  have HK := Lib.hid hkW
  have HXT := Lib.hid h
  have HTW := Lib.hid HW
  have HBW := Lib.hid hbW
  have HEC := Lib.hid hec
  have HEA := Lib.hid hea
  have HN := Lib.hid hN
  have HL := Lib.hid hl
  have HE0 := Lib.hid he
  have HEV := Lib.hid eV
  have HSX := Lib.hid (fun (W' : World) (hk : Blk W' w.heap.size e.cells) => show W'.cell? ⟨w.heap.size, 0, none⟩ = some (.int .u64 (N : Int)) ∧ W'.cell? ⟨w.heap.size, 1, none⟩ = some (.int .u64 tick) ∧ W'.cell? ⟨w.heap.size, 2, none⟩ = some (str kd) ∧ W'.cell? ⟨w.heap.size, 3, none⟩ = some (.int .i64 cn) ∧ W'.cell? ⟨w.heap.size, 4, none⟩ = some (str tx) from by
    rw [HEC.out] at hk
    exact ⟨hk.at (o := 0) rfl, hk.at (o := 1) rfl, hk.at (o := 2) rfl, hk.at (o := 3) rfl, hk.at (o := 4) rfl⟩)
  clear hec hea h HW hbW hkW hN ho hl he eV
  go_enter Tryz.func47, Tryz.ntmps47
  go_wp2_with fail
  rw [← hW]
  rw [← HEA.out]
  clear hW k1
  refine (HLN.out W).mono ?_
  rintro x W2 ⟨rfl, hB2⟩
  have HB2 := Lib.hid (show Below W.heap.size W W2 from hB2)
  have hz2 := hB2.size
  clear hB2 HLN
  rw [HEA.out]
  obtain ⟨q0, q1, q2, q3, q4⟩ := HSX.out W2 (HK.out.below HB2.out HK.out.lt)
  go_wp2_with fail
  refine wp_region_noPanic ?_
  refine wp_region_held (S := fun W' => W'.cell? ⟨w.heap.size, 0, none⟩ = some (.int .u64 (N : Int)) ∧ W'.cell? ⟨w.heap.size, 1, none⟩ = some (.int .u64 tick) ∧ W'.cell? ⟨w.heap.size, 2, none⟩ = some (str kd) ∧ W'.cell? ⟨w.heap.size, 3, none⟩ = some (.int .i64 cn) ∧ W'.cell? ⟨w.heap.size, 4, none⟩ = some (str tx)) (by kernel_rfl) ?_
  change wpAnyH _ _ _ _ _ _ _ _ (World.drew _)
  obtain ⟨W3, hW3⟩ : ∃ V, V = World.drew W2 := ⟨_, rfl⟩
  have HB3 := Lib.hid (show Below W.heap.size W W3 from by rw [hW3]; exact HB2.out.drew)
  rw [← hW3]
  clear hW3 q0 q1 q2 q3 q4
  have HX := Lib.hid (HSX.out W3 (HK.out.below HB3.out HK.out.lt))
  refine takeH 0 37 (.pointer (some ⟨b, 0, none⟩)) rfl rfl (by kernel_rfl) (by kernel_rfl) (by kernel_rfl) (fun _ _ _ h => h) rfl (fun w' h => by obtain ⟨h0, h1, h2, h3, h4⟩ := h; go_simp) HX.out ?_
  go_frame
  refine takeH 2 39 (.pointer (some ⟨b, 0, none⟩)) rfl rfl (by kernel_rfl) (by kernel_rfl) (by kernel_rfl) (fun _ _ _ h => h) rfl (fun w' h => by obtain ⟨h0, h1, h2, h3, h4⟩ := h; go_simp) HX.out ?_
  go_frame
  refine takeH 3 40 (.pointer (some ⟨b, 0, none⟩)) rfl rfl (by kernel_rfl) (by kernel_rfl) (by kernel_rfl) (fun _ _ _ h => h) rfl (fun w' h => by obtain ⟨h0, h1, h2, h3, h4⟩ := h; go_simp) HX.out ?_
  go_frame
  refine takeH 4 41 (.pointer (some ⟨b, 1, none⟩)) rfl rfl (by kernel_rfl) (by kernel_rfl) (by kernel_rfl) (fun _ _ _ h => h) rfl (fun w' h => by obtain ⟨h0, h1, h2, h3, h4⟩ := h; go_simp) HX.out ?_
  go_frame
  refine takeH 7 44 (.agg #[.int .u64 (N : Int), .int .u64 tick, str kd, .int .i64 cn, str tx]) rfl rfl (by kernel_rfl) (by kernel_rfl) (by kernel_rfl) (fun _ _ _ h => h) rfl (fun w' h => by obtain ⟨h0, h1, h2, h3, h4⟩ := h; go_simp) HX.out ?_
  go_frame
  refine wpAnyH_all (rs := [1, 5, 8]) (by kernel_rfl) (by simp) ?_
  simp only [List.mem_cons, List.not_mem_nil, or_false, forall_eq_or_imp, forall_eq]
  refine ⟨?_, ?_, ?_⟩
  obtain ⟨W4, hW4⟩ : ∃ V, V = W3.alloc (.cells #[] tEr) := ⟨_, rfl⟩
  have hzz4 : W4.heap.size = W3.heap.size + 1 := by rw [hW4]; simp
  have hb4 : Below W3.heap.size W3 W4 := by rw [hW4]; exact (Below.refl _ _).alloc (Nat.le_refl _) _
  have HB4 := Lib.hid (HB3.out.trans (hb4.mono HB3.out.size))
  have HE4 := Lib.hid (show OwnV tEr W4 W.heap.size (.slice (some ⟨W3.heap.size, 0, none⟩) 0 0) [] from by rw [hW4]; exact (OwnV.empty tEr W3).le HB3.out.size)
  refine wpOp_valueX 38 rfl rfl rfl (.slice (some ⟨W3.heap.size, 0, none⟩) 0 0) W4 (by rw [hW4]; go_simp) ⟨HSX.out _ (HK.out.below HB4.out HK.out.lt), ?_⟩
  go_frame
  clear hW4 hb4
  refine wpAnyH_all (rs := [5, 8]) (by kernel_rfl) (by simp) ?_
  simp only [List.mem_cons, List.not_mem_nil, or_false, forall_eq_or_imp, forall_eq]
  refine ⟨?_, ?_⟩
  have k1 : W4.cell? ⟨b, 1, none⟩ = some V := (HTW.out.below HB4.out).blk.at (o := 1) rfl
  refine wpOp_valueD 42 rfl rfl rfl V (by go_simp) ?_
  clear k1
  refine ⟨HSX.out _ (HK.out.below HB4.out HK.out.lt), ?_⟩
  go_frame
  refine wpAnyH_all (rs := [6, 8]) (by kernel_rfl) (by simp) ?_
  simp only [List.mem_cons, List.not_mem_nil, or_false, forall_eq_or_imp, forall_eq]
  refine ⟨?_, ?_⟩
  have hsz5 := HB4.out.size
  have hes5 := HXT.out.len
  refine wpOp_appEvs evTr 43 rfl rfl rfl (.tmp 38) (.tmp 42) rfl W.heap.size (.slice (some ⟨W3.heap.size, 0, none⟩) 0 0) [] L rfl HE4.out W4.heap.size V rfl (HTW.out.below HB4.out).own.evIn (by simp; omega) hsz5 ?_
  intro v43 W5 hO hg ho
  rw [List.nil_append] at hO
  have hb5 := OwnV.belowBase HE4.out hg hsz5
  have hzz5 := hb5.size
  have HB5 := Lib.hid (HB4.out.trans hb5)
  have HE5 := Lib.hid hO
  have HO43 := Lib.hid (show v43.ownBlock = some W3.heap.size ∨ v43.ownBlock = some W4.heap.size from ho)
  clear hO hg ho hb5
  refine ⟨HSX.out _ (HK.out.below HB5.out HK.out.lt), ?_⟩
  go_frame
  refine wpAnyH_all (rs := [8]) (by kernel_rfl) (by simp) ?_
  simp only [List.mem_singleton, forall_eq]
  obtain ⟨W6, hW6⟩ : ∃ V, V = W5.alloc (.cells #[.int .u64 (N : Int), .int .u64 tick, str kd, .int .i64 cn, str tx] tEr) := ⟨_, rfl⟩
  have hzz6 : W6.heap.size = W5.heap.size + 1 := by rw [hW6]; simp
  have hb6 : Below W5.heap.size W5 W6 := by rw [hW6]; exact (Below.refl _ _).alloc (Nat.le_refl _) _
  have HB6 := Lib.hid (HB5.out.trans (hb6.mono HB5.out.size))
  have HE6 := Lib.hid (HE5.out.below hb6)
  have HN6 := Lib.hid (show W6.heap[W5.heap.size]? = some (.cells e.cells.toArray tEr (0, 0)) from by rw [hW6, HEC.out]; exact heap_alloc_new W5 _)
  refine wpOp_valueX 45 rfl rfl rfl (.slice (some ⟨W5.heap.size, 0, none⟩) 1 1) W6 (by rw [hW6]; go_simp) ⟨HSX.out _ (HK.out.below HB6.out HK.out.lt), ?_⟩
  go_frame
  clear hW6 hb6
  refine wpAnyH_all (rs := [9]) (by kernel_rfl) (by simp) ?_
  simp only [List.mem_singleton, forall_eq]
  refine wpOp_appEv evTr 46 rfl rfl rfl (.tmp 43) (.tmp 45) rfl W.heap.size v43 L rfl HE6.out W5.heap.size e rfl HN6.out (by have := HXT.out.len; omega) HB6.out.size ?_
  intro g cap WF hO hg ho
  have hb7 := OwnV.belowBase HE6.out hg HB6.out.size
  have HBF := Lib.hid (HB6.out.trans hb7)
  have HOF := Lib.hid hO
  clear hO hg ho hb7 HX
  have HX := Lib.hid (HSX.out _ (HK.out.below HBF.out HK.out.lt))
  refine ⟨HX.out, ?_⟩
  go_frame
  refine takeH 10 47 (.pointer (some ⟨b, 0, none⟩)) rfl rfl (by kernel_rfl) (by kernel_rfl) (by kernel_rfl) (fun _ _ _ h => h) rfl (fun w' h => by obtain ⟨h0, h1, h2, h3, h4⟩ := h; go_simp) HX.out ?_
  go_frame
  refine takeH 11 48 (.pointer (some ⟨b, 1, none⟩)) rfl rfl (by kernel_rfl) (by kernel_rfl) (by kernel_rfl) (fun _ _ _ h => h) rfl (fun w' h => by obtain ⟨h0, h1, h2, h3, h4⟩ := h; go_simp) HX.out ?_
  go_frame
  refine wpAnyH_all (rs := [12]) (by kernel_rfl) (by simp) ?_
  simp only [List.mem_singleton, forall_eq]
  have c5 : WF.cell? ⟨b, 1, none⟩ = some V := (HTW.out.below HBF.out).blk.at (o := 1) rfl
  have f5 : WF.frozen? ⟨b, 1, none⟩ = false := (HTW.out.below HBF.out).blk.free _
  refine wpOp_storeV rfl rfl rfl (w' := WF.setCell ⟨b, 1, none⟩ (.slice (some ⟨g, 0, none⟩) (L.length + 1) cap)) (by go_simp) ?_
  clear c5 f5
  refine ⟨HSX.out _ ((HK.out.below HBF.out HK.out.lt).setOther (by show b ≠ w.heap.size; omega) _), ?_⟩
  refine wpAnyH_done (by kernel_rfl) ?_ _
  refine NoPanic.normal ?_
  rotate_left
  obtain ⟨W5, hW5⟩ : ∃ V, V = W4.alloc (.cells #[.int .u64 (N : Int), .int .u64 tick, str kd, .int .i64 cn, str tx] tEr) := ⟨_, rfl⟩
  have hzz5 : W5.heap.size = W4.heap.size + 1 := by rw [hW5]; simp
  have hb5 : Below W4.heap.size W4 W5 := by rw [hW5]; exact (Below.refl _ _).alloc (Nat.le_refl _) _
  have HB5 := Lib.hid (HB4.out.trans (hb5.mono HB4.out.size))
  have HE5 := Lib.hid (HE4.out.below hb5)
  have HN5 := Lib.hid (show W5.heap[W4.heap.size]? = some (.cells e.cells.toArray tEr (0, 0)) from by rw [hW5, HEC.out]; exact heap_alloc_new W4 _)
  refine wpOp_valueX 45 rfl rfl rfl (.slice (some ⟨W4.heap.size, 0, none⟩) 1 1) W5 (by rw [hW5]; go_simp) ⟨HSX.out _ (HK.out.below HB5.out HK.out.lt), ?_⟩
  go_frame
  clear hW5 hb5
  refine wpAnyH_all (rs := [6]) (by kernel_rfl) (by simp) ?_
  simp only [List.mem_singleton, forall_eq]
  have hsz6 := HB5.out.size
  have hes6 := HXT.out.len
  refine wpOp_appEvs evTr 43 rfl rfl rfl (.tmp 38) (.tmp 42) rfl W.heap.size (.slice (some ⟨W3.heap.size, 0, none⟩) 0 0) [] L rfl HE5.out W5.heap.size V rfl (HTW.out.below HB5.out).own.evIn (by simp; omega) hsz6 ?_
  intro v43 W6 hO hg ho
  rw [List.nil_append] at hO
  have hb6 := OwnV.belowBase HE5.out hg hsz6
  have hzz6 := hb6.size
  have HB6 := Lib.hid (HB5.out.trans hb6)
  have HE6 := Lib.hid hO
  have HN6 := Lib.hid (show W6.heap[W4.heap.size]? = some (.cells e.cells.toArray tEr (0, 0)) from (hg.block _ (by omega) (fun q => by have h : W4.heap.size = W3.heap.size := Option.some.inj q; omega)).trans HN5.out)
  have HO43 := Lib.hid (show v43.ownBlock = some W3.heap.size ∨ v43.ownBlock = some W5.heap.size from ho)
  clear hO hg ho hb6
  refine ⟨HSX.out _ (HK.out.below HB6.out HK.out.lt), ?_⟩
  go_frame
  refine wpAnyH_all (rs := [9]) (by kernel_rfl) (by simp) ?_
  simp only [List.mem_singleton, forall_eq]
  refine wpOp_appEv evTr 46 rfl rfl rfl (.tmp 43) (.tmp 45) rfl W.heap.size v43 L rfl HE6.out W4.heap.size e rfl HN6.out (by have := HXT.out.len; omega) HB6.out.size ?_
  intro g cap WF hO hg ho
  have hb7 := OwnV.belowBase HE6.out hg HB6.out.size
  have HBF := Lib.hid (HB6.out.trans hb7)
  have HOF := Lib.hid hO
  clear hO hg ho hb7 HX
  have HX := Lib.hid (HSX.out _ (HK.out.below HBF.out HK.out.lt))
  refine ⟨HX.out, ?_⟩
  go_frame
  refine takeH 10 47 (.pointer (some ⟨b, 0, none⟩)) rfl rfl (by kernel_rfl) (by kernel_rfl) (by kernel_rfl) (fun _ _ _ h => h) rfl (fun w' h => by obtain ⟨h0, h1, h2, h3, h4⟩ := h; go_simp) HX.out ?_
  go_frame
  refine takeH 11 48 (.pointer (some ⟨b, 1, none⟩)) rfl rfl (by kernel_rfl) (by kernel_rfl) (by kernel_rfl) (fun _ _ _ h => h) rfl (fun w' h => by obtain ⟨h0, h1, h2, h3, h4⟩ := h; go_simp) HX.out ?_
  go_frame
  refine wpAnyH_all (rs := [12]) (by kernel_rfl) (by simp) ?_
  simp only [List.mem_singleton, forall_eq]
  have c5 : WF.cell? ⟨b, 1, none⟩ = some V := (HTW.out.below HBF.out).blk.at (o := 1) rfl
  have f5 : WF.frozen? ⟨b, 1, none⟩ = false := (HTW.out.below HBF.out).blk.free _
  refine wpOp_storeV rfl rfl rfl (w' := WF.setCell ⟨b, 1, none⟩ (.slice (some ⟨g, 0, none⟩) (L.length + 1) cap)) (by go_simp) ?_
  clear c5 f5
  refine ⟨HSX.out _ ((HK.out.below HBF.out HK.out.lt).setOther (by show b ≠ w.heap.size; omega) _), ?_⟩
  refine wpAnyH_done (by kernel_rfl) ?_ _
  refine NoPanic.normal ?_
  rotate_left
  obtain ⟨W5, hW5⟩ : ∃ V, V = W4.alloc (.cells #[.int .u64 (N : Int), .int .u64 tick, str kd, .int .i64 cn, str tx] tEr) := ⟨_, rfl⟩
  have hzz5 : W5.heap.size = W4.heap.size + 1 := by rw [hW5]; simp
  have hb5 : Below W4.heap.size W4 W5 := by rw [hW5]; exact (Below.refl _ _).alloc (Nat.le_refl _) _
  have HB5 := Lib.hid (HB4.out.trans (hb5.mono HB4.out.size))
  have HE5 := Lib.hid (HE4.out.below hb5)
  have HN5 := Lib.hid (show W5.heap[W4.heap.size]? = some (.cells e.cells.toArray tEr (0, 0)) from by rw [hW5, HEC.out]; exact heap_alloc_new W4 _)
  refine wpOp_valueX 45 rfl rfl rfl (.slice (some ⟨W4.heap.size, 0, none⟩) 1 1) W5 (by rw [hW5]; go_simp) ⟨HSX.out _ (HK.out.below HB5.out HK.out.lt), ?_⟩
  go_frame
  clear hW5 hb5
  refine wpAnyH_all (rs := [5]) (by kernel_rfl) (by simp) ?_
  simp only [List.mem_singleton, forall_eq]
  have k1 : W5.cell? ⟨b, 1, none⟩ = some V := (HTW.out.below HB5.out).blk.at (o := 1) rfl
  refine wpOp_valueD 42 rfl rfl rfl V (by go_simp) ?_
  clear k1
  refine ⟨HSX.out _ (HK.out.below HB5.out HK.out.lt), ?_⟩
  go_frame
  refine wpAnyH_all (rs := [6]) (by kernel_rfl) (by simp) ?_
  simp only [List.mem_singleton, forall_eq]
  have hsz6 := HB5.out.size
  have hes6 := HXT.out.len
  refine wpOp_appEvs evTr 43 rfl rfl rfl (.tmp 38) (.tmp 42) rfl W.heap.size (.slice (some ⟨W3.heap.size, 0, none⟩) 0 0) [] L rfl HE5.out W5.heap.size V rfl (HTW.out.below HB5.out).own.evIn (by simp; omega) hsz6 ?_
  intro v43 W6 hO hg ho
  rw [List.nil_append] at hO
  have hb6 := OwnV.belowBase HE5.out hg hsz6
  have hzz6 := hb6.size
  have HB6 := Lib.hid (HB5.out.trans hb6)
  have HE6 := Lib.hid hO
  have HN6 := Lib.hid (show W6.heap[W4.heap.size]? = some (.cells e.cells.toArray tEr (0, 0)) from (hg.block _ (by omega) (fun q => by have h : W4.heap.size = W3.heap.size := Option.some.inj q; omega)).trans HN5.out)
  have HO43 := Lib.hid (show v43.ownBlock = some W3.heap.size ∨ v43.ownBlock = some W5.heap.size from ho)
  clear hO hg ho hb6
  refine ⟨HSX.out _ (HK.out.below HB6.out HK.out.lt), ?_⟩
  go_frame
  refine wpAnyH_all (rs := [9]) (by kernel_rfl) (by simp) ?_
  simp only [List.mem_singleton, forall_eq]
  refine wpOp_appEv evTr 46 rfl rfl rfl (.tmp 43) (.tmp 45) rfl W.heap.size v43 L rfl HE6.out W4.heap.size e rfl HN6.out (by have := HXT.out.len; omega) HB6.out.size ?_
  intro g cap WF hO hg ho
  have hb7 := OwnV.belowBase HE6.out hg HB6.out.size
  have HBF := Lib.hid (HB6.out.trans hb7)
  have HOF := Lib.hid hO
  clear hO hg ho hb7 HX
  have HX := Lib.hid (HSX.out _ (HK.out.below HBF.out HK.out.lt))
  refine ⟨HX.out, ?_⟩
  go_frame
  refine takeH 10 47 (.pointer (some ⟨b, 0, none⟩)) rfl rfl (by kernel_rfl) (by kernel_rfl) (by kernel_rfl) (fun _ _ _ h => h) rfl (fun w' h => by obtain ⟨h0, h1, h2, h3, h4⟩ := h; go_simp) HX.out ?_
  go_frame
  refine takeH 11 48 (.pointer (some ⟨b, 1, none⟩)) rfl rfl (by kernel_rfl) (by kernel_rfl) (by kernel_rfl) (fun _ _ _ h => h) rfl (fun w' h => by obtain ⟨h0, h1, h2, h3, h4⟩ := h; go_simp) HX.out ?_
  go_frame
  refine wpAnyH_all (rs := [12]) (by kernel_rfl) (by simp) ?_
  simp only [List.mem_singleton, forall_eq]
  have c5 : WF.cell? ⟨b, 1, none⟩ = some V := (HTW.out.below HBF.out).blk.at (o := 1) rfl
  have f5 : WF.frozen? ⟨b, 1, none⟩ = false := (HTW.out.below HBF.out).blk.free _
  refine wpOp_storeV rfl rfl rfl (w' := WF.setCell ⟨b, 1, none⟩ (.slice (some ⟨g, 0, none⟩) (L.length + 1) cap)) (by go_simp) ?_
  clear c5 f5
  refine ⟨HSX.out _ ((HK.out.below HBF.out HK.out.lt).setOther (by show b ≠ w.heap.size; omega) _), ?_⟩
  refine wpAnyH_done (by kernel_rfl) ?_ _
  refine NoPanic.normal ?_
  rotate_left
  have k1 : W3.cell? ⟨b, 1, none⟩ = some V := (HTW.out.below HB3.out).blk.at (o := 1) rfl
  refine wpOp_valueD 42 rfl rfl rfl V (by go_simp) ?_
  clear k1
  refine ⟨HSX.out _ (HK.out.below HB3.out HK.out.lt), ?_⟩
  go_frame
  refine wpAnyH_all (rs := [1, 8]) (by kernel_rfl) (by simp) ?_
  simp only [List.mem_cons, List.not_mem_nil, or_false, forall_eq_or_imp, forall_eq]
  refine ⟨?_, ?_⟩
  obtain ⟨W4, hW4⟩ : ∃ V, V = W3.alloc (.cells #[] tEr) := ⟨_, rfl⟩
  have hzz4 : W4.heap.size = W3.heap.size + 1 := by rw [hW4]; simp
  have hb4 : Below W3.heap.size W3 W4 := by rw [hW4]; exact (Below.refl _ _).alloc (Nat.le_refl _) _
  have HB4 := Lib.hid (HB3.out.trans (hb4.mono HB3.out.size))
  have HE4 := Lib.hid (show OwnV tEr W4 W.heap.size (.slice (some ⟨W3.heap.size, 0, none⟩) 0 0) [] from by rw [hW4]; exact (OwnV.empty tEr W3).le HB3.out.size)
  refine wpOp_valueX 38 rfl rfl rfl (.slice (some ⟨W3.heap.size, 0, none⟩) 0 0) W4 (by rw [hW4]; go_simp) ⟨HSX.out _ (HK.out.below HB4.out HK.out.lt), ?_⟩
  go_frame
  clear hW4 hb4
  refine wpAnyH_all (rs := [6, 8]) (by kernel_rfl) (by simp) ?_
  simp only [List.mem_cons, List.not_mem_nil, or_false, forall_eq_or_imp, forall_eq]
  refine ⟨?_, ?_⟩
  have hsz5 := HB4.out.size
  have hes5 := HXT.out.len
  refine wpOp_appEvs evTr 43 rfl rfl rfl (.tmp 38) (.tmp 42) rfl W.heap.size (.slice (some ⟨W3.heap.size, 0, none⟩) 0 0) [] L rfl HE4.out W4.heap.size V rfl (HTW.out.below HB4.out).own.evIn (by simp; omega) hsz5 ?_
  intro v43 W5 hO hg ho
  rw [List.nil_append] at hO
  have hb5 := OwnV.belowBase HE4.out hg hsz5
  have hzz5 := hb5.size
  have HB5 := Lib.hid (HB4.out.trans hb5)
  have HE5 := Lib.hid hO
  have HO43 := Lib.hid (show v43.ownBlock = some W3.heap.size ∨ v43.ownBlock = some W4.heap.size from ho)
  clear hO hg ho hb5
  refine ⟨HSX.out _ (HK.out.below HB5.out HK.out.lt), ?_⟩
  go_frame
  refine wpAnyH_all (rs := [8]) (by kernel_rfl) (by simp) ?_
  simp only [List.mem_singleton, forall_eq]
  obtain ⟨W6, hW6⟩ : ∃ V, V = W5.alloc (.cells #[.int .u64 (N : Int), .int .u64 tick, str kd, .int .i64 cn, str tx] tEr) := ⟨_, rfl⟩
  have hzz6 : W6.heap.size = W5.heap.size + 1 := by rw [hW6]; simp
  have hb6 : Below W5.heap.size W5 W6 := by rw [hW6]; exact (Below.refl _ _).alloc (Nat.le_refl _) _
  have HB6 := Lib.hid (HB5.out.trans (hb6.mono HB5.out.size))
  have HE6 := Lib.hid (HE5.out.below hb6)
  have HN6 := Lib.hid (show W6.heap[W5.heap.size]? = some (.cells e.cells.toArray tEr (0, 0)) from by rw [hW6, HEC.out]; exact heap_alloc_new W5 _)
  refine wpOp_valueX 45 rfl rfl rfl (.slice (some ⟨W5.heap.size, 0, none⟩) 1 1) W6 (by rw [hW6]; go_simp) ⟨HSX.out _ (HK.out.below HB6.out HK.out.lt), ?_⟩
  go_frame
  clear hW6 hb6
  refine wpAnyH_all (rs := [9]) (by kernel_rfl) (by simp) ?_
  simp only [List.mem_singleton, forall_eq]
  refine wpOp_appEv evTr 46 rfl rfl rfl (.tmp 43) (.tmp 45) rfl W.heap.size v43 L rfl HE6.out W5.heap.size e rfl HN6.out (by have := HXT.out.len; omega) HB6.out.size ?_
  intro g cap WF hO hg ho
  have hb7 := OwnV.belowBase HE6.out hg HB6.out.size
  have HBF := Lib.hid (HB6.out.trans hb7)
  have HOF := Lib.hid hO
  clear hO hg ho hb7 HX
  have HX := Lib.hid (HSX.out _ (HK.out.below HBF.out HK.out.lt))
  refine ⟨HX.out, ?_⟩
  go_frame
  refine takeH 10 47 (.pointer (some ⟨b, 0, none⟩)) rfl rfl (by kernel_rfl) (by kernel_rfl) (by kernel_rfl) (fun _ _ _ h => h) rfl (fun w' h => by obtain ⟨h0, h1, h2, h3, h4⟩ := h; go_simp) HX.out ?_
  go_frame
  refine takeH 11 48 (.pointer (some ⟨b, 1, none⟩)) rfl rfl (by kernel_rfl) (by kernel_rfl) (by kernel_rfl) (fun _ _ _ h => h) rfl (fun w' h => by obtain ⟨h0, h1, h2, h3, h4⟩ := h; go_simp) HX.out ?_
  go_frame
  refine wpAnyH_all (rs := [12]) (by kernel_rfl) (by simp) ?_
  simp only [List.mem_singleton, forall_eq]
  have c5 : WF.cell? ⟨b, 1, none⟩ = some V := (HTW.out.below HBF.out).blk.at (o := 1) rfl
  have f5 : WF.frozen? ⟨b, 1, none⟩ = false := (HTW.out.below HBF.out).blk.free _
  refine wpOp_storeV rfl rfl rfl (w' := WF.setCell ⟨b, 1, none⟩ (.slice (some ⟨g, 0, none⟩) (L.length + 1) cap)) (by go_simp) ?_
  clear c5 f5
  refine ⟨HSX.out _ ((HK.out.below HBF.out HK.out.lt).setOther (by show b ≠ w.heap.size; omega) _), ?_⟩
  refine wpAnyH_done (by kernel_rfl) ?_ _
  refine NoPanic.normal ?_
  rotate_left
  obtain ⟨W5, hW5⟩ : ∃ V, V = W4.alloc (.cells #[.int .u64 (N : Int), .int .u64 tick, str kd, .int .i64 cn, str tx] tEr) := ⟨_, rfl⟩
  have hzz5 : W5.heap.size = W4.heap.size + 1 := by rw [hW5]; simp
  have hb5 : Below W4.heap.size W4 W5 := by rw [hW5]; exact (Below.refl _ _).alloc (Nat.le_refl _) _
  have HB5 := Lib.hid (HB4.out.trans (hb5.mono HB4.out.size))
  have HE5 := Lib.hid (HE4.out.below hb5)
  have HN5 := Lib.hid (show W5.heap[W4.heap.size]? = some (.cells e.cells.toArray tEr (0, 0)) from by rw [hW5, HEC.out]; exact heap_alloc_new W4 _)
  refine wpOp_valueX 45 rfl rfl rfl (.slice (some ⟨W4.heap.size, 0, none⟩) 1 1) W5 (by rw [hW5]; go_simp) ⟨HSX.out _ (HK.out.below HB5.out HK.out.lt), ?_⟩
  go_frame
  clear hW5 hb5
  refine wpAnyH_all (rs := [6]) (by kernel_rfl) (by simp) ?_
  simp only [List.mem_singleton, forall_eq]
  have hsz6 := HB5.out.size
  have hes6 := HXT.out.len
  refine wpOp_appEvs evTr 43 rfl rfl rfl (.tmp 38) (.tmp 42) rfl W.heap.size (.slice (some ⟨W3.heap.size, 0, none⟩) 0 0) [] L rfl HE5.out W5.heap.size V rfl (HTW.out.below HB5.out).own.evIn (by simp; omega) hsz6 ?_
  intro v43 W6 hO hg ho
  rw [List.nil_append] at hO
  have hb6 := OwnV.belowBase HE5.out hg hsz6
  have hzz6 := hb6.size
  have HB6 := Lib.hid (HB5.out.trans hb6)
  have HE6 := Lib.hid hO
  have HN6 := Lib.hid (show W6.heap[W4.heap.size]? = some (.cells e.cells.toArray tEr (0, 0)) from (hg.block _ (by omega) (fun q => by have h : W4.heap.size = W3.heap.size := Option.some.inj q; omega)).trans HN5.out)
  have HO43 := Lib.hid (show v43.ownBlock = some W3.heap.size ∨ v43.ownBlock = some W5.heap.size from ho)
  clear hO hg ho hb6
  refine ⟨HSX.out _ (HK.out.below HB6.out HK.out.lt), ?_⟩
  go_frame
  refine wpAnyH_all (rs := [9]) (by kernel_rfl) (by simp) ?_
  simp only [List.mem_singleton, forall_eq]
  refine wpOp_appEv evTr 46 rfl rfl rfl (.tmp 43) (.tmp 45) rfl W.heap.size v43 L rfl HE6.out W4.heap.size e rfl HN6.out (by have := HXT.out.len; omega) HB6.out.size ?_
  intro g cap WF hO hg ho
  have hb7 := OwnV.belowBase HE6.out hg HB6.out.size
  have HBF := Lib.hid (HB6.out.trans hb7)
  have HOF := Lib.hid hO
  clear hO hg ho hb7 HX
  have HX := Lib.hid (HSX.out _ (HK.out.below HBF.out HK.out.lt))
  refine ⟨HX.out, ?_⟩
  go_frame
  refine takeH 10 47 (.pointer (some ⟨b, 0, none⟩)) rfl rfl (by kernel_rfl) (by kernel_rfl) (by kernel_rfl) (fun _ _ _ h => h) rfl (fun w' h => by obtain ⟨h0, h1, h2, h3, h4⟩ := h; go_simp) HX.out ?_
  go_frame
  refine takeH 11 48 (.pointer (some ⟨b, 1, none⟩)) rfl rfl (by kernel_rfl) (by kernel_rfl) (by kernel_rfl) (fun _ _ _ h => h) rfl (fun w' h => by obtain ⟨h0, h1, h2, h3, h4⟩ := h; go_simp) HX.out ?_
  go_frame
  refine wpAnyH_all (rs := [12]) (by kernel_rfl) (by simp) ?_
  simp only [List.mem_singleton, forall_eq]
  have c5 : WF.cell? ⟨b, 1, none⟩ = some V := (HTW.out.below HBF.out).blk.at (o := 1) rfl
  have f5 : WF.frozen? ⟨b, 1, none⟩ = false := (HTW.out.below HBF.out).blk.free _
  refine wpOp_storeV rfl rfl rfl (w' := WF.setCell ⟨b, 1, none⟩ (.slice (some ⟨g, 0, none⟩) (L.length + 1) cap)) (by go_simp) ?_
  clear c5 f5
  refine ⟨HSX.out _ ((HK.out.below HBF.out HK.out.lt).setOther (by show b ≠ w.heap.size; omega) _), ?_⟩
  refine wpAnyH_done (by kernel_rfl) ?_ _
  refine NoPanic.normal ?_
  rotate_left
  obtain ⟨W4, hW4⟩ : ∃ V, V = W3.alloc (.cells #[.int .u64 (N : Int), .int .u64 tick, str kd, .int .i64 cn, str tx] tEr) := ⟨_, rfl⟩
  have hzz4 : W4.heap.size = W3.heap.size + 1 := by rw [hW4]; simp
  have hb4 : Below W3.heap.size W3 W4 := by rw [hW4]; exact (Below.refl _ _).alloc (Nat.le_refl _) _
  have HB4 := Lib.hid (HB3.out.trans (hb4.mono HB3.out.size))
  have HN4 := Lib.hid (show W4.heap[W3.heap.size]? = some (.cells e.cells.toArray tEr (0, 0)) from by rw [hW4, HEC.out]; exact heap_alloc_new W3 _)
  refine wpOp_valueX 45 rfl rfl rfl (.slice (some ⟨W3.heap.size, 0, none⟩) 1 1) W4 (by rw [hW4]; go_simp) ⟨HSX.out _ (HK.out.below HB4.out HK.out.lt), ?_⟩
  go_frame
  clear hW4 hb4
  refine wpAnyH_all (rs := [1]) (by kernel_rfl) (by simp) ?_
  simp only [List.mem_singleton, forall_eq]
  obtain ⟨W5, hW5⟩ : ∃ V, V = W4.alloc (.cells #[] tEr) := ⟨_, rfl⟩
  have hzz5 : W5.heap.size = W4.heap.size + 1 := by rw [hW5]; simp
  have hb5 : Below W4.heap.size W4 W5 := by rw [hW5]; exact (Below.refl _ _).alloc (Nat.le_refl _) _
  have HB5 := Lib.hid (HB4.out.trans (hb5.mono HB4.out.size))
  have HN5 := Lib.hid (show W5.heap[W3.heap.size]? = some (.cells e.cells.toArray tEr (0, 0)) from (hb5.block _ (by omega)).trans HN4.out)
  have HE5 := Lib.hid (show OwnV tEr W5 W.heap.size (.slice (some ⟨W4.heap.size, 0, none⟩) 0 0) [] from by rw [hW5]; exact (OwnV.empty tEr W4).le HB4.out.size)
  refine wpOp_valueX 38 rfl rfl rfl (.slice (some ⟨W4.heap.size, 0, none⟩) 0 0) W5 (by rw [hW5]; go_simp) ⟨HSX.out _ (HK.out.below HB5.out HK.out.lt), ?_⟩
  go_frame
  clear hW5 hb5
  refine wpAnyH_all (rs := [6]) (by kernel_rfl) (by simp) ?_
  simp only [List.mem_singleton, forall_eq]
  have hsz6 := HB5.out.size
  have hes6 := HXT.out.len
  refine wpOp_appEvs evTr 43 rfl rfl rfl (.tmp 38) (.tmp 42) rfl W.heap.size (.slice (some ⟨W4.heap.size, 0, none⟩) 0 0) [] L rfl HE5.out W5.heap.size V rfl (HTW.out.below HB5.out).own.evIn (by simp; omega) hsz6 ?_
  intro v43 W6 hO hg ho
  rw [List.nil_append] at hO
  have hb6 := OwnV.belowBase HE5.out hg hsz6
  have hzz6 := hb6.size
  have HB6 := Lib.hid (HB5.out.trans hb6)
  have HE6 := Lib.hid hO
  have HN6 := Lib.hid (show W6.heap[W3.heap.size]? = some (.cells e.cells.toArray tEr (0, 0)) from (hg.block _ (by omega) (fun q => by have h : W3.heap.size = W4.heap.size := Option.some.inj q; omega)).trans HN5.out)
  have HO43 := Lib.hid (show v43.ownBlock = some W4.heap.size ∨ v43.ownBlock = some W5.heap.size from ho)
  clear hO hg ho hb6
  refine ⟨HSX.out _ (HK.out.below HB6.out HK.out.lt), ?_⟩
  go_frame
  refine wpAnyH_all (rs := [9]) (by kernel_rfl) (by simp) ?_
  simp only [List.mem_singleton, forall_eq]
  refine wpOp_appEv evTr 46 rfl rfl rfl (.tmp 43) (.tmp 45) rfl W.heap.size v43 L rfl HE6.out W3.heap.size e rfl HN6.out (by have := HXT.out.len; omega) HB6.out.size ?_
  intro g cap WF hO hg ho
  have hb7 := OwnV.belowBase HE6.out hg HB6.out.size
  have HBF := Lib.hid (HB6.out.trans hb7)
  have HOF := Lib.hid hO
  clear hO hg ho hb7 HX
  have HX := Lib.hid (HSX.out _ (HK.out.below HBF.out HK.out.lt))
  refine ⟨HX.out, ?_⟩
  go_frame
  refine takeH 10 47 (.pointer (some ⟨b, 0, none⟩)) rfl rfl (by kernel_rfl) (by kernel_rfl) (by kernel_rfl) (fun _ _ _ h => h) rfl (fun w' h => by obtain ⟨h0, h1, h2, h3, h4⟩ := h; go_simp) HX.out ?_
  go_frame
  refine takeH 11 48 (.pointer (some ⟨b, 1, none⟩)) rfl rfl (by kernel_rfl) (by kernel_rfl) (by kernel_rfl) (fun _ _ _ h => h) rfl (fun w' h => by obtain ⟨h0, h1, h2, h3, h4⟩ := h; go_simp) HX.out ?_
  go_frame
  refine wpAnyH_all (rs := [12]) (by kernel_rfl) (by simp) ?_
  simp only [List.mem_singleton, forall_eq]
  have c5 : WF.cell? ⟨b, 1, none⟩ = some V := (HTW.out.below HBF.out).blk.at (o := 1) rfl
  have f5 : WF.frozen? ⟨b, 1, none⟩ = false := (HTW.out.below HBF.out).blk.free _
  refine wpOp_storeV rfl rfl rfl (w' := WF.setCell ⟨b, 1, none⟩ (.slice (some ⟨g, 0, none⟩) (L.length + 1) cap)) (by go_simp) ?_
  clear c5 f5
  refine ⟨HSX.out _ ((HK.out.below HBF.out HK.out.lt).setOther (by show b ≠ w.heap.size; omega) _), ?_⟩
  refine wpAnyH_done (by kernel_rfl) ?_ _
  refine NoPanic.normal ?_
  rotate_left
  obtain ⟨W4, hW4⟩ : ∃ V, V = W3.alloc (.cells #[.int .u64 (N : Int), .int .u64 tick, str kd, .int .i64 cn, str tx] tEr) := ⟨_, rfl⟩
  have hzz4 : W4.heap.size = W3.heap.size + 1 := by rw [hW4]; simp
  have hb4 : Below W3.heap.size W3 W4 := by rw [hW4]; exact (Below.refl _ _).alloc (Nat.le_refl _) _
  have HB4 := Lib.hid (HB3.out.trans (hb4.mono HB3.out.size))
  have HN4 := Lib.hid (show W4.heap[W3.heap.size]? = some (.cells e.cells.toArray tEr (0, 0)) from by rw [hW4, HEC.out]; exact heap_alloc_new W3 _)
  refine wpOp_valueX 45 rfl rfl rfl (.slice (some ⟨W3.heap.size, 0, none⟩) 1 1) W4 (by rw [hW4]; go_simp) ⟨HSX.out _ (HK.out.below HB4.out HK.out.lt), ?_⟩
  go_frame
  clear hW4 hb4
  refine wpAnyH_all (rs := [1, 5]) (by kernel_rfl) (by simp) ?_
  simp only [List.mem_cons, List.not_mem_nil, or_false, forall_eq_or_imp, forall_eq]
  refine ⟨?_, ?_⟩
  obtain ⟨W5, hW5⟩ : ∃ V, V = W4.alloc (.cells #[] tEr) := ⟨_, rfl⟩
  have hzz5 : W5.heap.size = W4.heap.size + 1 := by rw [hW5]; simp
  have hb5 : Below W4.heap.size W4 W5 := by rw [hW5]; exact (Below.refl _ _).alloc (Nat.le_refl _) _
  have HB5 := Lib.hid (HB4.out.trans (hb5.mono HB4.out.size))
  have HN5 := Lib.hid (show W5.heap[W3.heap.size]? = some (.cells e.cells.toArray tEr (0, 0)) from (hb5.block _ (by omega)).trans HN4.out)
  have HE5 := Lib.hid (show OwnV tEr W5 W.heap.size (.slice (some ⟨W4.heap.size, 0, none⟩) 0 0) [] from by rw [hW5]; exact (OwnV.empty tEr W4).le HB4.out.size)
  refine wpOp_valueX 38 rfl rfl rfl (.slice (some ⟨W4.heap.size, 0, none⟩) 0 0) W5 (by rw [hW5]; go_simp) ⟨HSX.out _ (HK.out.below HB5.out HK.out.lt), ?_⟩
  go_frame
  clear hW5 hb5
  refine wpAnyH_all (rs := [5]) (by kernel_rfl) (by simp) ?_
  simp only [List.mem_singleton, forall_eq]
  have k1 : W5.cell? ⟨b, 1, none⟩ = some V := (HTW.out.below HB5.out).blk.at (o := 1) rfl
  refine wpOp_valueD 42 rfl rfl rfl V (by go_simp) ?_
  clear k1
  refine ⟨HSX.out _ (HK.out.below HB5.out HK.out.lt), ?_⟩
  go_frame
  refine wpAnyH_all (rs := [6]) (by kernel_rfl) (by simp) ?_
  simp only [List.mem_singleton, forall_eq]
  have hsz6 := HB5.out.size
  have hes6 := HXT.out.len
  refine wpOp_appEvs evTr 43 rfl rfl rfl (.tmp 38) (.tmp 42) rfl W.heap.size (.slice (some ⟨W4.heap.size, 0, none⟩) 0 0) [] L rfl HE5.out W5.heap.size V rfl (HTW.out.below HB5.out).own.evIn (by simp; omega) hsz6 ?_
  intro v43 W6 hO hg ho
  rw [List.nil_append] at hO
  have hb6 := OwnV.belowBase HE5.out hg hsz6
  have hzz6 := hb6.size
  have HB6 := Lib.hid (HB5.out.trans hb6)
  have HE6 := Lib.hid hO
  have HN6 := Lib.hid (show W6.heap[W3.heap.size]? = some (.cells e.cells.toArray tEr (0, 0)) from (hg.block _ (by omega) (fun q => by have h : W3.heap.size = W4.heap.size := Option.some.inj q; omega)).trans HN5.out)
  have HO43 := Lib.hid (show v43.ownBlock = some W4.heap.size ∨ v43.ownBlock = some W5.heap.size from ho)
  clear hO hg ho hb6
  refine ⟨HSX.out _ (HK.out.below HB6.out HK.out.lt), ?_⟩
  go_frame
  refine wpAnyH_all (rs := [9]) (by kernel_rfl) (by simp) ?_
  simp only [List.mem_singleton, forall_eq]
  refine wpOp_appEv evTr 46 rfl rfl rfl (.tmp 43) (.tmp 45) rfl W.heap.size v43 L rfl HE6.out W3.heap.size e rfl HN6.out (by have := HXT.out.len; omega) HB6.out.size ?_
  intro g cap WF hO hg ho
  have hb7 := OwnV.belowBase HE6.out hg HB6.out.size
  have HBF := Lib.hid (HB6.out.trans hb7)
  have HOF := Lib.hid hO
  clear hO hg ho hb7 HX
  have HX := Lib.hid (HSX.out _ (HK.out.below HBF.out HK.out.lt))
  refine ⟨HX.out, ?_⟩
  go_frame
  refine takeH 10 47 (.pointer (some ⟨b, 0, none⟩)) rfl rfl (by kernel_rfl) (by kernel_rfl) (by kernel_rfl) (fun _ _ _ h => h) rfl (fun w' h => by obtain ⟨h0, h1, h2, h3, h4⟩ := h; go_simp) HX.out ?_
  go_frame
  refine takeH 11 48 (.pointer (some ⟨b, 1, none⟩)) rfl rfl (by kernel_rfl) (by kernel_rfl) (by kernel_rfl) (fun _ _ _ h => h) rfl (fun w' h => by obtain ⟨h0, h1, h2, h3, h4⟩ := h; go_simp) HX.out ?_
  go_frame
  refine wpAnyH_all (rs := [12]) (by kernel_rfl) (by simp) ?_
  simp only [List.mem_singleton, forall_eq]
  have c5 : WF.cell? ⟨b, 1, none⟩ = some V := (HTW.out.below HBF.out).blk.at (o := 1) rfl
  have f5 : WF.frozen? ⟨b, 1, none⟩ = false := (HTW.out.below HBF.out).blk.free _
  refine wpOp_storeV rfl rfl rfl (w' := WF.setCell ⟨b, 1, none⟩ (.slice (some ⟨g, 0, none⟩) (L.length + 1) cap)) (by go_simp) ?_
  clear c5 f5
  refine ⟨HSX.out _ ((HK.out.below HBF.out HK.out.lt).setOther (by show b ≠ w.heap.size; omega) _), ?_⟩
  refine wpAnyH_done (by kernel_rfl) ?_ _
  refine NoPanic.normal ?_
  rotate_left
  have k1 : W4.cell? ⟨b, 1, none⟩ = some V := (HTW.out.below HB4.out).blk.at (o := 1) rfl
  refine wpOp_valueD 42 rfl rfl rfl V (by go_simp) ?_
  clear k1
  refine ⟨HSX.out _ (HK.out.below HB4.out HK.out.lt), ?_⟩
  go_frame
  refine wpAnyH_all (rs := [1]) (by kernel_rfl) (by simp) ?_
  simp only [List.mem_singleton, forall_eq]
  obtain ⟨W5, hW5⟩ : ∃ V, V = W4.alloc (.cells #[] tEr) := ⟨_, rfl⟩
  have hzz5 : W5.heap.size = W4.heap.size + 1 := by rw [hW5]; simp
  have hb5 : Below W4.heap.size W4 W5 := by rw [hW5]; exact (Below.refl _ _).alloc (Nat.le_refl _) _
  have HB5 := Lib.hid (HB4.out.trans (hb5.mono HB4.out.size))
  have HN5 := Lib.hid (show W5.heap[W3.heap.size]? = some (.cells e.cells.toArray tEr (0, 0)) from (hb5.block _ (by omega)).trans HN4.out)
  have HE5 := Lib.hid (show OwnV tEr W5 W.heap.size (.slice (some ⟨W4.heap.size, 0, none⟩) 0 0) [] from by rw [hW5]; exact (OwnV.empty tEr W4).le HB4.out.size)
  refine wpOp_valueX 38 rfl rfl rfl (.slice (some ⟨W4.heap.size, 0, none⟩) 0 0) W5 (by rw [hW5]; go_simp) ⟨HSX.out _ (HK.out.below HB5.out HK.out.lt), ?_⟩
  go_frame
  clear hW5 hb5
  refine wpAnyH_all (rs := [6]) (by kernel_rfl) (by simp) ?_
  simp only [List.mem_singleton, forall_eq]
  have hsz6 := HB5.out.size
  have hes6 := HXT.out.len
  refine wpOp_appEvs evTr 43 rfl rfl rfl (.tmp 38) (.tmp 42) rfl W.heap.size (.slice (some ⟨W4.heap.size, 0, none⟩) 0 0) [] L rfl HE5.out W5.heap.size V rfl (HTW.out.below HB5.out).own.evIn (by simp; omega) hsz6 ?_
  intro v43 W6 hO hg ho
  rw [List.nil_append] at hO
  have hb6 := OwnV.belowBase HE5.out hg hsz6
  have hzz6 := hb6.size
  have HB6 := Lib.hid (HB5.out.trans hb6)
  have HE6 := Lib.hid hO
  have HN6 := Lib.hid (show W6.heap[W3.heap.size]? = some (.cells e.cells.toArray tEr (0, 0)) from (hg.block _ (by omega) (fun q => by have h : W3.heap.size = W4.heap.size := Option.some.inj q; omega)).trans HN5.out)
  have HO43 := Lib.hid (show v43.ownBlock = some W4.heap.size ∨ v43.ownBlock = some W5.heap.size from ho)
  clear hO hg ho hb6
  refine ⟨HSX.out _ (HK.out.below HB6.out HK.out.lt), ?_⟩
  go_frame
  refine wpAnyH_all (rs := [9]) (by kernel_rfl) (by simp) ?_
  simp only [List.mem_singleton, forall_eq]
  refine wpOp_appEv evTr 46 rfl rfl rfl (.tmp 43) (.tmp 45) rfl W.heap.size v43 L rfl HE6.out W3.heap.size e rfl HN6.out (by have := HXT.out.len; omega) HB6.out.size ?_
  intro g cap WF hO hg ho
  have hb7 := OwnV.belowBase HE6.out hg HB6.out.size
  have HBF := Lib.hid (HB6.out.trans hb7)
  have HOF := Lib.hid hO
  clear hO hg ho hb7 HX
  have HX := Lib.hid (HSX.out _ (HK.out.below HBF.out HK.out.lt))
  refine ⟨HX.out, ?_⟩
  go_frame
  refine takeH 10 47 (.pointer (some ⟨b, 0, none⟩)) rfl rfl (by kernel_rfl) (by kernel_rfl) (by kernel_rfl) (fun _ _ _ h => h) rfl (fun w' h => by obtain ⟨h0, h1, h2, h3, h4⟩ := h; go_simp) HX.out ?_
  go_frame
  refine takeH 11 48 (.pointer (some ⟨b, 1, none⟩)) rfl rfl (by kernel_rfl) (by kernel_rfl) (by kernel_rfl) (fun _ _ _ h => h) rfl (fun w' h => by obtain ⟨h0, h1, h2, h3, h4⟩ := h; go_simp) HX.out ?_
  go_frame
  refine wpAnyH_all (rs := [12]) (by kernel_rfl) (by simp) ?_
  simp only [List.mem_singleton, forall_eq]
  have c5 : WF.cell? ⟨b, 1, none⟩ = some V := (HTW.out.below HBF.out).blk.at (o := 1) rfl
  have f5 : WF.frozen? ⟨b, 1, none⟩ = false := (HTW.out.below HBF.out).blk.free _
  refine wpOp_storeV rfl rfl rfl (w' := WF.setCell ⟨b, 1, none⟩ (.slice (some ⟨g, 0, none⟩) (L.length + 1) cap)) (by go_simp) ?_
  clear c5 f5
  refine ⟨HSX.out _ ((HK.out.below HBF.out HK.out.lt).setOther (by show b ≠ w.heap.size; omega) _), ?_⟩
  refine wpAnyH_done (by kernel_rfl) ?_ _
  refine NoPanic.normal ?_
  rotate_left
  all_goals
    have hbF := HBF.out.size
    have HXF := Lib.hid (HTW.out.below HBF.out)
    have hgb : g ≠ b := fun q => by have := (HOF.out.lt g rfl).1; omega
    have HE4 : (WF.setCell ⟨b, 1, none⟩ (.slice (some ⟨g, 0, none⟩) (L.length + 1) cap)).cell? ⟨w.heap.size, 0, none⟩ = some (.int .u64 (N : Int)) := by
      have := (HK.out.below HBF.out HK.out.lt).setOther (a := ⟨b, 1, none⟩) (by show b ≠ w.heap.size; omega) (.slice (some ⟨g, 0, none⟩) (L.length + 1) cap)
      rw [HEC.out] at this; exact this.at (o := 0) rfl
    obtain ⟨WG, hWG⟩ : ∃ WG, WG = WF.setCell ⟨b, 1, none⟩ (.slice (some ⟨g, 0, none⟩) (L.length + 1) cap) := ⟨_, rfl⟩
    rw [← hWG] at HE4 ⊢
    have HWG := Lib.hid hWG
    clear hWG HX
    go_wp2_with fail
    go_ret2
    have hg1 := grown_set WF ⟨b, 1, none⟩ (.slice (some ⟨g, 0, none⟩) (L.length + 1) cap)
    refine ⟨by rw [← HN.out]; rfl, .slice (some ⟨g, 0, none⟩) (L.length + 1) cap, ⟨?_, ?_, HXT.out.geb, (fun q => hgb (Option.some.inj q)), by rw [List.length_append, List.length_singleton]; have := HL.out; omega⟩, ?_, fun k hk => ?_⟩
    · rw [HWG.out]; exact HXF.out.blk.set 1 _
    · rw [HWG.out]; exact World.ownsRow.kept (OwnV.le HOF.out (by have := HXT.out.size; omega)) hg1 (.inr (fun q => hgb (Option.some.inj q)))
    · rw [HWG.out]; exact ((Trs.of_below HBW.out : Trs [b] w W).trans (Trs.of_below HBF.out)).set (p := ⟨b, 1, none⟩) (by simp) _
    · have := (HOF.out.lt k hk).1; omega
end Go.Proofs.YtockimgedckheaaGreatDoor
set_option maxRecDepth 100000
namespace Go.Proofs.YtockimgedckheaaGreatDoor
open Go.RowKit Go.Shelf
attribute [local go_sem] Oper.semAt_some
theorem cell_belowA {W W' : World} {p : Addr} {v : Value} (h : W.cell? p = some v) (hb : Below W.heap.size W W') : W'.cell? p = some v := (hb.cell (World.block_lt_of_cell? W p h)).trans h
def okB (e : EvL) : Bool := decide (1 ≤ e.n) && decide (e.n ≤ 9007199254740992) && decide (e.tick ≤ 1099511627776) && plainL e.kind && decide (0 ≤ e.conn) && decide (e.conn ≤ 2147483647) && decide (e.text.length ≤ 200)
theorem okB_iff (e : EvL) : okB e = true ↔ e.Ok := by
  unfold okB
  simp only [Bool.and_eq_true, decide_eq_true_eq]
  exact ⟨fun ⟨⟨⟨⟨⟨⟨a, b⟩, c⟩, d⟩, e⟩, f⟩, g⟩ => ⟨a, b, c, d, e, f, g⟩, fun ⟨a, b, c, d, e, f, g⟩ => ⟨⟨⟨⟨⟨⟨a, b⟩, c⟩, d⟩, e⟩, f⟩, g⟩⟩
theorem okB_false (e : EvL) (h : okB e = false) : ¬ e.Ok := fun q => by rw [(okB_iff e).2 q] at h; cases h
def lineR (e : EvL) : List UInt8 := if okB e = true then evLine e else []
def chainR (c : List UInt8) (es : List EvL) : List UInt8 := es.foldl (fun c e => sumL (c ++ lineR e)) c
theorem lineR_len (e : EvL) : (lineR e).length ≤ 1000 := by
  unfold lineR
  split
  · rename_i h; exact evLine_len e ((okB_iff e).1 h)
  · simp
theorem chainR_len (es : List EvL) (c : List UInt8) (h : c.length = 32) : (chainR c es).length = 32 := by
  induction es generalizing c with
  | nil => exact h
  | cons e t ih => exact ih _ (sumL_length _)
theorem chainR_snoc (c : List UInt8) (es : List EvL) (e : EvL) : chainR c (es ++ [e]) = sumL (chainR c es ++ lineR e) := by unfold chainR; rw [List.foldl_append]; rfl
theorem refLine_any (e : EvL) (hk : e.kind.length ≤ 600) (w : World) :
    Calls Tryz.prog 10 #[evA e] w fun x w' => (∃ n, x = .returned (.tuple #[str (lineR e), n])) ∧ Below w.heap.size w w' := by
  unfold lineR
  cases ho : okB e with
  | true => refine (refLine_ok e ((okB_iff e).1 ho) w).mono ?_; rintro x w' ⟨rfl, hb⟩; exact ⟨⟨_, rfl⟩, hb⟩
  | false => refine (refLine_bad e hk (okB_false e ho) w).mono ?_; rintro x w' ⟨rfl, hb⟩; exact ⟨⟨_, rfl⟩, hb⟩
set_option maxHeartbeats 4000000 in
theorem add_bad {w : World} {base b room last : Nat} {V C : Value} {L : List EvL} {ch : List UInt8} (h : TR w base b room V C L last ch) (tick : Nat) (kd : List UInt8) (cn : Int) (tx : List UInt8) (hk600 : kd.length ≤ 600) (ho : ¬ EvL.Ok ⟨last + 1, tick, kd, cn, tx⟩) :
    Calls Tryz.prog 26 #[.pointer (some ⟨b, 0, none⟩), .int .u64 tick, str kd, .int .i64 cn, str tx] w fun x w' => x = .returned (.tuple #[.int .u64 0, .int .i64 4]) ∧ Below w.heap.size w w' := by
  obtain ⟨e, he⟩ : ∃ e : EvL, e = ⟨last + 1, tick, kd, cn, tx⟩ := ⟨_, rfl⟩
  have HCH := Lib.hid (fun v W => chain_bad v e (by rw [he]; exact hk600) (by rw [he]; exact ho) W)
  obtain ⟨N, hN⟩ : ∃ N : Nat, N = last + 1 := ⟨_, rfl⟩
  have hlst := h.lst
  have hwr : IntKind.u64.wrap ((last : Int) + 1) = (N : Int) := by rw [hN]; rw [IntWalk.u64_in _ (by omega)]; omega
  obtain ⟨W, hW⟩ : ∃ W, W = w.alloc (.cells #[.int .u64 (N : Int), .int .u64 tick, str kd, .int .i64 cn, str tx] 29) := ⟨_, rfl⟩
  have hea : evA e = .agg #[.int .u64 (N : Int), .int .u64 tick, str kd, .int .i64 cn, str tx] := by rw [he, hN]; rfl
  have k2 : w.cell? ⟨b, 2, none⟩ = some (.int .u64 (last : Int)) := h.blk.at (o := 2) rfl
  have hbW : Below w.heap.size w W := by rw [hW]; exact (Below.refl _ w).alloc (Nat.le_refl _) _
  have hk5 : Blk W w.heap.size [.int .u64 (N : Int), .int .u64 tick, str kd, .int .i64 cn, str tx] := by rw [hW]; exact Blk.new w _ _
  have k3 : W.cell? ⟨b, 3, none⟩ = some C := (h.below hbW).blk.at (o := 3) rfl
  have e0 : W.cell? ⟨w.heap.size, 0, none⟩ = some (.int .u64 (N : Int)) := hk5.at (o := 0) rfl
  have e1 : W.cell? ⟨w.heap.size, 1, none⟩ = some (.int .u64 tick) := hk5.at (o := 1) rfl
  have e2 : W.cell? ⟨w.heap.size, 2, none⟩ = some (str kd) := hk5.at (o := 2) rfl
  have e3 : W.cell? ⟨w.heap.size, 3, none⟩ = some (.int .i64 cn) := hk5.at (o := 3) rfl
  have e4 : W.cell? ⟨w.heap.size, 4, none⟩ = some (str tx) := hk5.at (o := 4) rfl
  have HBW := Lib.hid hbW
  have HEA := Lib.hid hea
  clear hk5 hea h hbW hN ho he hlst hk600
  go_enter Tryz.func26, Tryz.ntmps26
  go_wp2_with fail
  rw [← hW]
  clear hW k2
  refine wp_region_noPanic ?_
  refine wp_region_held (S := fun W' => W'.cell? ⟨b, 3, none⟩ = some C ∧ W'.cell? ⟨w.heap.size, 0, none⟩ = some (.int .u64 (N : Int)) ∧ W'.cell? ⟨w.heap.size, 1, none⟩ = some (.int .u64 tick) ∧ W'.cell? ⟨w.heap.size, 2, none⟩ = some (str kd) ∧ W'.cell? ⟨w.heap.size, 3, none⟩ = some (.int .i64 cn) ∧ W'.cell? ⟨w.heap.size, 4, none⟩ = some (str tx)) (by kernel_rfl) ?_
  change wpAnyH _ _ _ _ _ _ _ _ (World.drew _)
  obtain ⟨W1, hW1⟩ : ∃ W1, W1 = World.drew W := ⟨_, rfl⟩
  have HB1 := Lib.hid (show Below w.heap.size w W1 from by rw [hW1]; exact HBW.out.drew)
  have HX := Lib.hid (show W1.cell? ⟨b, 3, none⟩ = some C ∧ W1.cell? ⟨w.heap.size, 0, none⟩ = some (.int .u64 (N : Int)) ∧ W1.cell? ⟨w.heap.size, 1, none⟩ = some (.int .u64 tick) ∧ W1.cell? ⟨w.heap.size, 2, none⟩ = some (str kd) ∧ W1.cell? ⟨w.heap.size, 3, none⟩ = some (.int .i64 cn) ∧ W1.cell? ⟨w.heap.size, 4, none⟩ = some (str tx) from by rw [hW1]; exact ⟨k3, e0, e1, e2, e3, e4⟩)
  rw [← hW1]
  clear hW1 k3 e0 e1 e2 e3 e4
  refine takeH 0 28 (.pointer (some ⟨b, 0, none⟩)) rfl rfl (by kernel_rfl) (by kernel_rfl) (by kernel_rfl) (fun _ _ _ h => h) rfl (fun w' h => by obtain ⟨h0, h1, h2, h3, h4, h5⟩ := h; go_simp) HX.out ?_
  go_frame
  refine takeH 1 29 (.pointer (some ⟨b, 0, none⟩)) rfl rfl (by kernel_rfl) (by kernel_rfl) (by kernel_rfl) (fun _ _ _ h => h) rfl (fun w' h => by obtain ⟨h0, h1, h2, h3, h4, h5⟩ := h; go_simp) HX.out ?_
  go_frame
  refine takeH 2 30 (.pointer (some ⟨b, 3, none⟩)) rfl rfl (by kernel_rfl) (by kernel_rfl) (by kernel_rfl) (fun _ _ _ h => h) rfl (fun w' h => by obtain ⟨h0, h1, h2, h3, h4, h5⟩ := h; go_simp) HX.out ?_
  go_frame
  refine takeH 3 31 (C) rfl rfl (by kernel_rfl) (by kernel_rfl) (by kernel_rfl) (fun _ _ _ h => h) rfl (fun w' h => by obtain ⟨h0, h1, h2, h3, h4, h5⟩ := h; go_simp) HX.out ?_
  go_frame
  refine takeH 4 32 (.agg #[.int .u64 (N : Int), .int .u64 tick, str kd, .int .i64 cn, str tx]) rfl rfl (by kernel_rfl) (by kernel_rfl) (by kernel_rfl) (fun _ _ _ h => h) rfl (fun w' h => by obtain ⟨h0, h1, h2, h3, h4, h5⟩ := h; go_simp) HX.out ?_
  go_frame
  refine wpAnyH_all (rs := [5]) (by kernel_rfl) (by simp) ?_
  simp only [List.mem_singleton, forall_eq]
  refine wpOp_callD 33 rfl rfl rfl 58 #[C, .agg #[.int .u64 (N : Int), .int .u64 tick, str kd, .int .i64 cn, str tx]] (by go_simp) ?_
  rw [← HEA.out]
  refine (HCH.out C W1).mono ?_
  rintro x W2 ⟨rfl, hB2⟩
  have HB2 := Lib.hid (HB1.out.trans (hB2.mono HB1.out.size))
  have hX2 := HX.out
  have HX2 := Lib.hid (show W2.cell? ⟨b, 3, none⟩ = some C ∧ W2.cell? ⟨w.heap.size, 0, none⟩ = some (.int .u64 (N : Int)) ∧ W2.cell? ⟨w.heap.size, 1, none⟩ = some (.int .u64 tick) ∧ W2.cell? ⟨w.heap.size, 2, none⟩ = some (str kd) ∧ W2.cell? ⟨w.heap.size, 3, none⟩ = some (.int .i64 cn) ∧ W2.cell? ⟨w.heap.size, 4, none⟩ = some (str tx) from
    ⟨cell_belowA hX2.1 hB2, cell_belowA hX2.2.1 hB2, cell_belowA hX2.2.2.1 hB2, cell_belowA hX2.2.2.2.1 hB2, cell_belowA hX2.2.2.2.2.1 hB2, cell_belowA hX2.2.2.2.2.2 hB2⟩)
  clear hB2 hX2 HX HCH
  have HX := Lib.hid HX2.out
  refine ⟨_, rfl, HX.out, ?_⟩
  go_frame
  refine takeH 6 27 (.tuple #[.slice none 0 0, .int .i64 4]) rfl rfl (by kernel_rfl) (by kernel_rfl) (by kernel_rfl) (fun _ _ _ h => h) rfl (fun w' h => by obtain ⟨h0, h1, h2, h3, h4, h5⟩ := h; go_simp) HX.out ?_
  go_frame
  refine takeH 7 34 (.slice none 0 0) rfl rfl (by kernel_rfl) (by kernel_rfl) (by kernel_rfl) (fun _ _ _ h => h) rfl (fun w' h => by obtain ⟨h0, h1, h2, h3, h4, h5⟩ := h; go_simp) HX.out ?_
  go_frame
  refine takeH 8 35 (.int .i64 4) rfl rfl (by kernel_rfl) (by kernel_rfl) (by kernel_rfl) (fun _ _ _ h => h) rfl (fun w' h => by obtain ⟨h0, h1, h2, h3, h4, h5⟩ := h; go_simp) HX.out ?_
  go_frame
  refine takeH 9 13 (.slice none 0 0) rfl rfl (by kernel_rfl) (by kernel_rfl) (by kernel_rfl) (fun _ _ _ h => h) rfl (fun w' h => by obtain ⟨h0, h1, h2, h3, h4, h5⟩ := h; go_simp) HX.out ?_
  go_frame
  refine takeH 10 14 (.int .i64 4) rfl rfl (by kernel_rfl) (by kernel_rfl) (by kernel_rfl) (fun _ _ _ h => h) rfl (fun w' h => by obtain ⟨h0, h1, h2, h3, h4, h5⟩ := h; go_simp) HX.out ?_
  go_frame
  refine wpAnyH_done (by kernel_rfl) ?_ _
  refine NoPanic.normal ?_
  go_wp2_with fail
  go_ret2
  exact ⟨rfl, HB2.out⟩
set_option maxHeartbeats 2000000 in
theorem refAdd_bad {w : World} {base b room : Nat} {V : Value} {L : List EvL} (h : XT w base b room V L) (tick : Nat) (kd : List UInt8) (cn : Int) (tx : List UInt8) (hk600 : kd.length ≤ 600) (ho : ¬ EvL.Ok ⟨L.length + 1, tick, kd, cn, tx⟩) :
    Calls Tryz.prog 47 #[.pointer (some ⟨b, 0, none⟩), .int .u64 tick, str kd, .int .i64 cn, str tx] w fun x w' => x = .returned (.tuple #[.int .u64 0, .int .i64 4]) ∧ Below w.heap.size w w' := by
  obtain ⟨e, he⟩ : ∃ e : EvL, e = ⟨L.length + 1, tick, kd, cn, tx⟩ := ⟨_, rfl⟩
  have HLN := Lib.hid (fun W => refLine_bad e (by rw [he]; exact hk600) (by rw [he]; exact ho) W)
  obtain ⟨VA, VC, eV, -, -⟩ := h.own.form
  obtain ⟨N, hN⟩ : ∃ N : Nat, N = L.length + 1 := ⟨_, rfl⟩
  have hlen := h.len
  have hwr : IntKind.i64.wrap ((L.length : Int) + 1) = (N : Int) := by rw [hN]; rw [IntWalk.i64_in _ (by omega)]; omega
  have hwu : IntKind.u64.wrap (N : Int) = (N : Int) := IntWalk.u64_in _ (by omega)
  obtain ⟨W, hW⟩ : ∃ W, W = w.alloc (.cells #[.int .u64 (N : Int), .int .u64 tick, str kd, .int .i64 cn, str tx] tEr) := ⟨_, rfl⟩
  have hea : evA e = .agg #[.int .u64 (N : Int), .int .u64 tick, str kd, .int .i64 cn, str tx] := by rw [he, hN]; rfl
  have k1 : w.cell? ⟨b, 1, none⟩ = some V := h.blk.at (o := 1) rfl
  rw [eV] at k1
  have HBW := Lib.hid (show Below w.heap.size w W from by rw [hW]; exact (Below.refl _ w).alloc (Nat.le_refl _) _)
  have HEA := Lib.hid hea
  clear hea h hN ho he eV hk600 hlen
  go_enter Tryz.func47, Tryz.ntmps47
  go_wp2_with fail
  rw [← hW]
  rw [← HEA.out]
  clear hW k1
  refine (HLN.out W).mono ?_
  rintro x W2 ⟨rfl, hB2⟩
  have HB2 := Lib.hid (HBW.out.trans (hB2.mono HBW.out.size))
  clear hB2 HLN
  go_wp2_with fail
  go_ret2
  exact ⟨rfl, HB2.out⟩
end Go.Proofs.YtockimgedckheaaGreatDoor
set_option maxRecDepth 100000
namespace Go.Proofs.YtockimgedckheaaGreatDoor
open Go.RowKit Go.Shelf
attribute [local go_sem] Oper.semAt_some
theorem EvIn.dropR {w : World} {B : Nat} {v : Value} {l : List EvL} (h : EvIn w B v l) (k : Nat) (K : Int) (hK : K = (k : Int)) (hk : k ≤ l.length) : ∃ V, (∀ W, (Instr.slice tErs v (some (.int .i64 K)) none none).run Tryz.prog W = .ok V W) ∧ (∀ W, EvIn W B v l → EvIn W B V (l.drop k)) := by
  subst hK
  obtain ⟨A, c, rfl, h1, h2, h3⟩ := h
  clear h3
  refine ⟨sliced A k l.length c 5, fun W => ?_, fun W hW => ?_⟩
  · rw [run_slice_l W tErs A l.length c Tryz.underlying43 .i64 k (by omega) (by omega)]
    simp [go_sem]
  · obtain ⟨A', c', e, g1, g2, g3⟩ := hW
    injection e with e1 e2 e3
    subst e1; subst e3
    have e4 : (l.drop k).length = l.length - k := by rw [List.length_drop]
    unfold sliced
    refine ⟨_, c - k, by rw [e4], by omega, ⟨by omega, fun hz => ?_⟩, fun hp => ?_⟩
    · by_cases hck : c = k
      · omega
      · rw [if_neg hck] at hz
        have := h2.2 (by simpa using hz)
        omega
    · obtain ⟨g, o, rfl, hg, hc⟩ := g3 (by omega)
      clear g3
      rw [if_neg (show ¬ c = k by omega)]
      refine ⟨g, o + k * 5, by simp [Addr.add_mid], hg, fun j hj i hi => ?_⟩
      rw [List.getElem_drop]
      have := hc (k + j) (show k + j < l.length by omega) i hi
      rw [show o + (k + j) * 5 + i = o + k * 5 + j * 5 + i by omega] at this
      exact this
theorem EvIn.dropV {w : World} {B : Nat} {v : Value} {l : List EvL} (h : EvIn w B v l) (k : Nat) (K : Int) (hK : K = (k : Int)) (hk : k ≤ l.length) : ∃ V, (∀ W, (Instr.slice tEvs v (some (.int .i64 K)) none none).run Tryz.prog W = .ok V W) ∧ (∀ W, EvIn W B v l → EvIn W B V (l.drop k)) := by
  subst hK
  obtain ⟨A, c, rfl, h1, h2, h3⟩ := h
  clear h3
  refine ⟨sliced A k l.length c 5, fun W => ?_, fun W hW => ?_⟩
  · rw [run_slice_l W tEvs A l.length c Tryz.underlying47 .i64 k (by omega) (by omega)]
    simp [go_sem]
  · obtain ⟨A', c', e, g1, g2, g3⟩ := hW
    injection e with e1 e2 e3
    subst e1; subst e3
    have e4 : (l.drop k).length = l.length - k := by rw [List.length_drop]
    unfold sliced
    refine ⟨_, c - k, by rw [e4], by omega, ⟨by omega, fun hz => ?_⟩, fun hp => ?_⟩
    · by_cases hck : c = k
      · omega
      · rw [if_neg hck] at hz
        have := h2.2 (by simpa using hz)
        omega
    · obtain ⟨g, o, rfl, hg, hc⟩ := g3 (by omega)
      clear g3
      rw [if_neg (show ¬ c = k by omega)]
      refine ⟨g, o + k * 5, by simp [Addr.add_mid], hg, fun j hj i hi => ?_⟩
      rw [List.getElem_drop]
      have := hc (k + j) (show k + j < l.length by omega) i hi
      rw [show o + (k + j) * 5 + i = o + k * 5 + j * 5 + i by omega] at this
      exact this
def lastL (room : Nat) (L : List EvL) : List EvL := L.drop (L.length - room)
theorem keep_last (room : Nat) (h1 : 1 ≤ room) (L : List EvL) (e : EvL) : keepL room (lastL room L ++ [e]) = lastL room (L ++ [e]) := by
  unfold keepL lastL
  rw [List.length_append, List.length_singleton, List.length_drop, List.length_append, List.length_singleton]
  by_cases h : L.length < room
  · rw [if_neg (by omega), show L.length - room = 0 by omega, show L.length + 1 - room = 0 by omega]; simp
  · rw [if_pos (by omega), show L.length + 1 - room = (L.length - room) + 1 by omega, ← List.drop_append_of_le_length (by omega), List.drop_drop]
set_option maxHeartbeats 2000000 in
theorem known_any {w : World} {base b room : Nat} {V : Value} {L : List EvL} (h : XT w base b room V L) (hr : room ≤ 1000) :
    Calls Tryz.prog 14 #[.pointer (some ⟨b, 0, none⟩)] w fun x w' => ∃ v q, x = .returned v ∧ EvIn w w.heap.size v (lastL room L) ∧ w' = w.drewN q := by
  have hle := h.len
  obtain ⟨VA, VC, eV, -, -⟩ := h.own.form
  have hin := h.own.evIn
  have k0 : w.cell? ⟨b, 0, none⟩ = some (.int .i64 (room : Int)) := h.blk.at (o := 0) rfl
  have k1 : w.cell? ⟨b, 1, none⟩ = some V := h.blk.at (o := 1) rfl
  rw [eV] at k1 hin
  have hwr : IntKind.i64.wrap ((L.length : Int) - (room : Int)) = (L.length : Int) - (room : Int) := IntWalk.i64_in _ (by omega)
  have hmx : max ((L.length : Int) - (room : Int)) 0 = ((L.length - room : Nat) : Int) := by omega
  obtain ⟨v, hsl, hev⟩ := hin.dropR (L.length - room) _ hmx (by omega)
  have hev2 := hev w hin
  have HEV := Lib.hid (show EvIn w w.heap.size v (lastL room L) from by unfold lastL; exact hev2)
  have hm0 : (0 : Int) ≤ max ((L.length : Int) - (room : Int)) 0 := by omega
  have hm1 : max ((L.length : Int) - (room : Int)) 0 ≤ (L.length : Int) := by omega
  clear hev hev2 hin h eV hle hmx
  obtain ⟨K, hK⟩ : ∃ K : Int, K = max ((L.length : Int) - (room : Int)) 0 := ⟨_, rfl⟩
  rw [← hK] at hsl hm0 hm1
  have hK2 : max ((L.length : Int) - (room : Int)) 0 = K := hK.symm
  clear hK
  go_enter Tryz.func14, Tryz.ntmps14
  go_wp2_with fail
  go_quiet (fail)
  go_wp2_with fail
  go_ret
  exact ⟨_, _, rfl, HEV.out, rfl⟩
theorem strCells_vb (m : List UInt8) : Lib.strCells ⟨m.toArray⟩ = m.map vb := by
  unfold Lib.strCells vb bn
  simp
theorem wpList_app_str {w : World} {ops : Array Oper} {rest : List Oper} {o : Oper} {a : Act} {Q : Exit → Act → World → Prop} (hgd : o.guard = none) (s x : Operand) (ho : o.op = .call { callee := .builtin .append, args := #[s, x], argTypes := #[56, 9] })
    (base : Nat) (v : Value) (l m : List UInt8) (hs : a.eval s = v) (hown : OwnB w base v l) (hx : a.eval x = str m) (hlen : l.length + m.length ≤ 1000000) (hbase : base ≤ w.heap.size)
    (h : ∀ v' w', OwnB w' base v' (l ++ m) → w.grownBy w' v.ownBlock → wpList Tryz.prog ops Q rest (a.put o.dst v') w') : wpList Tryz.prog ops Q (o :: rest) a w := by
  obtain ⟨i0, hi, hz0, hz1, hz2⟩ := info_parts info_b
  have hz : (ByteArray.mk m.toArray).size = m.length := by simp [ByteArray.size]
  refine Lib.wpList_append_own_string w hgd s x 56 9 ho base 5 i0 Tryz.underlying56 Tryz.underlying9 hi hz0 hz1 hz2 v l.length (l.map vb) hs hown ⟨m.toArray⟩ hx (by rw [hz]; unfold maxLen; omega) (by rw [hz]; omega) hbase ?_
  intro v' w' g1 g2 _
  refine h v' w' ?_ g2
  rw [hz, strCells_vb] at g1
  unfold OwnB
  rw [List.length_append, List.map_append]
  exact g1
set_option maxHeartbeats 4000000 in
theorem refChain_any (B : Nat) (v : Value) (f : List UInt8) (vl : Value) (l : List EvL) (w : World) (hv : Sl w B v f) (hB : B ≤ w.heap.size) (hf : f.length ≤ 100) (hl : EvIn w B vl l) (hll : l.length ≤ 1000) (hk : ∀ e ∈ l, e.kind.length ≤ 600) (hT : TabB w) (hG : 3 < w.heap.size) :
    Calls Tryz.prog 23 #[v, vl] w fun e w' => ∃ v', e = .returned v' ∧ Sl w' w'.heap.size v' (chainR f l) ∧ Below w.heap.size w w' := by
  have HV := Lib.hid hv
  have HT := Lib.hid hT
  have HKL := Lib.hid hk
  have HLI := Lib.hid hl
  have HF := Lib.hid hf
  obtain ⟨AL, cL, rfl, k1, ⟨k2, _⟩, -⟩ := hl
  clear hv hT hk hf
  go_enter Tryz.func23, Tryz.ntmps23
  go_wp2_with fail
  go_loopw [0, 11] (fun c i wr => ∃ k : Nat, k ≤ l.length ∧ i = .int .i64 (k : Int) ∧ Sl wr wr.heap.size c (chainR f (l.take k)) ∧ Below w.heap.size w wr) (fun _ i _ => l.length - (intOf i).toNat)
  case atStart => exact ⟨0, by omega, rfl, by rw [List.take_zero]; exact HV.out.more hB, Below.refl _ _⟩
  case round =>
    obtain ⟨k, hkl, rfl, hs, hb⟩ := hrel
    have HS := Lib.hid hs
    have HB := Lib.hid hb
    clear hs hb
    by_cases hlt : k < l.length
    · obtain ⟨g0, o0, hAs, hgl, c0, c1, c2, c3, c4⟩ := (HLI.out.below HB.out hB).five k hlt
      subst hAs
      obtain ⟨y, hy⟩ : ∃ y, y = l[k] := ⟨_, rfl⟩
      rw [← hy] at c0 c1 c2 c3 c4
      have hyk : y.kind.length ≤ 600 := by rw [hy]; exact HKL.out _ (List.getElem_mem hlt)
      have htk : chainR f (l.take (k + 1)) = sumL (chainR f (l.take k) ++ lineR y) := by
        rw [List.take_succ_eq_append_getElem hlt, chainR_snoc, ← hy]
      have hfl : (chainR f (l.take k)).length ≤ 100 := by
        cases k with
        | zero => rw [List.take_zero]; exact HF.out
        | succ j =>
          rw [List.take_succ_eq_append_getElem (show j < l.length by omega), chainR_snoc, sumL_length]; omega
      obtain ⟨F, hF⟩ : ∃ F, F = chainR f (l.take k) := ⟨_, rfl⟩
      rw [← hF] at htk hfl HS
      have HTK := Lib.hid htk
      obtain ⟨A2, hA2⟩ : ∃ A2, A2 = wr.alloc (.cells #[.int .u64 y.n, .int .u64 y.tick, str y.kind, .int .i64 y.conn, str y.text] tEr) := ⟨_, rfl⟩
      have HBA := Lib.hid (show Below wr.heap.size wr A2 from by rw [hA2]; exact (Below.refl _ wr).alloc (Nat.le_refl _) _)
      have HLN := Lib.hid (refLine_any y hyk A2)
      have HLL := Lib.hid (lineR_len y)
      clear htk hF hy hyk
      unfold evA at HLN
      generalize lineR y = X at HLN HLL HTK
      go_wp2_with fail
      rw [← hA2]
      refine HLN.out.mono ?_
      rintro r w3 ⟨⟨nn, rfl⟩, hb3⟩
      have HB3 := Lib.hid (HBA.out.trans (hb3.mono HBA.out.size))
      clear hb3 hA2 c0 c1 c2 c3 c4 HLN
      go_wp2_with fail
      have hzr := HB3.out.size
      refine (copy_any wr.heap.size u0 F w3 (HS.out.below HB3.out (Nat.le_refl _)) hzr (by omega)).mono ?_
      rintro r w4 ⟨v4, rfl, hO4, hb4⟩
      have HB4 := Lib.hid (HB3.out.trans (hb4.mono hzr))
      have HO4 := Lib.hid hO4
      have hz4 := hb4.size
      clear hb4 hO4
      go_wp2_with (at_builtin; (refine wpList_app_str rfl (.tmp 21) (.tmp 22) rfl w3.heap.size v4 F X rfl HO4.out rfl (by have := HLL.out; omega) hz4 ?_); intro v5 w5 hO5 hg5; have HB5 := Lib.hid (HB4.out.trans ((HO4.out.belowBase hg5 hz4).mono hzr)); have HO5 := Lib.hid hO5; clear hO5 hg5)
      have hGl : 3 < w5.heap.size := by have := HB5.out.size; have := HB.out.size; omega
      refine (refSum_any w5.heap.size v5 (F ++ X) w5 ((HT.out.below HB.out hG).below HB5.out (by have := HB.out.size; omega)) hGl HO5.out.sl (Nat.le_refl _) (by rw [List.length_append]; have := HLL.out; omega)).mono ?_
      rintro r w6 ⟨v6, rfl, hO6, hb6⟩
      have HB6 := Lib.hid (HB5.out.trans (hb6.mono HB5.out.size))
      have HO6 := Lib.hid hO6
      clear hb6 hO6
      go_wp2_with fail
      go_roundw
      case rel => exact ⟨k + 1, by omega, by go_num, by rw [HTK.out]; exact HO6.out.sl, HB.out.trans (HB6.out.mono HB.out.size)⟩
      case measure => simp [intOf]; omega
    · have hkx : k = l.length := by omega
      rw [hkx, List.take_length] at HS
      go_wp2_with fail
      go_ret
      exact ⟨_, rfl, HS.out, HB.out⟩
end Go.Proofs.YtockimgedckheaaGreatDoor
