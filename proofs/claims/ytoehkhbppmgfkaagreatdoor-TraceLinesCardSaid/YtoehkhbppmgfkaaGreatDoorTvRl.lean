/- trace: the reference: Plain, Dec, Line. (The part of TvR that TraceLines wants.) -/
import Derived.Test.YtoehkhbppmgfkaaGreatDoorTcLn
import Derived.Test.YtoehkhbppmgfkaaGreatDoorRefHexN
import Derived.Test.YtoehkhbppmgfkaaGreatDoorStrI
import Derived.Deep.QuietTactic
import Derived.Test.YtoehkhbppmgfkaaGreatDoorTvA
import Derived.StillTailTactics
import Derived.Lib.AppendStr
import Derived.BigQuiet
set_option maxRecDepth 100000
namespace Go.Proofs.YtoehkhbppmgfkaaGreatDoor
open Go.RowKit Go.Shelf
attribute [local go_sem] Oper.semAt_some
theorem take_snocV (s : List UInt8) (k : Nat) (hk : k < s.length) : s.take (k + 1) = s.take k ++ [s[k]] := List.take_succ_eq_append_getElem hk
set_option maxHeartbeats 4000000 in
theorem refPlain_any (s : List UInt8) (w : World) (hs : s.length ≤ 600) : Calls Tryz.prog 19 #[str s] w fun e w' => e = .returned (.bool (plainL s)) ∧ w = w' := by
  have hp : plainL s = (s.all plB && decide (1 ≤ s.length) && decide (s.length ≤ 32)) := rfl
  obtain ⟨P, hP⟩ : ∃ P, P = plainL s := ⟨_, rfl⟩
  rw [← hP] at hp ⊢
  clear hP
  have HP := Lib.hid hp; clear hp
  go_enter Tryz.func19, Tryz.ntmps19
  go_wp2_with fail
  go_loop [3] (fun i => ∃ k : Nat, k ≤ s.length ∧ i = .int .i64 (k : Int) ∧ (s.take k).all plB = true) (fun i => s.length - (intOf i).toNat)
  case atStart => exact ⟨0, by omega, rfl, rfl⟩
  case round =>
    obtain ⟨k, hk, rfl, hall⟩ := hrel
    by_cases hlt : k < s.length
    · have hik : (Instr.index 9 (str s) (.int .i64 (k : Int))).run Tryz.prog w = .ok (vb (s.getD k 0)) w := str_index s k hlt w
      have hts := take_snocV s k hlt
      have hgx : s.getD k 0 = s[k] := by rw [List.getD_eq_getElem?_getD, List.getElem?_eq_getElem hlt]; rfl
      rw [← hgx] at hts
      have hmem : s.getD k 0 ∈ s := by rw [hgx]; exact List.getElem_mem hlt
      obtain ⟨x, hx⟩ : ∃ x, x = s.getD k 0 := ⟨_, rfl⟩
      rw [← hx] at hik hts hmem
      clear hx hgx
      have hyes : plB x = true → (s.take (k + 1)).all plB = true := fun e => by rw [hts, List.all_append, hall]; simp [e]
      have hno : plB x = false → P = false := fun e => by
        rw [HP.out]
        have : s.all plB = false := by
          rw [← Bool.not_eq_true]
          intro h
          rw [List.all_eq_true] at h
          have := h x hmem
          rw [e] at this
          exact absurd this (by decide)
        rw [this]; rfl
      have HYES := Lib.hid hyes
      have HNO := Lib.hid hno
      have hlx := x.toNat_lt
      clear hts hmem hall hyes hno
      have hpx : plB x = ((decide (97 ≤ x.toNat) && decide (x.toNat ≤ 122)) || (decide (48 ≤ x.toNat) && decide (x.toNat ≤ 57)) || x.toNat == 45 || x.toNat == 95) := rfl
      have hv : vb x = .int .u8 (x.toNat : Int) := rfl
      rw [hv] at hik
      obtain ⟨X, hX⟩ : ∃ X, X = x.toNat := ⟨_, rfl⟩
      rw [← hX] at hik hlx hpx
      obtain ⟨pb, hpb⟩ : ∃ pb, pb = plB x := ⟨_, rfl⟩
      rw [← hpb] at hpx HYES HNO
      clear hv hX hpb
      rcases (show (0 ≤ X ∧ X ≤ 44) ∨ (45 ≤ X ∧ X ≤ 45) ∨ (46 ≤ X ∧ X ≤ 47) ∨ (48 ≤ X ∧ X ≤ 57) ∨ (58 ≤ X ∧ X ≤ 94) ∨ (95 ≤ X ∧ X ≤ 95) ∨ (96 ≤ X ∧ X ≤ 96) ∨ (97 ≤ X ∧ X ≤ 122) ∨ (123 ≤ X ∧ X ≤ 255) by omega) with ⟨hr1, hr2⟩ | ⟨hr1, hr2⟩ | ⟨hr1, hr2⟩ | ⟨hr1, hr2⟩ | ⟨hr1, hr2⟩ | ⟨hr1, hr2⟩ | ⟨hr1, hr2⟩ | ⟨hr1, hr2⟩ | ⟨hr1, hr2⟩
      · have hpv : pb = false := by rw [hpx]; simp only [Bool.or_eq_false_iff, Bool.and_eq_false_iff, decide_eq_false_iff_not, beq_eq_false_iff_ne, ne_eq]; omega
        subst hpv
        have e45 : ((X : Int) == 45) = false := by rw [beq_eq_false_iff_ne]; omega
        have e95 : ((X : Int) == 95) = false := by rw [beq_eq_false_iff_ne]; omega
        have g1 : (0 : Int) ≤ (X : Int) := by omega
        have g2 : (X : Int) ≤ 44 := by omega
        clear hpx
        obtain rfl := HNO.out rfl
        go_wp2_with fail
        go_ret
        exact ⟨rfl, rfl⟩
      · have hpv : pb = true := by rw [hpx]; simp only [Bool.or_eq_true, Bool.and_eq_true, decide_eq_true_eq, beq_iff_eq]; omega
        subst hpv
        obtain rfl : X = 45 := by omega
        have eX : ((45 : Nat) : Int) = 45 := rfl
        rw [eX] at hik
        clear hr1 hr2 eX hpx
        go_wp2_with fail
        go_round
        case rel => exact ⟨k + 1, by omega, by go_num, HYES.out rfl⟩
        case measure => simp [intOf]; omega
      · have hpv : pb = false := by rw [hpx]; simp only [Bool.or_eq_false_iff, Bool.and_eq_false_iff, decide_eq_false_iff_not, beq_eq_false_iff_ne, ne_eq]; omega
        subst hpv
        have e45 : ((X : Int) == 45) = false := by rw [beq_eq_false_iff_ne]; omega
        have e95 : ((X : Int) == 95) = false := by rw [beq_eq_false_iff_ne]; omega
        have g1 : (46 : Int) ≤ (X : Int) := by omega
        have g2 : (X : Int) ≤ 47 := by omega
        clear hpx
        obtain rfl := HNO.out rfl
        go_wp2_with fail
        go_ret
        exact ⟨rfl, rfl⟩
      · have hpv : pb = true := by rw [hpx]; simp only [Bool.or_eq_true, Bool.and_eq_true, decide_eq_true_eq, beq_iff_eq]; omega
        subst hpv
        have e45 : ((X : Int) == 45) = false := by rw [beq_eq_false_iff_ne]; omega
        have e95 : ((X : Int) == 95) = false := by rw [beq_eq_false_iff_ne]; omega
        have g1 : (48 : Int) ≤ (X : Int) := by omega
        have g2 : (X : Int) ≤ 57 := by omega
        clear hpx
        go_wp2_with fail
        go_round
        case rel => exact ⟨k + 1, by omega, by go_num, HYES.out rfl⟩
        case measure => simp [intOf]; omega
      · have hpv : pb = false := by rw [hpx]; simp only [Bool.or_eq_false_iff, Bool.and_eq_false_iff, decide_eq_false_iff_not, beq_eq_false_iff_ne, ne_eq]; omega
        subst hpv
        have e45 : ((X : Int) == 45) = false := by rw [beq_eq_false_iff_ne]; omega
        have e95 : ((X : Int) == 95) = false := by rw [beq_eq_false_iff_ne]; omega
        have g1 : (58 : Int) ≤ (X : Int) := by omega
        have g2 : (X : Int) ≤ 94 := by omega
        have d57 : decide ((X : Int) ≤ 57) = false := decide_eq_false (by omega)
        clear hpx
        obtain rfl := HNO.out rfl
        go_wp2_with fail
        go_ret
        exact ⟨rfl, rfl⟩
      · have hpv : pb = true := by rw [hpx]; simp only [Bool.or_eq_true, Bool.and_eq_true, decide_eq_true_eq, beq_iff_eq]; omega
        subst hpv
        obtain rfl : X = 95 := by omega
        have eX : ((95 : Nat) : Int) = 95 := rfl
        rw [eX] at hik
        clear hr1 hr2 eX hpx
        go_wp2_with fail
        go_round
        case rel => exact ⟨k + 1, by omega, by go_num, HYES.out rfl⟩
        case measure => simp [intOf]; omega
      · have hpv : pb = false := by rw [hpx]; simp only [Bool.or_eq_false_iff, Bool.and_eq_false_iff, decide_eq_false_iff_not, beq_eq_false_iff_ne, ne_eq]; omega
        subst hpv
        obtain rfl : X = 96 := by omega
        have eX : ((96 : Nat) : Int) = 96 := rfl
        rw [eX] at hik
        clear hr1 hr2 eX hpx
        obtain rfl := HNO.out rfl
        go_wp2_with fail
        go_ret
        exact ⟨rfl, rfl⟩
      · have hpv : pb = true := by rw [hpx]; simp only [Bool.or_eq_true, Bool.and_eq_true, decide_eq_true_eq, beq_iff_eq]; omega
        subst hpv
        have e45 : ((X : Int) == 45) = false := by rw [beq_eq_false_iff_ne]; omega
        have e95 : ((X : Int) == 95) = false := by rw [beq_eq_false_iff_ne]; omega
        have g1 : (97 : Int) ≤ (X : Int) := by omega
        have g2 : (X : Int) ≤ 122 := by omega
        clear hpx
        go_wp2_with fail
        go_round
        case rel => exact ⟨k + 1, by omega, by go_num, HYES.out rfl⟩
        case measure => simp [intOf]; omega
      · have hpv : pb = false := by rw [hpx]; simp only [Bool.or_eq_false_iff, Bool.and_eq_false_iff, decide_eq_false_iff_not, beq_eq_false_iff_ne, ne_eq]; omega
        subst hpv
        have e45 : ((X : Int) == 45) = false := by rw [beq_eq_false_iff_ne]; omega
        have e95 : ((X : Int) == 95) = false := by rw [beq_eq_false_iff_ne]; omega
        have g1 : (123 : Int) ≤ (X : Int) := by omega
        have g2 : (X : Int) ≤ 255 := by omega
        have d57 : decide ((X : Int) ≤ 57) = false := decide_eq_false (by omega)
        have d122 : decide ((X : Int) ≤ 122) = false := decide_eq_false (by omega)
        clear hpx
        obtain rfl := HNO.out rfl
        go_wp2_with fail
        go_ret
        exact ⟨rfl, rfl⟩
    · obtain rfl : k = s.length := by omega
      rw [List.take_length] at hall
      have hp := HP.out
      rw [hall, Bool.true_and] at hp
      clear HP
      by_cases h1 : 1 ≤ s.length <;> by_cases h32 : s.length ≤ 32
      · obtain rfl : P = true := by rw [hp, decide_eq_true h1, decide_eq_true h32]; rfl
        have h1' : (1 : Int) ≤ (s.length : Int) := by omega
        have h2' : (s.length : Int) ≤ 32 := by omega
        clear hp
        go_wp2_with fail
        go_ret
        first | exact ⟨rfl, rfl⟩ | exact ⟨by simp, rfl⟩
      · obtain rfl : P = false := by rw [hp, decide_eq_false h32, Bool.and_false]
        have h1' : (1 : Int) ≤ (s.length : Int) := by omega
        have h2' : ¬ (s.length : Int) ≤ 32 := by omega
        clear hp
        go_wp2_with fail
        go_ret
        first | exact ⟨rfl, rfl⟩ | exact ⟨by simp, rfl⟩ | exact ⟨by simp; omega, rfl⟩
      · obtain rfl : P = false := by rw [hp, decide_eq_false h1, Bool.false_and]
        have h1' : ¬ (1 : Int) ≤ (s.length : Int) := by omega
        clear hp
        go_wp2_with fail
        go_ret
        first | exact ⟨rfl, rfl⟩ | exact ⟨by simp, rfl⟩ | exact ⟨by simp; omega, rfl⟩
      · exfalso; omega
theorem dec_sign (m : Nat) (h : m < 10) (W : World) : (Instr.slice 9 (str [48, 49, 50, 51, 52, 53, 54, 55, 56, 57]) (some (.int .u64 (m : Int))) (some (.int .u64 ((m : Int) + 1))) none).run Tryz.prog W = .ok (str [UInt8.ofNat (48 + m)]) W := by
  rcases (show m = 0 ∨ m = 1 ∨ m = 2 ∨ m = 3 ∨ m = 4 ∨ m = 5 ∨ m = 6 ∨ m = 7 ∨ m = 8 ∨ m = 9 by omega) with rfl | rfl | rfl | rfl | rfl | rfl | rfl | rfl | rfl | rfl <;> go_simp <;> rfl
set_option maxHeartbeats 2000000 in
theorem refDec_any (n : Nat) (w : World) (hn : n ≤ 9223372036854775807) :
    Calls Tryz.prog 20 #[.int .u64 (n : Int)] w fun e w' => e = .returned (str (Lib.decDigits n)) ∧ Below w.heap.size w w' := by
  obtain ⟨R, hR⟩ : ∃ R, R = Lib.decDigits n := ⟨_, rfl⟩
  rw [← hR]
  have hRl : R.length ≤ 20 := by rw [hR, Lib.decDigits_length]; exact Lib.nDigits_le20 n (by omega)
  have HR := Lib.hid hR; clear hR
  go_enter Tryz.func20, Tryz.ntmps20
  go_wp2_with fail
  go_loop [0, 3] (fun a s => ∃ (k : Nat) (l : List UInt8), k ≤ 9223372036854775807 ∧ a = .int .u64 (k : Int) ∧ s = str l ∧ Lib.decDigits k ++ l = R) (fun a _ => (intOf a).toNat)
  case atStart => exact ⟨n, [], hn, rfl, rfl, by rw [List.append_nil, HR.out]⟩
  case round =>
    obtain ⟨k, l, hk, rfl, rfl, hl⟩ := hrel
    have hll : l.length ≤ 20 := by
      have := congrArg List.length hl
      rw [List.length_append] at this
      omega
    obtain ⟨q, hq⟩ : ∃ q, q = k / 10 := ⟨_, rfl⟩
    obtain ⟨m, hm⟩ : ∃ m, m = k % 10 := ⟨_, rfl⟩
    have hm10 : m < 10 := by omega
    have hkq : k = 10 * q + m := by omega
    have e1 : (k : Int) % 10 = (m : Int) := by omega
    have e2 : (k : Int) / 10 = (q : Int) := by omega
    have hs := dec_sign m hm10 w
    have hstep : k < 10 → l = l ∧ UInt8.ofNat (48 + m) :: l = R := fun h => ⟨rfl, by
      rw [← hl, Lib.decDigits_one h, show m = k by omega]; rfl⟩
    have hmore : ¬ k < 10 → Lib.decDigits q ++ UInt8.ofNat (48 + m) :: l = R := fun h => by
      have hd : Lib.decDigits k = Lib.decDigits q ++ [UInt8.ofNat (48 + m)] := by
        rw [Lib.decDigits, dif_neg h, hq, hm]
      rw [← hl, hd]; simp
    have HST := Lib.hid hstep
    have HMO := Lib.hid hmore
    clear hstep hmore hl hq hm
    obtain ⟨c, hc⟩ : ∃ c, c = UInt8.ofNat (48 + m) := ⟨_, rfl⟩
    rw [← hc] at hs HST HMO
    clear hc
    by_cases h10 : k < 10
    · obtain rfl : q = 0 := by omega
      have e0 : ((0 : Nat) : Int) = 0 := rfl
      rw [e0] at e2
      have HE := Lib.hid (HST.out h10).2
      clear hkq HMO HST
      go_wp2_with fail
      go_ret
      exact ⟨by rw [← HE.out]; rfl, Below.refl _ _⟩
    · have hq0 : ((q : Int) == 0) = false := by rw [beq_eq_false_iff_ne]; omega
      have hqk : q < k := by omega
      have HE := Lib.hid (HMO.out h10)
      have hq9 : q ≤ 9223372036854775807 := by omega
      clear hkq HMO HST
      go_wp2_with fail
      go_round
      case rel => exact ⟨q, c :: l, by omega, rfl, rfl, HE.out⟩
      case measure => simp [intOf]; omega
theorem bytes_add (a b : List UInt8) : ByteArray.mk a.toArray ++ ByteArray.mk b.toArray = ByteArray.mk (a ++ b).toArray := by
  apply ByteArray.ext; simp [ByteArray.data_append]
set_option maxHeartbeats 4000000 in
theorem refLine_ok (e : EvL) (ho : e.Ok) (w : World) :
    Calls Tryz.prog 7 #[evA e] w fun x w' => x = .returned (.tuple #[str (evLine e), .int .i64 0]) ∧ Below w.heap.size w w' := by
  obtain ⟨n, t, k, c, s⟩ := e
  obtain ⟨o1, o2, o3, o4, o5, o6, o7⟩ := ho
  simp only at o1 o2 o3 o4 o5 o6 o7
  have hk32 : k.length ≤ 32 := by
    unfold plainL at o4
    simp only [Bool.and_eq_true, decide_eq_true_eq] at o4
    omega
  have HPL := Lib.hid (fun W => refPlain_any k W (by omega))
  rw [o4] at HPL
  have HF1 := Lib.hid (fun W => refDec_any n W (by omega))
  have HF2 := Lib.hid (fun W => refDec_any t W (by omega))
  have hcn : Lib.itoa c = Lib.decDigits c.toNat := by unfold Lib.itoa; rw [if_neg (by omega)]
  have hwc : IntKind.u64.wrap c = c := IntWalk.u64_in c ⟨by omega, by omega⟩
  have HF3 := Lib.hid (fun W => show Calls Tryz.prog 20 #[.int .u64 c] W _ from by
    have := refDec_any c.toNat W (by omega)
    rw [show ((c.toNat : Nat) : Int) = c by omega] at this
    exact this)
  have l1 : (Lib.decDigits n).length ≤ 20 := by rw [Lib.decDigits_length]; exact Lib.nDigits_le20 n (by omega)
  have l2 : (Lib.decDigits t).length ≤ 20 := by rw [Lib.decDigits_length]; exact Lib.nDigits_le20 t (by omega)
  have l3 : (Lib.decDigits c.toNat).length ≤ 20 := by rw [Lib.decDigits_length]; exact Lib.nDigits_le20 _ (by omega)
  unfold evLine
  simp only [hcn]
  generalize Lib.decDigits n = D1 at HF1 l1 ⊢
  generalize Lib.decDigits t = D2 at HF2 l2 ⊢
  generalize Lib.decDigits c.toNat = D3 at HF3 l3 ⊢
  clear hcn
  have i1 : decide ((n : Int) < 1) = false := decide_eq_false (by omega)
  have i2 : decide ((9007199254740992 : Int) < (n : Int)) = false := decide_eq_false (by omega)
  have i3 : decide ((1099511627776 : Int) < (t : Int)) = false := decide_eq_false (by omega)
  have i5 : decide (c < 0) = false := decide_eq_false (by omega)
  have i6 : decide (2147483647 < c) = false := decide_eq_false (by omega)
  have i7 : decide ((200 : Int) < (s.length : Int)) = false := decide_eq_false (by omega)
  obtain ⟨W, hW⟩ : ∃ W, W = w.alloc (.cells #[.int .u64 n, .int .u64 t, str k, .int .i64 c, str s] 24) := ⟨_, rfl⟩
  have HB0 := Lib.hid (show Below w.heap.size w W from by rw [hW]; exact (Below.refl _ w).alloc (Nat.le_refl _) _)
  have HK0 := Lib.hid (show Blk W w.heap.size [.int .u64 n, .int .u64 t, str k, .int .i64 c, str s] from by rw [hW]; exact Blk.new w _ _)
  have HSIX := Lib.hid (fun W (h : Blk W w.heap.size [.int .u64 n, .int .u64 t, str k, .int .i64 c, str s]) => (show W.cell? ⟨w.heap.size, 0, none⟩ = some (.int .u64 n) ∧ W.cell? ⟨w.heap.size, 1, none⟩ = some (.int .u64 t) ∧ W.cell? ⟨w.heap.size, 2, none⟩ = some (str k) ∧ W.cell? ⟨w.heap.size, 3, none⟩ = some (.int .i64 c) ∧ W.cell? ⟨w.heap.size, 4, none⟩ = some (str s) from ⟨h.at (o := 0) rfl, h.at (o := 1) rfl, h.at (o := 2) rfl, h.at (o := 3) rfl, h.at (o := 4) rfl⟩))
  clear o1 o2 o3 o4 o5 o6
  unfold evA
  simp only
  go_enter Tryz.func7, Tryz.ntmps7
  go_wp2_with fail
  rw [← hW]
  clear hW
  refine (HPL.out W).mono ?_
  rintro e w1 ⟨rfl, hw⟩
  subst hw
  obtain ⟨q0, q1, q2, q3, q4⟩ := HSIX.out W HK0.out
  go_wp2_with fail
  refine wp_region_noPanic ?_
  refine wp_region_held (S := fun W => W.cell? ⟨w.heap.size, 0, none⟩ = some (.int .u64 n) ∧ W.cell? ⟨w.heap.size, 1, none⟩ = some (.int .u64 t) ∧ W.cell? ⟨w.heap.size, 2, none⟩ = some (str k) ∧ W.cell? ⟨w.heap.size, 3, none⟩ = some (.int .i64 c) ∧ W.cell? ⟨w.heap.size, 4, none⟩ = some (str s)) (by kernel_rfl) ?_
  change wpAnyH _ _ _ _ _ _ _ _ (World.drew _)
  obtain ⟨V1, hV1⟩ : ∃ V, V = World.drew W := ⟨_, rfl⟩
  have HK1 := Lib.hid (show Blk V1 w.heap.size _ from by rw [hV1]; exact HK0.out.drew)
  have HB1 := Lib.hid (show Below w.heap.size w V1 from by rw [hV1]; exact HB0.out.drew)
  rw [← hV1]
  clear hV1
  have HX := Lib.hid (HSIX.out _ HK1.out)
  refine takeH 0 40 (.pointer (some ⟨w.heap.size, 0, none⟩)) rfl rfl (by kernel_rfl) (by kernel_rfl) (by kernel_rfl) (fun _ _ _ h => h) rfl (fun w' h => by obtain ⟨h0, h1, h2, h3, h4⟩ := h; go_simp) HX.out ?_
  go_frame
  refine takeH 1 41 (.int .u64 n) rfl rfl (by kernel_rfl) (by kernel_rfl) (by kernel_rfl) (fun _ _ _ h => h) rfl (fun w' h => by obtain ⟨h0, h1, h2, h3, h4⟩ := h; go_simp) HX.out ?_
  go_frame
  refine takeH 4 44 (.pointer (some ⟨w.heap.size, 1, none⟩)) rfl rfl (by kernel_rfl) (by kernel_rfl) (by kernel_rfl) (fun _ _ _ h => h) rfl (fun w' h => by obtain ⟨h0, h1, h2, h3, h4⟩ := h; go_simp) HX.out ?_
  go_frame
  refine takeH 5 45 (.int .u64 t) rfl rfl (by kernel_rfl) (by kernel_rfl) (by kernel_rfl) (fun _ _ _ h => h) rfl (fun w' h => by obtain ⟨h0, h1, h2, h3, h4⟩ := h; go_simp) HX.out ?_
  go_frame
  refine takeH 9 49 (.pointer (some ⟨w.heap.size, 2, none⟩)) rfl rfl (by kernel_rfl) (by kernel_rfl) (by kernel_rfl) (fun _ _ _ h => h) rfl (fun w' h => by obtain ⟨h0, h1, h2, h3, h4⟩ := h; go_simp) HX.out ?_
  go_frame
  refine takeH 10 50 (str k) rfl rfl (by kernel_rfl) (by kernel_rfl) (by kernel_rfl) (fun _ _ _ h => h) rfl (fun w' h => by obtain ⟨h0, h1, h2, h3, h4⟩ := h; go_simp) HX.out ?_
  go_frame
  refine takeH 13 53 (.pointer (some ⟨w.heap.size, 3, none⟩)) rfl rfl (by kernel_rfl) (by kernel_rfl) (by kernel_rfl) (fun _ _ _ h => h) rfl (fun w' h => by obtain ⟨h0, h1, h2, h3, h4⟩ := h; go_simp) HX.out ?_
  go_frame
  refine takeH 14 54 (.int .i64 c) rfl rfl (by kernel_rfl) (by kernel_rfl) (by kernel_rfl) (fun _ _ _ h => h) rfl (fun w' h => by obtain ⟨h0, h1, h2, h3, h4⟩ := h; go_simp) HX.out ?_
  go_frame
  refine takeH 15 55 (.int .u64 c) rfl rfl (by kernel_rfl) (by kernel_rfl) (by kernel_rfl) (fun _ _ _ h => h) rfl (fun w' h => by obtain ⟨h0, h1, h2, h3, h4⟩ := h; go_simp) HX.out ?_
  go_frame
  refine wpAnyH_all (rs := [2]) (by kernel_rfl) (by simp) ?_
  simp only [List.mem_singleton, forall_eq]
  refine wpOp_callD 42 rfl rfl rfl 20 #[.int .u64 n] (by go_simp) ?_
  refine (HF1.out V1).mono ?_
  rintro e V2 ⟨rfl, hB⟩
  have HK2 := Lib.hid (HK1.out.below hB HK1.out.lt)
  have HB2 := Lib.hid (HB1.out.trans (hB.mono HB1.out.size))
  clear hB HX
  have HX := Lib.hid (HSIX.out _ HK2.out)
  refine ⟨_, rfl, HX.out, ?_⟩
  go_frame
  refine takeH 3 43 (str (D1 ++ [32])) rfl rfl (by kernel_rfl) (by kernel_rfl) (by kernel_rfl) (fun _ _ _ h => h) rfl (fun w' h => by have e := bytes_add (D1) ([32]); go_simp; omega) HX.out ?_
  go_frame
  obtain ⟨X1, hX1⟩ : ∃ X, X = D1 ++ [32] := ⟨_, rfl⟩
  have hlX1 : X1.length ≤ 100 := by rw [hX1, List.length_append]; (try simp only [List.length_cons, List.length_nil]); omega
  rw [← hX1]
  have HX1 := Lib.hid hX1; clear hX1
  refine wpAnyH_all (rs := [6]) (by kernel_rfl) (by simp) ?_
  simp only [List.mem_singleton, forall_eq]
  refine wpOp_callD 46 rfl rfl rfl 20 #[.int .u64 t] (by go_simp) ?_
  refine (HF2.out V2).mono ?_
  rintro e V3 ⟨rfl, hB⟩
  have HK3 := Lib.hid (HK2.out.below hB HK2.out.lt)
  have HB3 := Lib.hid (HB2.out.trans (hB.mono HB2.out.size))
  clear hB HX
  have HX := Lib.hid (HSIX.out _ HK3.out)
  refine ⟨_, rfl, HX.out, ?_⟩
  go_frame
  refine takeH 7 47 (str (X1 ++ D2)) rfl rfl (by kernel_rfl) (by kernel_rfl) (by kernel_rfl) (fun _ _ _ h => h) rfl (fun w' h => by have e := bytes_add (X1) (D2); go_simp; omega) HX.out ?_
  go_frame
  obtain ⟨X2, hX2⟩ : ∃ X, X = X1 ++ D2 := ⟨_, rfl⟩
  have hlX2 : X2.length ≤ 200 := by rw [hX2, List.length_append]; (try simp only [List.length_cons, List.length_nil]); omega
  rw [← hX2]
  have HX2 := Lib.hid hX2; clear hX2
  refine takeH 8 48 (str (X2 ++ [32])) rfl rfl (by kernel_rfl) (by kernel_rfl) (by kernel_rfl) (fun _ _ _ h => h) rfl (fun w' h => by have e := bytes_add (X2) ([32]); go_simp; omega) HX.out ?_
  go_frame
  obtain ⟨X3, hX3⟩ : ∃ X, X = X2 ++ [32] := ⟨_, rfl⟩
  have hlX3 : X3.length ≤ 300 := by rw [hX3, List.length_append]; (try simp only [List.length_cons, List.length_nil]); omega
  rw [← hX3]
  have HX3 := Lib.hid hX3; clear hX3
  refine takeH 11 51 (str (X3 ++ k)) rfl rfl (by kernel_rfl) (by kernel_rfl) (by kernel_rfl) (fun _ _ _ h => h) rfl (fun w' h => by have e := bytes_add (X3) (k); go_simp; omega) HX.out ?_
  go_frame
  obtain ⟨X4, hX4⟩ : ∃ X, X = X3 ++ k := ⟨_, rfl⟩
  have hlX4 : X4.length ≤ 400 := by rw [hX4, List.length_append]; (try simp only [List.length_cons, List.length_nil]); omega
  rw [← hX4]
  have HX4 := Lib.hid hX4; clear hX4
  refine takeH 12 52 (str (X4 ++ [32])) rfl rfl (by kernel_rfl) (by kernel_rfl) (by kernel_rfl) (fun _ _ _ h => h) rfl (fun w' h => by have e := bytes_add (X4) ([32]); go_simp; omega) HX.out ?_
  go_frame
  obtain ⟨X5, hX5⟩ : ∃ X, X = X4 ++ [32] := ⟨_, rfl⟩
  have hlX5 : X5.length ≤ 500 := by rw [hX5, List.length_append]; (try simp only [List.length_cons, List.length_nil]); omega
  rw [← hX5]
  have HX5 := Lib.hid hX5; clear hX5
  refine wpAnyH_all (rs := [16]) (by kernel_rfl) (by simp) ?_
  simp only [List.mem_singleton, forall_eq]
  refine wpOp_callD 56 rfl rfl rfl 20 #[.int .u64 c] (by go_simp) ?_
  refine (HF3.out V3).mono ?_
  rintro e V4 ⟨rfl, hB⟩
  have HK4 := Lib.hid (HK3.out.below hB HK3.out.lt)
  have HB4 := Lib.hid (HB3.out.trans (hB.mono HB3.out.size))
  clear hB HX
  have HX := Lib.hid (HSIX.out _ HK4.out)
  refine ⟨_, rfl, HX.out, ?_⟩
  go_frame
  refine takeH 17 57 (str (X5 ++ D3)) rfl rfl (by kernel_rfl) (by kernel_rfl) (by kernel_rfl) (fun _ _ _ h => h) rfl (fun w' h => by have e := bytes_add (X5) (D3); go_simp; omega) HX.out ?_
  go_frame
  obtain ⟨X6, hX6⟩ : ∃ X, X = X5 ++ D3 := ⟨_, rfl⟩
  have hlX6 : X6.length ≤ 600 := by rw [hX6, List.length_append]; (try simp only [List.length_cons, List.length_nil]); omega
  rw [← hX6]
  have HX6 := Lib.hid hX6; clear hX6
  refine takeH 18 58 (str (X6 ++ [32])) rfl rfl (by kernel_rfl) (by kernel_rfl) (by kernel_rfl) (fun _ _ _ h => h) rfl (fun w' h => by have e := bytes_add (X6) ([32]); go_simp; omega) HX.out ?_
  go_frame
  obtain ⟨X7, hX7⟩ : ∃ X, X = X6 ++ [32] := ⟨_, rfl⟩
  have hlX7 : X7.length ≤ 700 := by rw [hX7, List.length_append]; (try simp only [List.length_cons, List.length_nil]); omega
  rw [← hX7]
  have HX7 := Lib.hid hX7; clear hX7
  refine takeH 19 4 (str X7) rfl rfl (by kernel_rfl) (by kernel_rfl) (by kernel_rfl) (fun _ _ _ h => h) rfl (fun w' h => by go_simp) HX.out ?_
  go_frame
  refine wpAnyH_done (by kernel_rfl) ?_ _
  refine NoPanic.normal ?_
  have d4 : V4.cell? ⟨w.heap.size, 4, none⟩ = some (str s) := HK4.out.at (o := 4) rfl
  have hX : ∀ F, X7 ++ F = D1 ++ 32 :: (D2 ++ 32 :: (k ++ 32 :: (D3 ++ 32 :: F))) := fun F => by
    rw [HX7.out, HX6.out, HX5.out, HX4.out, HX3.out, HX2.out, HX1.out]
    simp
  have HFX := Lib.hid hX
  clear hX
  by_cases hs0 : s = []
  · subst hs0
    have e := bytes_add X7 [45]
    have hlast := HFX.out [45]
    have HLA := Lib.hid hlast
    clear hlast
    go_wp2_with fail
    go_ret2
    exact ⟨by rw [show textF [] = [45] from rfl, ← HLA.out]; rfl, HB4.out⟩
  · have hs1 : s.isEmpty = false := str_ne s (fun h => hs0 (List.eq_nil_of_length_eq_zero h))
    obtain ⟨vb, W2, hc, hB2, hv2⟩ := conv_tx s V4 (by omega)
    have HV2 := Lib.hid hv2
    have HB5 := Lib.hid (HB4.out.trans (hB2.mono HB4.out.size))
    clear hv2 hB2
    go_wp2_with fail
    refine (refHex_any _ vb s W2 HV2.out (Nat.le_refl _) (by omega)).mono ?_
    rintro e w3 ⟨rfl, hB⟩
    have HB6 := Lib.hid (HB5.out.trans (hB.mono HB5.out.size))
    have hx : (encH s).length ≤ 1000 := by
      unfold encH; rw [letters_length]; unfold many; omega
    clear hB HV2 hc
    have HTF := Lib.hid (show textF s = encH s from by unfold textF; rw [if_neg hs0])
    generalize encH s = X at hx HTF ⊢
    have e := bytes_add X7 X
    go_wp2_with fail
    go_ret2
    exact ⟨by rw [HTF.out, ← HFX.out X]; rfl, HB6.out⟩
set_option maxHeartbeats 4000000 in
theorem refLine_bad (e : EvL) (hk600 : e.kind.length ≤ 600) (ho : ¬ e.Ok) (w : World) :
    Calls Tryz.prog 7 #[evA e] w fun x w' => x = .returned (.tuple #[str [], .int .i64 4]) ∧ Below w.heap.size w w' := by
  obtain ⟨n, t, k, c, s⟩ := e
  simp only at hk600
  have HPL := Lib.hid (fun W => refPlain_any k W hk600)
  obtain ⟨W, hW⟩ : ∃ W, W = w.alloc (.cells #[.int .u64 n, .int .u64 t, str k, .int .i64 c, str s] 24) := ⟨_, rfl⟩
  have HB0 := Lib.hid (show Below w.heap.size w W from by rw [hW]; exact (Below.refl _ w).alloc (Nat.le_refl _) _)
  have HK0 := Lib.hid (show Blk W w.heap.size [.int .u64 n, .int .u64 t, str k, .int .i64 c, str s] from by rw [hW]; exact Blk.new w _ _)
  have hb : (plainL k = false) ∨ (plainL k = true ∧ (1099511627776 : Int) < (t : Int)) ∨ (plainL k = true ∧ ¬ (1099511627776 : Int) < (t : Int) ∧ c < 0) ∨ (plainL k = true ∧ ¬ (1099511627776 : Int) < (t : Int) ∧ ¬ c < 0 ∧ 2147483647 < c) ∨ (plainL k = true ∧ ¬ (1099511627776 : Int) < (t : Int) ∧ ¬ c < 0 ∧ ¬ 2147483647 < c ∧ (200 : Int) < (s.length : Int))
      ∨ (plainL k = true ∧ ¬ (1099511627776 : Int) < (t : Int) ∧ ¬ c < 0 ∧ ¬ 2147483647 < c ∧ ¬ (200 : Int) < (s.length : Int) ∧ (n : Int) < 1) ∨ (plainL k = true ∧ ¬ (1099511627776 : Int) < (t : Int) ∧ ¬ c < 0 ∧ ¬ 2147483647 < c ∧ ¬ (200 : Int) < (s.length : Int) ∧ ¬ (n : Int) < 1 ∧ (9007199254740992 : Int) < (n : Int)) := by
    cases hp : plainL k with
    | false => exact .inl rfl
    | true =>
      refine .inr ?_
      by_cases i3 : (1099511627776 : Int) < (t : Int)
      · exact .inl ⟨rfl, i3⟩
      by_cases i5 : c < 0
      · exact .inr (.inl ⟨rfl, i3, i5⟩)
      by_cases i6 : 2147483647 < c
      · exact .inr (.inr (.inl ⟨rfl, i3, i5, i6⟩))
      by_cases i7 : (200 : Int) < (s.length : Int)
      · exact .inr (.inr (.inr (.inl ⟨rfl, i3, i5, i6, i7⟩)))
      by_cases i1 : (n : Int) < 1
      · exact .inr (.inr (.inr (.inr (.inl ⟨rfl, i3, i5, i6, i7, i1⟩))))
      by_cases i2 : (9007199254740992 : Int) < (n : Int)
      · exact .inr (.inr (.inr (.inr (.inr ⟨rfl, i3, i5, i6, i7, i1, i2⟩))))
      exact absurd (⟨by show 1 ≤ n; omega, by show n ≤ _; omega, by show t ≤ _; omega, hp, by show 0 ≤ c; omega, by show c ≤ _; omega, by show s.length ≤ _; omega⟩ : EvL.Ok ⟨n, t, k, c, s⟩) ho
  clear ho hk600
  unfold evA
  simp only
  obtain ⟨q0, q1, q2, q3, q4⟩ : W.cell? ⟨w.heap.size, 0, none⟩ = some (.int .u64 n) ∧ W.cell? ⟨w.heap.size, 1, none⟩ = some (.int .u64 t) ∧ W.cell? ⟨w.heap.size, 2, none⟩ = some (str k) ∧ W.cell? ⟨w.heap.size, 3, none⟩ = some (.int .i64 c) ∧ W.cell? ⟨w.heap.size, 4, none⟩ = some (str s) := ⟨HK0.out.at (o := 0) rfl, HK0.out.at (o := 1) rfl, HK0.out.at (o := 2) rfl, HK0.out.at (o := 3) rfl, HK0.out.at (o := 4) rfl⟩
  rcases hb with hp | ⟨hp, i3⟩ | ⟨hp, i3, i5⟩ | ⟨hp, i3, i5, i6⟩ | ⟨hp, i3, i5, i6, i7⟩ | ⟨hp, i3, i5, i6, i7, i1⟩ | ⟨hp, i3, i5, i6, i7, i1, i2⟩
  all_goals
    rw [hp] at HPL
    clear hp
    (try have e3 := decide_eq_false i3)
    (try have e3 := decide_eq_true i3)
    (try have e5 := decide_eq_false i5)
    (try have e5 := decide_eq_true i5)
    (try have e6 := decide_eq_false i6)
    (try have e6 := decide_eq_true i6)
    (try have e7 := decide_eq_false i7)
    (try have e7 := decide_eq_true i7)
    (try have e1 := decide_eq_false i1)
    (try have e1 := decide_eq_true i1)
    (try have e2 := decide_eq_true i2)
    go_enter Tryz.func7, Tryz.ntmps7
    go_wp2_with fail
    rw [← hW]
    clear hW
    refine (HPL.out W).mono ?_
    rintro e w1 ⟨rfl, hw⟩
    subst hw
    go_wp2_with fail
    go_ret2
    exact ⟨rfl, HB0.out⟩
def okB (e : EvL) : Bool := decide (1 ≤ e.n) && decide (e.n ≤ 9007199254740992) && decide (e.tick ≤ 1099511627776) && plainL e.kind && decide (0 ≤ e.conn) && decide (e.conn ≤ 2147483647) && decide (e.text.length ≤ 200)
theorem okB_iff (e : EvL) : okB e = true ↔ e.Ok := by
  unfold okB
  simp only [Bool.and_eq_true, decide_eq_true_eq]
  exact ⟨fun ⟨⟨⟨⟨⟨⟨a, b⟩, c⟩, d⟩, e⟩, f⟩, g⟩ => ⟨a, b, c, d, e, f, g⟩, fun ⟨a, b, c, d, e, f, g⟩ => ⟨⟨⟨⟨⟨⟨a, b⟩, c⟩, d⟩, e⟩, f⟩, g⟩⟩
theorem okB_false (e : EvL) (h : okB e = false) : ¬ e.Ok := fun q => by rw [(okB_iff e).2 q] at h; cases h
end Go.Proofs.YtoehkhbppmgfkaaGreatDoor
