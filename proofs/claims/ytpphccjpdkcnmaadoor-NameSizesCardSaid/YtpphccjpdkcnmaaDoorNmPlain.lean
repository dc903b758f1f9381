/- name: Plain, and the reference's. -/
import Derived.Test.YtpphccjpdkcnmaaDoorNmSizes
import Derived.Shelf.Strings.SlTrimAscii
namespace Go.Proofs.YtpphccjpdkcnmaaDoor
open Go.RowKit Go.Shelf
def plB (b : UInt8) : Bool := (decide (97 ≤ b.toNat) && decide (b.toNat ≤ 122)) || (decide (48 ≤ b.toNat) && decide (b.toNat ≤ 57)) || b.toNat == 45 || b.toNat == 95
def plainL (s : List UInt8) : Bool := s.all plB && decide (1 ≤ s.length) && decide (s.length ≤ 32)
/-- The plain signs. -/
def plF : List UInt8 := [97, 98, 99, 100, 101, 102, 103, 104, 105, 106, 107, 108, 109, 110, 111, 112, 113, 114, 115, 116, 117, 118, 119, 120, 121, 122, 48, 49, 50, 51, 52, 53, 54, 55, 56, 57, 45, 95]
theorem plF_all : ∀ n : Fin 256, plF.contains (UInt8.ofNat n.val) = plB (UInt8.ofNat n.val) := by decide +kernel
theorem plF_has (b : UInt8) : plF.contains b = plB b := by
  have := plF_all ⟨b.toNat, b.toNat_lt⟩
  simpa using this
theorem plF_ascii : ∀ (j : Nat) b, plF[j]? = some b → b.toNat < 128 := by
  intro j b h
  have hm : b ∈ plF := List.mem_of_getElem? h
  have : plB b = true := by rw [← plF_has]; exact List.contains_iff_mem.2 hm
  unfold plB at this
  simp only [Bool.or_eq_true, Bool.and_eq_true, decide_eq_true_eq, beq_iff_eq] at this
  omega
theorem trim_pl (s : List UInt8) : Lib.trimLeftS s plF = [] ↔ s.all plB = true := by
  unfold Lib.trimLeftS
  induction s with
  | nil => simp
  | cons b t ih =>
    rw [List.dropWhile_cons, List.all_cons]
    cases h : plB b with
    | true => rw [plF_has, h, if_pos rfl, Bool.true_and]; exact ih
    | false => rw [plF_has, h, Bool.false_and]; simp
theorem trimPl_any (t : List UInt8) (w : World) :
    Calls Tryd.prog 38 #[str t, .string ⟨plF.toArray⟩] w fun e w' => e = .returned (str (Lib.trimLeftS t plF)) ∧ Below w.heap.size w w' :=
  Any.strings_TrimLeft_laid Tryd.lays161 (by kernel_rfl) ⟨t.toArray⟩ ⟨plF.toArray⟩ w (by decide) plF_ascii
section
set_option maxRecDepth 100000
theorem plain_any (s : List UInt8) (w : World) (hs : s.length ≤ 600) : Calls Tryd.prog 24 #[str s] w fun e w' => e = .returned (.bool (plainL s)) ∧ Below w.heap.size w w' := by
  have HC := Lib.hid (trimPl_any s w)
  have ht := trim_pl s
  obtain ⟨T, hT⟩ : ∃ T, T = Lib.trimLeftS s plF := ⟨_, rfl⟩
  rw [← hT] at ht HC
  clear hT
  have hp : plainL s = (s.all plB && decide (1 ≤ s.length) && decide (s.length ≤ 32)) := rfl
  obtain ⟨P, hP⟩ : ∃ P, P = plainL s := ⟨_, rfl⟩
  rw [← hP] at hp ⊢
  clear hP
  by_cases h0 : s.length = 0
  · have : s = [] := List.eq_nil_of_length_eq_zero h0
    subst this
    obtain rfl : P = false := by rw [hp]; rfl
    clear hp ht
    go_enter Tryd.func24, Tryd.ntmps24
    go_wp2_with fail
    refine HC.out.mono ?_
    rintro e w1 ⟨rfl, hB⟩
    have HB := Lib.hid hB; clear hB HC
    go_wp2_with fail
    go_ret
    exact ⟨rfl, HB.out⟩
  · have hne := str_ne s h0
    by_cases h32 : s.length ≤ 32
    · have h32' : (s.length : Int) ≤ 32 := by omega
      by_cases hTe : T = []
      · have hall := ht.1 hTe
        obtain rfl : P = true := by rw [hp, hall, decide_eq_true (by omega), decide_eq_true h32]; rfl
        subst hTe
        clear hp ht
        go_enter Tryd.func24, Tryd.ntmps24
        go_wp2_with fail
        refine HC.out.mono ?_
        rintro e w1 ⟨rfl, hB⟩
        have HB := Lib.hid hB; clear hB HC
        go_wp2_with fail
        go_ret
        exact ⟨rfl, HB.out⟩
      · have hall : s.all plB = false := by rw [← Bool.not_eq_true]; exact fun e => hTe (ht.2 e)
        obtain rfl : P = false := by rw [hp, hall]; rfl
        have hTe2 : T.isEmpty = false := by cases T; exact absurd rfl hTe; rfl
        clear hp ht
        go_enter Tryd.func24, Tryd.ntmps24
        go_wp2_with fail
        refine HC.out.mono ?_
        rintro e w1 ⟨rfl, hB⟩
        have HB := Lib.hid hB; clear hB HC
        go_wp2_with fail
        go_ret
        exact ⟨rfl, HB.out⟩
    · obtain rfl : P = false := by rw [hp, decide_eq_false h32, Bool.and_false]
      have h32' : ¬ (s.length : Int) ≤ 32 := by omega
      clear hp ht
      go_enter Tryd.func24, Tryd.ntmps24
      go_wp2_with fail
      refine HC.out.mono ?_
      rintro e w1 ⟨rfl, hB⟩
      have HB := Lib.hid hB; clear hB HC
      go_wp2_with fail
      go_ret
      exact ⟨rfl, HB.out⟩
set_option maxHeartbeats 4000000 in
theorem refPlain_any (s : List UInt8) (w : World) (hs : s.length ≤ 600) : Calls Tryd.prog 25 #[str s] w fun e w' => e = .returned (.bool (plainL s)) ∧ w = w' := by
  have hp : plainL s = (s.all plB && decide (1 ≤ s.length) && decide (s.length ≤ 32)) := rfl
  obtain ⟨P, hP⟩ : ∃ P, P = plainL s := ⟨_, rfl⟩
  rw [← hP] at hp ⊢
  clear hP
  have HP := Lib.hid hp; clear hp
  go_enter Tryd.func25, Tryd.ntmps25
  go_wp2_with fail
  go_loop [3] (fun i => ∃ k : Nat, k ≤ s.length ∧ i = .int .i64 (k : Int) ∧ (s.take k).all plB = true) (fun i => s.length - (intOf i).toNat)
  case atStart => exact ⟨0, by omega, rfl, rfl⟩
  case round =>
    obtain ⟨k, hk, rfl, hall⟩ := hrel
    by_cases hlt : k < s.length
    · have hik : (Instr.index 9 (str s) (.int .i64 (k : Int))).run Tryd.prog w = .ok (vb (s.getD k 0)) w := str_index s k hlt w
      have hts := take_snoc s k hlt
      have hgx : s.getD k 0 = s[k] := by rw [List.getD_eq_getElem?_getD, List.getElem?_eq_getElem hlt]; rfl
      rw [← hgx] at hts
      have hmem : s.getD k 0 ∈ s := by rw [hgx]; exact List.getElem_mem hlt
      obtain ⟨x, hx⟩ : ∃ x, x = s.getD k 0 := ⟨_, rfl⟩
      rw [← hx] at hik hts hmem
      clear hx hgx
      have hyes : plB x = true → (s.take (k + 1)).all plB = true := fun e => by rw [hts, List.all_append, hall]; simp [e]
      have hno : plB x = false → P = false := fun e => by
        rw [HP.out]
        have : s.all plB = false := by
          rw [← Bool.not_eq_true]
          intro h
          rw [List.all_eq_true] at h
          have := h x hmem
          rw [e] at this
          exact absurd this (by decide)
        rw [this]; rfl
      have HYES := Lib.hid hyes
      have HNO := Lib.hid hno
      have hlx := x.toNat_lt
      clear hts hmem hall hyes hno
      have hpx : plB x = ((decide (97 ≤ x.toNat) && decide (x.toNat ≤ 122)) || (decide (48 ≤ x.toNat) && decide (x.toNat ≤ 57)) || x.toNat == 45 || x.toNat == 95) := rfl
      have hv : vb x = .int .u8 (x.toNat : Int) := rfl
      rw [hv] at hik
      obtain ⟨X, hX⟩ : ∃ X, X = x.toNat := ⟨_, rfl⟩
      rw [← hX] at hik hlx hpx
      obtain ⟨pb, hpb⟩ : ∃ pb, pb = plB x := ⟨_, rfl⟩
      rw [← hpb] at hpx HYES HNO
      clear hv hX hpb
      rcases (show (0 ≤ X ∧ X ≤ 44) ∨ (45 ≤ X ∧ X ≤ 45) ∨ (46 ≤ X ∧ X ≤ 47) ∨ (48 ≤ X ∧ X ≤ 57) ∨ (58 ≤ X ∧ X ≤ 94) ∨ (95 ≤ X ∧ X ≤ 95) ∨ (96 ≤ X ∧ X ≤ 96) ∨ (97 ≤ X ∧ X ≤ 122) ∨ (123 ≤ X ∧ X ≤ 255) by omega) with ⟨hr1, hr2⟩ | ⟨hr1, hr2⟩ | ⟨hr1, hr2⟩ | ⟨hr1, hr2⟩ | ⟨hr1, hr2⟩ | ⟨hr1, hr2⟩ | ⟨hr1, hr2⟩ | ⟨hr1, hr2⟩ | ⟨hr1, hr2⟩
      · have hpv : pb = false := by rw [hpx]; simp only [Bool.or_eq_false_iff, Bool.and_eq_false_iff, decide_eq_false_iff_not, beq_eq_false_iff_ne, ne_eq]; omega
        subst hpv
        have e45 : ((X : Int) == 45) = false := by rw [beq_eq_false_iff_ne]; omega
        have e95 : ((X : Int) == 95) = false := by rw [beq_eq_false_iff_ne]; omega
        have g1 : (0 : Int) ≤ (X : Int) := by omega
        have g2 : (X : Int) ≤ 44 := by omega
        clear hpx
        obtain rfl := HNO.out rfl
        go_wp2_with fail
        go_ret
        exact ⟨rfl, rfl⟩
      · have hpv : pb = true := by rw [hpx]; simp only [Bool.or_eq_true, Bool.and_eq_true, decide_eq_true_eq, beq_iff_eq]; omega
        subst hpv
        obtain rfl : X = 45 := by omega
        have eX : ((45 : Nat) : Int) = 45 := rfl
        rw [eX] at hik
        clear hr1 hr2 eX hpx
        go_wp2_with fail
        go_round
        case rel => exact ⟨k + 1, by omega, by go_num, HYES.out rfl⟩
        case measure => simp [intOf]; omega
      · have hpv : pb = false := by rw [hpx]; simp only [Bool.or_eq_false_iff, Bool.and_eq_false_iff, decide_eq_false_iff_not, beq_eq_false_iff_ne, ne_eq]; omega
        subst hpv
        have e45 : ((X : Int) == 45) = false := by rw [beq_eq_false_iff_ne]; omega
        have e95 : ((X : Int) == 95) = false := by rw [beq_eq_false_iff_ne]; omega
        have g1 : (46 : Int) ≤ (X : Int) := by omega
        have g2 : (X : Int) ≤ 47 := by omega
        clear hpx
        obtain rfl := HNO.out rfl
        go_wp2_with fail
        go_ret
        exact ⟨rfl, rfl⟩
      · have hpv : pb = true := by rw [hpx]; simp only [Bool.or_eq_true, Bool.and_eq_true, decide_eq_true_eq, beq_iff_eq]; omega
        subst hpv
        have e45 : ((X : Int) == 45) = false := by rw [beq_eq_false_iff_ne]; omega
        have e95 : ((X : Int) == 95) = false := by rw [beq_eq_false_iff_ne]; omega
        have g1 : (48 : Int) ≤ (X : Int) := by omega
        have g2 : (X : Int) ≤ 57 := by omega
        clear hpx
        go_wp2_with fail
        go_round
        case rel => exact ⟨k + 1, by omega, by go_num, HYES.out rfl⟩
        case measure => simp [intOf]; omega
      · have hpv : pb = false := by rw [hpx]; simp only [Bool.or_eq_false_iff, Bool.and_eq_false_iff, decide_eq_false_iff_not, beq_eq_false_iff_ne, ne_eq]; omega
        subst hpv
        have e45 : ((X : Int) == 45) = false := by rw [beq_eq_false_iff_ne]; omega
        have e95 : ((X : Int) == 95) = false := by rw [beq_eq_false_iff_ne]; omega
        have g1 : (58 : Int) ≤ (X : Int) := by omega
        have g2 : (X : Int) ≤ 94 := by omega
        have d57 : decide ((X : Int) ≤ 57) = false := decide_eq_false (by omega)
        clear hpx
        obtain rfl := HNO.out rfl
        go_wp2_with fail
        go_ret
        exact ⟨rfl, rfl⟩
      · have hpv : pb = true := by rw [hpx]; simp only [Bool.or_eq_true, Bool.and_eq_true, decide_eq_true_eq, beq_iff_eq]; omega
        subst hpv
        obtain rfl : X = 95 := by omega
        have eX : ((95 : Nat) : Int) = 95 := rfl
        rw [eX] at hik
        clear hr1 hr2 eX hpx
        go_wp2_with fail
        go_round
        case rel => exact ⟨k + 1, by omega, by go_num, HYES.out rfl⟩
        case measure => simp [intOf]; omega
      · have hpv : pb = false := by rw [hpx]; simp only [Bool.or_eq_false_iff, Bool.and_eq_false_iff, decide_eq_false_iff_not, beq_eq_false_iff_ne, ne_eq]; omega
        subst hpv
        obtain rfl : X = 96 := by omega
        have eX : ((96 : Nat) : Int) = 96 := rfl
        rw [eX] at hik
        clear hr1 hr2 eX hpx
        obtain rfl := HNO.out rfl
        go_wp2_with fail
        go_ret
        exact ⟨rfl, rfl⟩
      · have hpv : pb = true := by rw [hpx]; simp only [Bool.or_eq_true, Bool.and_eq_true, decide_eq_true_eq, beq_iff_eq]; omega
        subst hpv
        have e45 : ((X : Int) == 45) = false := by rw [beq_eq_false_iff_ne]; omega
        have e95 : ((X : Int) == 95) = false := by rw [beq_eq_false_iff_ne]; omega
        have g1 : (97 : Int) ≤ (X : Int) := by omega
        have g2 : (X : Int) ≤ 122 := by omega
        clear hpx
        go_wp2_with fail
        go_round
        case rel => exact ⟨k + 1, by omega, by go_num, HYES.out rfl⟩
        case measure => simp [intOf]; omega
      · have hpv : pb = false := by rw [hpx]; simp only [Bool.or_eq_false_iff, Bool.and_eq_false_iff, decide_eq_false_iff_not, beq_eq_false_iff_ne, ne_eq]; omega
        subst hpv
        have e45 : ((X : Int) == 45) = false := by rw [beq_eq_false_iff_ne]; omega
        have e95 : ((X : Int) == 95) = false := by rw [beq_eq_false_iff_ne]; omega
        have g1 : (123 : Int) ≤ (X : Int) := by omega
        have g2 : (X : Int) ≤ 255 := by omega
        have d57 : decide ((X : Int) ≤ 57) = false := decide_eq_false (by omega)
        have d122 : decide ((X : Int) ≤ 122) = false := decide_eq_false (by omega)
        clear hpx
        obtain rfl := HNO.out rfl
        go_wp2_with fail
        go_ret
        exact ⟨rfl, rfl⟩
    · obtain rfl : k = s.length := by omega
      rw [List.take_length] at hall
      have hp := HP.out
      rw [hall, Bool.true_and] at hp
      clear HP
      by_cases h1 : 1 ≤ s.length <;> by_cases h32 : s.length ≤ 32
      · obtain rfl : P = true := by rw [hp, decide_eq_true h1, decide_eq_true h32]; rfl
        have h1' : (1 : Int) ≤ (s.length : Int) := by omega
        have h2' : (s.length : Int) ≤ 32 := by omega
        clear hp
        go_wp2_with fail
        go_ret
        first | exact ⟨rfl, rfl⟩ | exact ⟨by simp, rfl⟩
      · obtain rfl : P = false := by rw [hp, decide_eq_false h32, Bool.and_false]
        have h1' : (1 : Int) ≤ (s.length : Int) := by omega
        have h2' : ¬ (s.length : Int) ≤ 32 := by omega
        clear hp
        go_wp2_with fail
        go_ret
        first | exact ⟨rfl, rfl⟩ | exact ⟨by simp, rfl⟩ | exact ⟨by simp; omega, rfl⟩
      · obtain rfl : P = false := by rw [hp, decide_eq_false h1, Bool.false_and]
        have h1' : ¬ (1 : Int) ≤ (s.length : Int) := by omega
        clear hp
        go_wp2_with fail
        go_ret
        first | exact ⟨rfl, rfl⟩ | exact ⟨by simp, rfl⟩ | exact ⟨by simp; omega, rfl⟩
      · exfalso; omega
end
end Go.Proofs.YtpphccjpdkcnmaaDoor
