/- The reference's Token and target. -/
import Derived.Test.YtajclihnoedecaaGreatDoorHsTok
set_option maxRecDepth 100000
namespace Go.Proofs.YtajclihnoedecaaGreatDoor
open Go.RowKit Go.Shelf
def tkC (c : UInt8) : Bool := tokS.contains c
theorem tkC_all : ∀ n : Fin 256, tkC (UInt8.ofNat n.val) = decide ((33 ≤ n.val ∧ n.val ≤ 33) ∨ (35 ≤ n.val ∧ n.val ≤ 35) ∨ (36 ≤ n.val ∧ n.val ≤ 36) ∨ (37 ≤ n.val ∧ n.val ≤ 37) ∨ (38 ≤ n.val ∧ n.val ≤ 38) ∨ (39 ≤ n.val ∧ n.val ≤ 39) ∨ (42 ≤ n.val ∧ n.val ≤ 42) ∨ (43 ≤ n.val ∧ n.val ≤ 43) ∨ (45 ≤ n.val ∧ n.val ≤ 45) ∨ (46 ≤ n.val ∧ n.val ≤ 46) ∨ (48 ≤ n.val ∧ n.val ≤ 57) ∨ (65 ≤ n.val ∧ n.val ≤ 90) ∨ (94 ≤ n.val ∧ n.val ≤ 94) ∨ (95 ≤ n.val ∧ n.val ≤ 95) ∨ (96 ≤ n.val ∧ n.val ≤ 96) ∨ (97 ≤ n.val ∧ n.val ≤ 122) ∨ (124 ≤ n.val ∧ n.val ≤ 124) ∨ (126 ≤ n.val ∧ n.val ≤ 126)) := by decide +kernel
theorem tkC_num (x : UInt8) : tkC x = decide ((33 ≤ x.toNat ∧ x.toNat ≤ 33) ∨ (35 ≤ x.toNat ∧ x.toNat ≤ 35) ∨ (36 ≤ x.toNat ∧ x.toNat ≤ 36) ∨ (37 ≤ x.toNat ∧ x.toNat ≤ 37) ∨ (38 ≤ x.toNat ∧ x.toNat ≤ 38) ∨ (39 ≤ x.toNat ∧ x.toNat ≤ 39) ∨ (42 ≤ x.toNat ∧ x.toNat ≤ 42) ∨ (43 ≤ x.toNat ∧ x.toNat ≤ 43) ∨ (45 ≤ x.toNat ∧ x.toNat ≤ 45) ∨ (46 ≤ x.toNat ∧ x.toNat ≤ 46) ∨ (48 ≤ x.toNat ∧ x.toNat ≤ 57) ∨ (65 ≤ x.toNat ∧ x.toNat ≤ 90) ∨ (94 ≤ x.toNat ∧ x.toNat ≤ 94) ∨ (95 ≤ x.toNat ∧ x.toNat ≤ 95) ∨ (96 ≤ x.toNat ∧ x.toNat ≤ 96) ∨ (97 ≤ x.toNat ∧ x.toNat ≤ 122) ∨ (124 ≤ x.toNat ∧ x.toNat ≤ 124) ∨ (126 ≤ x.toNat ∧ x.toNat ≤ 126)) := by
  have := tkC_all ⟨x.toNat, x.toNat_lt⟩
  simpa using this
set_option maxHeartbeats 4000000 in
theorem tchar_any (b : UInt8) (w : World) : Calls Tryz.prog 37 #[vb b] w fun e w' => e = .returned (.bool (tkC b)) ∧ w = w' := by
  have hv : vb b = .int .u8 (b.toNat : Int) := rfl
  have hd := tkC_num b
  rw [hv]
  have hl := b.toNat_lt
  obtain ⟨P, hP⟩ : ∃ P, P = tkC b := ⟨_, rfl⟩
  rw [← hP] at hd ⊢
  obtain ⟨X, hX⟩ : ∃ X, X = b.toNat := ⟨_, rfl⟩
  rw [← hX] at hl hd ⊢
  clear hX hv hP
  rcases (show (0 ≤ X ∧ X ≤ 32) ∨ (33 ≤ X ∧ X ≤ 33) ∨ (34 ≤ X ∧ X ≤ 34) ∨ (35 ≤ X ∧ X ≤ 35) ∨ (36 ≤ X ∧ X ≤ 36) ∨ (37 ≤ X ∧ X ≤ 37) ∨ (38 ≤ X ∧ X ≤ 38) ∨ (39 ≤ X ∧ X ≤ 39) ∨ (40 ≤ X ∧ X ≤ 41) ∨ (42 ≤ X ∧ X ≤ 42) ∨ (43 ≤ X ∧ X ≤ 43) ∨ (44 ≤ X ∧ X ≤ 44) ∨ (45 ≤ X ∧ X ≤ 45) ∨ (46 ≤ X ∧ X ≤ 46) ∨ (47 ≤ X ∧ X ≤ 47) ∨ (48 ≤ X ∧ X ≤ 57) ∨ (58 ≤ X ∧ X ≤ 64) ∨ (65 ≤ X ∧ X ≤ 90) ∨ (91 ≤ X ∧ X ≤ 93) ∨ (94 ≤ X ∧ X ≤ 94) ∨ (95 ≤ X ∧ X ≤ 95) ∨ (96 ≤ X ∧ X ≤ 96) ∨ (97 ≤ X ∧ X ≤ 122) ∨ (123 ≤ X ∧ X ≤ 123) ∨ (124 ≤ X ∧ X ≤ 124) ∨ (125 ≤ X ∧ X ≤ 125) ∨ (126 ≤ X ∧ X ≤ 126) ∨ (127 ≤ X ∧ X ≤ 255) by omega) with ⟨h1, h2⟩ | ⟨h1, h2⟩ | ⟨h1, h2⟩ | ⟨h1, h2⟩ | ⟨h1, h2⟩ | ⟨h1, h2⟩ | ⟨h1, h2⟩ | ⟨h1, h2⟩ | ⟨h1, h2⟩ | ⟨h1, h2⟩ | ⟨h1, h2⟩ | ⟨h1, h2⟩ | ⟨h1, h2⟩ | ⟨h1, h2⟩ | ⟨h1, h2⟩ | ⟨h1, h2⟩ | ⟨h1, h2⟩ | ⟨h1, h2⟩ | ⟨h1, h2⟩ | ⟨h1, h2⟩ | ⟨h1, h2⟩ | ⟨h1, h2⟩ | ⟨h1, h2⟩ | ⟨h1, h2⟩ | ⟨h1, h2⟩ | ⟨h1, h2⟩ | ⟨h1, h2⟩ | ⟨h1, h2⟩
  · obtain rfl : P = false := by rw [hd]; exact decide_eq_false (by omega)
    have e33 : ((X : Int) == 33) = false := by rw [beq_eq_false_iff_ne]; omega
    have e35 : ((X : Int) == 35) = false := by rw [beq_eq_false_iff_ne]; omega
    have e36 : ((X : Int) == 36) = false := by rw [beq_eq_false_iff_ne]; omega
    have e37 : ((X : Int) == 37) = false := by rw [beq_eq_false_iff_ne]; omega
    have e38 : ((X : Int) == 38) = false := by rw [beq_eq_false_iff_ne]; omega
    have e39 : ((X : Int) == 39) = false := by rw [beq_eq_false_iff_ne]; omega
    have e42 : ((X : Int) == 42) = false := by rw [beq_eq_false_iff_ne]; omega
    have e43 : ((X : Int) == 43) = false := by rw [beq_eq_false_iff_ne]; omega
    have e45 : ((X : Int) == 45) = false := by rw [beq_eq_false_iff_ne]; omega
    have e46 : ((X : Int) == 46) = false := by rw [beq_eq_false_iff_ne]; omega
    have e94 : ((X : Int) == 94) = false := by rw [beq_eq_false_iff_ne]; omega
    have e95 : ((X : Int) == 95) = false := by rw [beq_eq_false_iff_ne]; omega
    have e124 : ((X : Int) == 124) = false := by rw [beq_eq_false_iff_ne]; omega
    have e126 : ((X : Int) == 126) = false := by rw [beq_eq_false_iff_ne]; omega
    have e96 : ((X : Int) == 96) = false := by rw [beq_eq_false_iff_ne]; omega
    have g1 : (0 : Int) ≤ (X : Int) := by omega
    have g2 : (X : Int) ≤ 32 := by omega
    clear hd
    go_enter Tryz.func37, Tryz.ntmps37
    go_wp2_with fail
    go_ret
    exact ⟨rfl, rfl⟩
  · obtain rfl : X = 33 := by omega
    obtain rfl : P = true := by rw [hd]; decide
    have e : ((33 : Nat) : Int) = 33 := rfl
    rw [e]
    clear h1 h2 hd hl e
    go_enter Tryz.func37, Tryz.ntmps37
    go_wp2_with fail
    go_ret
    exact ⟨rfl, rfl⟩
  · obtain rfl : X = 34 := by omega
    obtain rfl : P = false := by rw [hd]; decide
    have e : ((34 : Nat) : Int) = 34 := rfl
    rw [e]
    clear h1 h2 hd hl e
    go_enter Tryz.func37, Tryz.ntmps37
    go_wp2_with fail
    go_ret
    exact ⟨rfl, rfl⟩
  · obtain rfl : X = 35 := by omega
    obtain rfl : P = true := by rw [hd]; decide
    have e : ((35 : Nat) : Int) = 35 := rfl
    rw [e]
    clear h1 h2 hd hl e
    go_enter Tryz.func37, Tryz.ntmps37
    go_wp2_with fail
    go_ret
    exact ⟨rfl, rfl⟩
  · obtain rfl : X = 36 := by omega
    obtain rfl : P = true := by rw [hd]; decide
    have e : ((36 : Nat) : Int) = 36 := rfl
    rw [e]
    clear h1 h2 hd hl e
    go_enter Tryz.func37, Tryz.ntmps37
    go_wp2_with fail
    go_ret
    exact ⟨rfl, rfl⟩
  · obtain rfl : X = 37 := by omega
    obtain rfl : P = true := by rw [hd]; decide
    have e : ((37 : Nat) : Int) = 37 := rfl
    rw [e]
    clear h1 h2 hd hl e
    go_enter Tryz.func37, Tryz.ntmps37
    go_wp2_with fail
    go_ret
    exact ⟨rfl, rfl⟩
  · obtain rfl : X = 38 := by omega
    obtain rfl : P = true := by rw [hd]; decide
    have e : ((38 : Nat) : Int) = 38 := rfl
    rw [e]
    clear h1 h2 hd hl e
    go_enter Tryz.func37, Tryz.ntmps37
    go_wp2_with fail
    go_ret
    exact ⟨rfl, rfl⟩
  · obtain rfl : X = 39 := by omega
    obtain rfl : P = true := by rw [hd]; decide
    have e : ((39 : Nat) : Int) = 39 := rfl
    rw [e]
    clear h1 h2 hd hl e
    go_enter Tryz.func37, Tryz.ntmps37
    go_wp2_with fail
    go_ret
    exact ⟨rfl, rfl⟩
  · obtain rfl : P = false := by rw [hd]; exact decide_eq_false (by omega)
    have e33 : ((X : Int) == 33) = false := by rw [beq_eq_false_iff_ne]; omega
    have e35 : ((X : Int) == 35) = false := by rw [beq_eq_false_iff_ne]; omega
    have e36 : ((X : Int) == 36) = false := by rw [beq_eq_false_iff_ne]; omega
    have e37 : ((X : Int) == 37) = false := by rw [beq_eq_false_iff_ne]; omega
    have e38 : ((X : Int) == 38) = false := by rw [beq_eq_false_iff_ne]; omega
    have e39 : ((X : Int) == 39) = false := by rw [beq_eq_false_iff_ne]; omega
    have e42 : ((X : Int) == 42) = false := by rw [beq_eq_false_iff_ne]; omega
    have e43 : ((X : Int) == 43) = false := by rw [beq_eq_false_iff_ne]; omega
    have e45 : ((X : Int) == 45) = false := by rw [beq_eq_false_iff_ne]; omega
    have e46 : ((X : Int) == 46) = false := by rw [beq_eq_false_iff_ne]; omega
    have e94 : ((X : Int) == 94) = false := by rw [beq_eq_false_iff_ne]; omega
    have e95 : ((X : Int) == 95) = false := by rw [beq_eq_false_iff_ne]; omega
    have e124 : ((X : Int) == 124) = false := by rw [beq_eq_false_iff_ne]; omega
    have e126 : ((X : Int) == 126) = false := by rw [beq_eq_false_iff_ne]; omega
    have e96 : ((X : Int) == 96) = false := by rw [beq_eq_false_iff_ne]; omega
    have g1 : (40 : Int) ≤ (X : Int) := by omega
    have g2 : (X : Int) ≤ 41 := by omega
    clear hd
    go_enter Tryz.func37, Tryz.ntmps37
    go_wp2_with fail
    go_ret
    exact ⟨rfl, rfl⟩
  · obtain rfl : X = 42 := by omega
    obtain rfl : P = true := by rw [hd]; decide
    have e : ((42 : Nat) : Int) = 42 := rfl
    rw [e]
    clear h1 h2 hd hl e
    go_enter Tryz.func37, Tryz.ntmps37
    go_wp2_with fail
    go_ret
    exact ⟨rfl, rfl⟩
  · obtain rfl : X = 43 := by omega
    obtain rfl : P = true := by rw [hd]; decide
    have e : ((43 : Nat) : Int) = 43 := rfl
    rw [e]
    clear h1 h2 hd hl e
    go_enter Tryz.func37, Tryz.ntmps37
    go_wp2_with fail
    go_ret
    exact ⟨rfl, rfl⟩
  · obtain rfl : X = 44 := by omega
    obtain rfl : P = false := by rw [hd]; decide
    have e : ((44 : Nat) : Int) = 44 := rfl
    rw [e]
    clear h1 h2 hd hl e
    go_enter Tryz.func37, Tryz.ntmps37
    go_wp2_with fail
    go_ret
    exact ⟨rfl, rfl⟩
  · obtain rfl : X = 45 := by omega
    obtain rfl : P = true := by rw [hd]; decide
    have e : ((45 : Nat) : Int) = 45 := rfl
    rw [e]
    clear h1 h2 hd hl e
    go_enter Tryz.func37, Tryz.ntmps37
    go_wp2_with fail
    go_ret
    exact ⟨rfl, rfl⟩
  · obtain rfl : X = 46 := by omega
    obtain rfl : P = true := by rw [hd]; decide
    have e : ((46 : Nat) : Int) = 46 := rfl
    rw [e]
    clear h1 h2 hd hl e
    go_enter Tryz.func37, Tryz.ntmps37
    go_wp2_with fail
    go_ret
    exact ⟨rfl, rfl⟩
  · obtain rfl : X = 47 := by omega
    obtain rfl : P = false := by rw [hd]; decide
    have e : ((47 : Nat) : Int) = 47 := rfl
    rw [e]
    clear h1 h2 hd hl e
    go_enter Tryz.func37, Tryz.ntmps37
    go_wp2_with fail
    go_ret
    exact ⟨rfl, rfl⟩
  · obtain rfl : P = true := by rw [hd]; exact decide_eq_true (by omega)
    have e33 : ((X : Int) == 33) = false := by rw [beq_eq_false_iff_ne]; omega
    have e35 : ((X : Int) == 35) = false := by rw [beq_eq_false_iff_ne]; omega
    have e36 : ((X : Int) == 36) = false := by rw [beq_eq_false_iff_ne]; omega
    have e37 : ((X : Int) == 37) = false := by rw [beq_eq_false_iff_ne]; omega
    have e38 : ((X : Int) == 38) = false := by rw [beq_eq_false_iff_ne]; omega
    have e39 : ((X : Int) == 39) = false := by rw [beq_eq_false_iff_ne]; omega
    have e42 : ((X : Int) == 42) = false := by rw [beq_eq_false_iff_ne]; omega
    have e43 : ((X : Int) == 43) = false := by rw [beq_eq_false_iff_ne]; omega
    have e45 : ((X : Int) == 45) = false := by rw [beq_eq_false_iff_ne]; omega
    have e46 : ((X : Int) == 46) = false := by rw [beq_eq_false_iff_ne]; omega
    have e94 : ((X : Int) == 94) = false := by rw [beq_eq_false_iff_ne]; omega
    have e95 : ((X : Int) == 95) = false := by rw [beq_eq_false_iff_ne]; omega
    have e124 : ((X : Int) == 124) = false := by rw [beq_eq_false_iff_ne]; omega
    have e126 : ((X : Int) == 126) = false := by rw [beq_eq_false_iff_ne]; omega
    have e96 : ((X : Int) == 96) = false := by rw [beq_eq_false_iff_ne]; omega
    have g1 : (48 : Int) ≤ (X : Int) := by omega
    have g2 : (X : Int) ≤ 57 := by omega
    clear hd
    go_enter Tryz.func37, Tryz.ntmps37
    go_wp2_with fail
    go_ret
    exact ⟨rfl, rfl⟩
  · obtain rfl : P = false := by rw [hd]; exact decide_eq_false (by omega)
    have e33 : ((X : Int) == 33) = false := by rw [beq_eq_false_iff_ne]; omega
    have e35 : ((X : Int) == 35) = false := by rw [beq_eq_false_iff_ne]; omega
    have e36 : ((X : Int) == 36) = false := by rw [beq_eq_false_iff_ne]; omega
    have e37 : ((X : Int) == 37) = false := by rw [beq_eq_false_iff_ne]; omega
    have e38 : ((X : Int) == 38) = false := by rw [beq_eq_false_iff_ne]; omega
    have e39 : ((X : Int) == 39) = false := by rw [beq_eq_false_iff_ne]; omega
    have e42 : ((X : Int) == 42) = false := by rw [beq_eq_false_iff_ne]; omega
    have e43 : ((X : Int) == 43) = false := by rw [beq_eq_false_iff_ne]; omega
    have e45 : ((X : Int) == 45) = false := by rw [beq_eq_false_iff_ne]; omega
    have e46 : ((X : Int) == 46) = false := by rw [beq_eq_false_iff_ne]; omega
    have e94 : ((X : Int) == 94) = false := by rw [beq_eq_false_iff_ne]; omega
    have e95 : ((X : Int) == 95) = false := by rw [beq_eq_false_iff_ne]; omega
    have e124 : ((X : Int) == 124) = false := by rw [beq_eq_false_iff_ne]; omega
    have e126 : ((X : Int) == 126) = false := by rw [beq_eq_false_iff_ne]; omega
    have e96 : ((X : Int) == 96) = false := by rw [beq_eq_false_iff_ne]; omega
    have g1 : (58 : Int) ≤ (X : Int) := by omega
    have g2 : (X : Int) ≤ 64 := by omega
    clear hd
    go_enter Tryz.func37, Tryz.ntmps37
    go_wp2_with fail
    go_ret
    exact ⟨rfl, rfl⟩
  · obtain rfl : P = true := by rw [hd]; exact decide_eq_true (by omega)
    have e33 : ((X : Int) == 33) = false := by rw [beq_eq_false_iff_ne]; omega
    have e35 : ((X : Int) == 35) = false := by rw [beq_eq_false_iff_ne]; omega
    have e36 : ((X : Int) == 36) = false := by rw [beq_eq_false_iff_ne]; omega
    have e37 : ((X : Int) == 37) = false := by rw [beq_eq_false_iff_ne]; omega
    have e38 : ((X : Int) == 38) = false := by rw [beq_eq_false_iff_ne]; omega
    have e39 : ((X : Int) == 39) = false := by rw [beq_eq_false_iff_ne]; omega
    have e42 : ((X : Int) == 42) = false := by rw [beq_eq_false_iff_ne]; omega
    have e43 : ((X : Int) == 43) = false := by rw [beq_eq_false_iff_ne]; omega
    have e45 : ((X : Int) == 45) = false := by rw [beq_eq_false_iff_ne]; omega
    have e46 : ((X : Int) == 46) = false := by rw [beq_eq_false_iff_ne]; omega
    have e94 : ((X : Int) == 94) = false := by rw [beq_eq_false_iff_ne]; omega
    have e95 : ((X : Int) == 95) = false := by rw [beq_eq_false_iff_ne]; omega
    have e124 : ((X : Int) == 124) = false := by rw [beq_eq_false_iff_ne]; omega
    have e126 : ((X : Int) == 126) = false := by rw [beq_eq_false_iff_ne]; omega
    have e96 : ((X : Int) == 96) = false := by rw [beq_eq_false_iff_ne]; omega
    have g1 : (65 : Int) ≤ (X : Int) := by omega
    have g2 : (X : Int) ≤ 90 := by omega
    clear hd
    go_enter Tryz.func37, Tryz.ntmps37
    go_wp2_with fail
    go_ret
    exact ⟨rfl, rfl⟩
  · obtain rfl : P = false := by rw [hd]; exact decide_eq_false (by omega)
    have e33 : ((X : Int) == 33) = false := by rw [beq_eq_false_iff_ne]; omega
    have e35 : ((X : Int) == 35) = false := by rw [beq_eq_false_iff_ne]; omega
    have e36 : ((X : Int) == 36) = false := by rw [beq_eq_false_iff_ne]; omega
    have e37 : ((X : Int) == 37) = false := by rw [beq_eq_false_iff_ne]; omega
    have e38 : ((X : Int) == 38) = false := by rw [beq_eq_false_iff_ne]; omega
    have e39 : ((X : Int) == 39) = false := by rw [beq_eq_false_iff_ne]; omega
    have e42 : ((X : Int) == 42) = false := by rw [beq_eq_false_iff_ne]; omega
    have e43 : ((X : Int) == 43) = false := by rw [beq_eq_false_iff_ne]; omega
    have e45 : ((X : Int) == 45) = false := by rw [beq_eq_false_iff_ne]; omega
    have e46 : ((X : Int) == 46) = false := by rw [beq_eq_false_iff_ne]; omega
    have e94 : ((X : Int) == 94) = false := by rw [beq_eq_false_iff_ne]; omega
    have e95 : ((X : Int) == 95) = false := by rw [beq_eq_false_iff_ne]; omega
    have e124 : ((X : Int) == 124) = false := by rw [beq_eq_false_iff_ne]; omega
    have e126 : ((X : Int) == 126) = false := by rw [beq_eq_false_iff_ne]; omega
    have e96 : ((X : Int) == 96) = false := by rw [beq_eq_false_iff_ne]; omega
    have g1 : (91 : Int) ≤ (X : Int) := by omega
    have g2 : (X : Int) ≤ 93 := by omega
    clear hd
    go_enter Tryz.func37, Tryz.ntmps37
    go_wp2_with fail
    go_ret
    exact ⟨rfl, rfl⟩
  · obtain rfl : X = 94 := by omega
    obtain rfl : P = true := by rw [hd]; decide
    have e : ((94 : Nat) : Int) = 94 := rfl
    rw [e]
    clear h1 h2 hd hl e
    go_enter Tryz.func37, Tryz.ntmps37
    go_wp2_with fail
    go_ret
    exact ⟨rfl, rfl⟩
  · obtain rfl : X = 95 := by omega
    obtain rfl : P = true := by rw [hd]; decide
    have e : ((95 : Nat) : Int) = 95 := rfl
    rw [e]
    clear h1 h2 hd hl e
    go_enter Tryz.func37, Tryz.ntmps37
    go_wp2_with fail
    go_ret
    exact ⟨rfl, rfl⟩
  · obtain rfl : X = 96 := by omega
    obtain rfl : P = true := by rw [hd]; decide
    have e : ((96 : Nat) : Int) = 96 := rfl
    rw [e]
    clear h1 h2 hd hl e
    go_enter Tryz.func37, Tryz.ntmps37
    go_wp2_with fail
    go_ret
    exact ⟨rfl, rfl⟩
  · obtain rfl : P = true := by rw [hd]; exact decide_eq_true (by omega)
    have e33 : ((X : Int) == 33) = false := by rw [beq_eq_false_iff_ne]; omega
    have e35 : ((X : Int) == 35) = false := by rw [beq_eq_false_iff_ne]; omega
    have e36 : ((X : Int) == 36) = false := by rw [beq_eq_false_iff_ne]; omega
    have e37 : ((X : Int) == 37) = false := by rw [beq_eq_false_iff_ne]; omega
    have e38 : ((X : Int) == 38) = false := by rw [beq_eq_false_iff_ne]; omega
    have e39 : ((X : Int) == 39) = false := by rw [beq_eq_false_iff_ne]; omega
    have e42 : ((X : Int) == 42) = false := by rw [beq_eq_false_iff_ne]; omega
    have e43 : ((X : Int) == 43) = false := by rw [beq_eq_false_iff_ne]; omega
    have e45 : ((X : Int) == 45) = false := by rw [beq_eq_false_iff_ne]; omega
    have e46 : ((X : Int) == 46) = false := by rw [beq_eq_false_iff_ne]; omega
    have e94 : ((X : Int) == 94) = false := by rw [beq_eq_false_iff_ne]; omega
    have e95 : ((X : Int) == 95) = false := by rw [beq_eq_false_iff_ne]; omega
    have e124 : ((X : Int) == 124) = false := by rw [beq_eq_false_iff_ne]; omega
    have e126 : ((X : Int) == 126) = false := by rw [beq_eq_false_iff_ne]; omega
    have e96 : ((X : Int) == 96) = false := by rw [beq_eq_false_iff_ne]; omega
    have g1 : (97 : Int) ≤ (X : Int) := by omega
    have g2 : (X : Int) ≤ 122 := by omega
    clear hd
    go_enter Tryz.func37, Tryz.ntmps37
    go_wp2_with fail
    go_ret
    exact ⟨rfl, rfl⟩
  · obtain rfl : X = 123 := by omega
    obtain rfl : P = false := by rw [hd]; decide
    have e : ((123 : Nat) : Int) = 123 := rfl
    rw [e]
    clear h1 h2 hd hl e
    go_enter Tryz.func37, Tryz.ntmps37
    go_wp2_with fail
    go_ret
    exact ⟨rfl, rfl⟩
  · obtain rfl : X = 124 := by omega
    obtain rfl : P = true := by rw [hd]; decide
    have e : ((124 : Nat) : Int) = 124 := rfl
    rw [e]
    clear h1 h2 hd hl e
    go_enter Tryz.func37, Tryz.ntmps37
    go_wp2_with fail
    go_ret
    exact ⟨rfl, rfl⟩
  · obtain rfl : X = 125 := by omega
    obtain rfl : P = false := by rw [hd]; decide
    have e : ((125 : Nat) : Int) = 125 := rfl
    rw [e]
    clear h1 h2 hd hl e
    go_enter Tryz.func37, Tryz.ntmps37
    go_wp2_with fail
    go_ret
    exact ⟨rfl, rfl⟩
  · obtain rfl : X = 126 := by omega
    obtain rfl : P = true := by rw [hd]; decide
    have e : ((126 : Nat) : Int) = 126 := rfl
    rw [e]
    clear h1 h2 hd hl e
    go_enter Tryz.func37, Tryz.ntmps37
    go_wp2_with fail
    go_ret
    exact ⟨rfl, rfl⟩
  · obtain rfl : P = false := by rw [hd]; exact decide_eq_false (by omega)
    have e33 : ((X : Int) == 33) = false := by rw [beq_eq_false_iff_ne]; omega
    have e35 : ((X : Int) == 35) = false := by rw [beq_eq_false_iff_ne]; omega
    have e36 : ((X : Int) == 36) = false := by rw [beq_eq_false_iff_ne]; omega
    have e37 : ((X : Int) == 37) = false := by rw [beq_eq_false_iff_ne]; omega
    have e38 : ((X : Int) == 38) = false := by rw [beq_eq_false_iff_ne]; omega
    have e39 : ((X : Int) == 39) = false := by rw [beq_eq_false_iff_ne]; omega
    have e42 : ((X : Int) == 42) = false := by rw [beq_eq_false_iff_ne]; omega
    have e43 : ((X : Int) == 43) = false := by rw [beq_eq_false_iff_ne]; omega
    have e45 : ((X : Int) == 45) = false := by rw [beq_eq_false_iff_ne]; omega
    have e46 : ((X : Int) == 46) = false := by rw [beq_eq_false_iff_ne]; omega
    have e94 : ((X : Int) == 94) = false := by rw [beq_eq_false_iff_ne]; omega
    have e95 : ((X : Int) == 95) = false := by rw [beq_eq_false_iff_ne]; omega
    have e124 : ((X : Int) == 124) = false := by rw [beq_eq_false_iff_ne]; omega
    have e126 : ((X : Int) == 126) = false := by rw [beq_eq_false_iff_ne]; omega
    have e96 : ((X : Int) == 96) = false := by rw [beq_eq_false_iff_ne]; omega
    have g1 : (127 : Int) ≤ (X : Int) := by omega
    have g2 : (X : Int) ≤ 255 := by omega
    clear hd
    go_enter Tryz.func37, Tryz.ntmps37
    go_wp2_with fail
    go_ret
    exact ⟨rfl, rfl⟩
set_option maxHeartbeats 4000000 in
theorem refToken_any (s : List UInt8) (w : World) (hs : s.length ≤ 100000) : Calls Tryz.prog 22 #[str s] w fun e w' => e = .returned (.bool (!s.isEmpty && s.all tkC)) ∧ w = w' := by
  obtain ⟨P, hP⟩ : ∃ P, P = (!s.isEmpty && s.all tkC) := ⟨_, rfl⟩
  rw [← hP]
  have HP := Lib.hid hP; clear hP
  go_enter Tryz.func22, Tryz.ntmps22
  go_wp2_with fail
  go_loop [3] (fun i => ∃ k : Nat, k ≤ s.length ∧ i = .int .i64 (k : Int) ∧ (s.take k).all tkC = true) (fun i => s.length - (intOf i).toNat)
  case atStart => exact ⟨0, by omega, rfl, rfl⟩
  case round =>
    obtain ⟨k, hk, rfl, hall⟩ := hrel
    by_cases hlt : k < s.length
    · have hik : (Instr.index 9 (str s) (.int .i64 (k : Int))).run Tryz.prog w = .ok (vb (s.getD k 0)) w := str_index s k hlt w
      have hts := take_snocH s k hlt
      have hgx : s.getD k 0 = s[k] := by rw [List.getD_eq_getElem?_getD, List.getElem?_eq_getElem hlt]; rfl
      rw [← hgx] at hts
      have hmem : s.getD k 0 ∈ s := by rw [hgx]; exact List.getElem_mem hlt
      obtain ⟨x, hx⟩ : ∃ x, x = s.getD k 0 := ⟨_, rfl⟩
      rw [← hx] at hik hts hmem
      clear hx hgx
      have hyes : tkC x = true → (s.take (k + 1)).all tkC = true := fun e => by rw [hts, List.all_append, hall]; simp [e]
      have hno : tkC x = false → P = false := fun e => by
        rw [HP.out]
        have h2 : s.all tkC = false := by
          rw [← Bool.not_eq_true]
          intro h
          rw [List.all_eq_true] at h
          have := h x hmem
          rw [e] at this
          exact absurd this (by decide)
        rw [h2]; simp
      have HYES := Lib.hid hyes
      have HNO := Lib.hid hno
      have HSE := Lib.hid (tchar_any x w)
      clear hts hmem hall hyes hno
      by_cases hse : tkC x = true
      · rw [hse] at HSE
        have HY := Lib.hid (HYES.out hse)
        clear hse HYES HNO
        go_wp2_with fail
        refine HSE.out.mono ?_
        rintro e w1 ⟨rfl, rfl⟩
        go_wp2_with fail
        go_round
        case rel => exact ⟨k + 1, by omega, by go_num, HY.out⟩
        case measure => simp [intOf]; omega
      · have hse2 : tkC x = false := by simpa using hse
        rw [hse2] at HSE
        obtain rfl := HNO.out hse2
        clear hse hse2 HYES HNO
        go_wp2_with fail
        refine HSE.out.mono ?_
        rintro e w1 ⟨rfl, rfl⟩
        go_wp2_with fail
        go_ret
        exact ⟨rfl, rfl⟩
    · have hts : s.take k = s := List.take_of_length_le (by omega)
      rw [hts] at hall
      by_cases h0 : s = []
      · subst h0
        obtain rfl : P = false := by rw [HP.out]; rfl
        clear hts hall
        go_wp2_with fail
        go_ret
        exact ⟨rfl, rfl⟩
      · have hl0 : (0 : Int) < (s.length : Int) := by have : s.length ≠ 0 := fun e => h0 (List.eq_nil_of_length_eq_zero e); omega
        have hd0 : decide (0 < s.length) = true := decide_eq_true (by omega)
        obtain rfl : P = true := by rw [HP.out, hall, ne_isEmpty h0]; rfl
        clear hts hall h0
        go_wp2_with fail
        go_ret
        exact ⟨rfl, rfl⟩
set_option maxHeartbeats 4000000 in
theorem refTarget_any (s : List UInt8) (w : World) (hs : s.length ≤ 100000) : Calls Tryz.prog 28 #[str s] w fun e w' => e = .returned (.bool (!s.isEmpty && s.all seB)) ∧ w = w' := by
  obtain ⟨P, hP⟩ : ∃ P, P = (!s.isEmpty && s.all seB) := ⟨_, rfl⟩
  rw [← hP]
  have HP := Lib.hid hP; clear hP
  go_enter Tryz.func28, Tryz.ntmps28
  go_wp2_with fail
  go_loop [3] (fun i => ∃ k : Nat, k ≤ s.length ∧ i = .int .i64 (k : Int) ∧ (s.take k).all seB = true) (fun i => s.length - (intOf i).toNat)
  case atStart => exact ⟨0, by omega, rfl, rfl⟩
  case round =>
    obtain ⟨k, hk, rfl, hall⟩ := hrel
    by_cases hlt : k < s.length
    · have hik : (Instr.index 9 (str s) (.int .i64 (k : Int))).run Tryz.prog w = .ok (vb (s.getD k 0)) w := str_index s k hlt w
      have hts := take_snocH s k hlt
      have hgx : s.getD k 0 = s[k] := by rw [List.getD_eq_getElem?_getD, List.getElem?_eq_getElem hlt]; rfl
      rw [← hgx] at hts
      have hmem : s.getD k 0 ∈ s := by rw [hgx]; exact List.getElem_mem hlt
      obtain ⟨x, hx⟩ : ∃ x, x = s.getD k 0 := ⟨_, rfl⟩
      rw [← hx] at hik hts hmem
      clear hx hgx
      have hyes : seB x = true → (s.take (k + 1)).all seB = true := fun e => by rw [hts, List.all_append, hall]; simp [e]
      have hno : seB x = false → P = false := fun e => by
        rw [HP.out]
        have h2 : s.all seB = false := by
          rw [← Bool.not_eq_true]
          intro h
          rw [List.all_eq_true] at h
          have := h x hmem
          rw [e] at this
          exact absurd this (by decide)
        rw [h2]; simp
      have HYES := Lib.hid hyes
      have HNO := Lib.hid hno
      have HSE := Lib.hid (seen_any x w)
      clear hts hmem hall hyes hno
      by_cases hse : seB x = true
      · rw [hse] at HSE
        have HY := Lib.hid (HYES.out hse)
        clear hse HYES HNO
        go_wp2_with fail
        refine HSE.out.mono ?_
        rintro e w1 ⟨rfl, rfl⟩
        go_wp2_with fail
        go_round
        case rel => exact ⟨k + 1, by omega, by go_num, HY.out⟩
        case measure => simp [intOf]; omega
      · have hse2 : seB x = false := by simpa using hse
        rw [hse2] at HSE
        obtain rfl := HNO.out hse2
        clear hse hse2 HYES HNO
        go_wp2_with fail
        refine HSE.out.mono ?_
        rintro e w1 ⟨rfl, rfl⟩
        go_wp2_with fail
        go_ret
        exact ⟨rfl, rfl⟩
    · have hts : s.take k = s := List.take_of_length_le (by omega)
      rw [hts] at hall
      by_cases h0 : s = []
      · subst h0
        obtain rfl : P = false := by rw [HP.out]; rfl
        clear hts hall
        go_wp2_with fail
        go_ret
        exact ⟨rfl, rfl⟩
      · have hl0 : (0 : Int) < (s.length : Int) := by have : s.length ≠ 0 := fun e => h0 (List.eq_nil_of_length_eq_zero e); omega
        have hd0 : decide (0 < s.length) = true := decide_eq_true (by omega)
        obtain rfl : P = true := by rw [HP.out, hall, ne_isEmpty h0]; rfl
        clear hts hall h0
        go_wp2_with fail
        go_ret
        exact ⟨rfl, rfl⟩
end Go.Proofs.YtajclihnoedecaaGreatDoor
