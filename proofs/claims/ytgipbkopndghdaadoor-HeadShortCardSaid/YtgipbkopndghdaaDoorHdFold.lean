/- head.Fold, the reference's Low and Fold. -/
import Derived.Test.YtgipbkopndghdaaDoorHdTok
import Derived.Deep.QuietTactic
import Derived.BigQuiet
import Derived.StillTailTactics
set_option maxRecDepth 100000
namespace Go.Proofs.YtgipbkopndghdaaDoor
open Go.RowKit Go.Shelf
theorem drew2 (w : World) (n m : Nat) : (w.drewN n).drewN m = w.drewN (n + m) := by unfold World.drewN; simp [Nat.add_assoc]
theorem lowB_num (b : UInt8) : (65 ≤ b.toNat ∧ b.toNat ≤ 90 → (lowB b).toNat = b.toNat + 32) ∧ (¬ (65 ≤ b.toNat ∧ b.toNat ≤ 90) → lowB b = b) := by
  unfold lowB
  constructor
  · intro h
    rw [if_pos h, UInt8.toNat_add]
    have : (32 : UInt8).toNat = 32 := rfl
    omega
  · intro h; rw [if_neg h]
theorem lower_any (b : UInt8) (w : World) : Calls Tryd.prog 34 #[vb b] w fun e w' => e = .returned (vb (lowB b)) ∧ w' = w := by
  obtain ⟨h1, h2⟩ := lowB_num b
  have hl := b.toNat_lt
  have hv : vb b = .int .u8 (b.toNat : Int) := rfl
  by_cases h : 65 ≤ b.toNat ∧ b.toNat ≤ 90
  · have hr : vb (lowB b) = .int .u8 ((b.toNat : Int) + 32) := by
      show Value.int .u8 (bn _) = _
      unfold bn; rw [h1 h]; rfl
    rw [hr, hv]
    obtain ⟨X, hX⟩ : ∃ X : Int, X = (b.toNat : Int) := ⟨_, rfl⟩
    rw [← hX]
    have g1 : 65 ≤ X := by omega
    have g2 : X ≤ 90 := by omega
    have hs : X - 65 + 97 = X + 32 := by omega
    have HS := Lib.hid hs
    clear h1 h2 hl hv h hr hX hs
    go_enter Tryd.func34, Tryd.ntmps34
    go_wp2_with fail
    go_ret
    exact ⟨by rw [← HS.out]; rfl, rfl⟩
  · rw [h2 h, hv]
    obtain ⟨X, hX⟩ : ∃ X : Int, X = (b.toNat : Int) := ⟨_, rfl⟩
    rw [← hX]
    by_cases h3 : 65 ≤ X
    · have g2 : decide (X ≤ 90) = false := decide_eq_false (by omega)
      have g3 : X ≤ 255 := by omega
      clear h1 h2 hl hv h hX
      go_enter Tryd.func34, Tryd.ntmps34
      go_wp2_with fail
      go_ret
      exact ⟨rfl, rfl⟩
    · have g2 : decide (65 ≤ X) = false := decide_eq_false h3
      clear h1 h2 hl hv h hX h3
      go_enter Tryd.func34, Tryd.ntmps34
      go_wp2_with fail
      go_ret
      exact ⟨rfl, rfl⟩
theorem foldB_len {a b : List UInt8} (h : a.length ≠ b.length) : foldB a b = false := by
  unfold foldB
  rw [beq_eq_false_iff_ne]
  intro e
  have := congrArg List.length e
  simp at this; exact h this
theorem foldB_diff {a b : List UInt8} (k : Nat) (ha : k < a.length) (hb : k < b.length) (h : lowB a[k] ≠ lowB b[k]) : foldB a b = false := by
  unfold foldB
  rw [beq_eq_false_iff_ne]
  intro e
  have h1 : (a.map lowB)[k]? = (b.map lowB)[k]? := by rw [e]
  rw [List.getElem?_map, List.getElem?_map, List.getElem?_eq_getElem ha, List.getElem?_eq_getElem hb] at h1
  exact h (by simpa using h1)
theorem foldB_same {a b : List UInt8} (hl : a.length = b.length) (h : ∀ k (ha : k < a.length) (hb : k < b.length), lowB a[k] = lowB b[k]) : foldB a b = true := by
  unfold foldB
  rw [beq_iff_eq]
  apply List.ext_getElem
  · simpa using hl
  · intro k h1 h2
    rw [List.getElem_map, List.getElem_map]
    exact h k (by simpa using h1) (by simpa using h2)
set_option maxHeartbeats 1000000 in
theorem fold_any (a b : List UInt8) (w : World) (ha : a.length ≤ 100000) (_hb : b.length ≤ 100000) : Calls Tryd.prog 16 #[str a, str b] w fun e w' => e = .returned (.bool (foldB a b)) ∧ ∃ n, w' = w.drewN n := by
  by_cases hl : a.length = b.length
  · obtain ⟨P, hP⟩ : ∃ P, P = foldB a b := ⟨_, rfl⟩
    have HP := Lib.hid hP
    have hl2 : ((a.length : Int) == (b.length : Int)) = true := by rw [hl]; simp
    have hl3 : ((a.length : Int) != (b.length : Int)) = false := by rw [hl]; simp
    rw [← hP]
    clear hP
    go_enter Tryd.func16, Tryd.ntmps16
    go_wp2_with fail
    clear hl2 hl3
    go_loopw [13] (fun i wr => ∃ k n : Nat, k ≤ a.length ∧ i = .int .i64 (k : Int) ∧ wr = w.drewN n ∧ ∀ j (h1 : j < a.length) (h2 : j < b.length), j < k → lowB a[j] = lowB b[j]) (fun i _ => a.length - (intOf i).toNat)
    case atStart => exact ⟨0, 0, by omega, rfl, rfl, fun j _ _ h => by omega⟩
    case round =>
      obtain ⟨k, n, hk, rfl, hw, hall⟩ := hrel
      by_cases hlt : k < a.length
      · have hlb : k < b.length := by omega
        have i1 := fun W => str_index a k hlt W
        have i2 := fun W => str_index b k hlb W
        have e1 : a.getD k 0 = a[k] := by rw [List.getD_eq_getElem?_getD, List.getElem?_eq_getElem hlt]; rfl
        have e2 : b.getD k 0 = b[k] := by rw [List.getD_eq_getElem?_getD, List.getElem?_eq_getElem hlb]; rfl
        rw [e1] at i1
        rw [e2] at i2
        have HNO := Lib.hid (fun (h : lowB a[k] ≠ lowB b[k]) => show P = false by rw [HP.out]; exact foldB_diff k hlt hlb h)
        have HYES := Lib.hid (fun (h : lowB a[k] = lowB b[k]) => show ∀ j (h1 : j < a.length) (h2 : j < b.length), j < k + 1 → lowB a[j] = lowB b[j] from fun j h1 h2 hj => by
          by_cases e : j = k
          · subst e; exact h
          · exact hall j h1 h2 (by omega))
        obtain ⟨x, hx⟩ : ∃ x, x = a[k] := ⟨_, rfl⟩
        obtain ⟨y, hy⟩ : ∃ y, y = b[k] := ⟨_, rfl⟩
        rw [← hx] at i1 HNO HYES
        rw [← hy] at i2 HNO HYES
        have HW := Lib.hid hw
        clear e1 e2 hx hy hall hw
        by_cases hxy : lowB x = lowB y
        · have hb1 : (bn (lowB x) == bn (lowB y)) = true := by rw [hxy]; simp
          have hb2 : (bn (lowB x) != bn (lowB y)) = false := by rw [hxy]; simp
          have HY := Lib.hid (HYES.out hxy)
          clear hxy
          go_wp2_with fail
          go_quiet ((go_at_call 34; exact Calls.quiet_of_same (lower_any _ _)))
          go_wp2_with fail
          go_roundw
          case rel => exact ⟨k + 1, _, by omega, by go_num, by rw [HW.out]; exact drew2 _ _ _, HY.out⟩
          case measure => simp [intOf]; omega
        · have hb1 : (bn (lowB x) == bn (lowB y)) = false := by rw [beq_eq_false_iff_ne]; exact fun e => hxy (bn_inj e)
          have hb2 : (bn (lowB x) != bn (lowB y)) = true := by rw [bne_iff_ne]; exact fun e => hxy (bn_inj e)
          obtain rfl := HNO.out hxy
          clear hxy
          go_wp2_with fail
          go_quiet ((go_at_call 34; exact Calls.quiet_of_same (lower_any _ _)))
          go_wp2_with fail
          go_ret
          exact ⟨rfl, _, by rw [HW.out]; exact drew2 _ _ _⟩
      · have hP1 : P = true := by rw [HP.out]; exact foldB_same hl (fun j h1 h2 => hall j h1 h2 (by omega))
        subst hP1
        have HW := Lib.hid hw
        clear hall hw
        go_wp2_with fail
        go_ret
        exact ⟨rfl, n, HW.out⟩
  · rw [foldB_len hl]
    have hl2 : ((a.length : Int) == (b.length : Int)) = false := by rw [beq_eq_false_iff_ne]; omega
    have hl3 : ((a.length : Int) != (b.length : Int)) = true := by rw [bne_iff_ne]; omega
    clear hl
    go_enter Tryd.func16, Tryd.ntmps16
    go_wp2_with fail
    go_ret
    exact ⟨rfl, 0, rfl⟩
end Go.Proofs.YtgipbkopndghdaaDoor
