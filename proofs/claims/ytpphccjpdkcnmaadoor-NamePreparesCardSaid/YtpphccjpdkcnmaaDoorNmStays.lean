/- name: what was encoded is decoded; what is prepared stays. -/
import Derived.Test.YtpphccjpdkcnmaaDoorNmList
import Derived.Test.YtpphccjpdkcnmaaDoorNmRefBytes
namespace Go.Proofs.YtpphccjpdkcnmaaDoor
open Go.RowKit Go.Shelf
theorem tb (z : Int) (n : Nat) (h : z = (n : Int)) (hn : n < 256) : (z.toNat.toUInt8).toNat = n := by
  subst h
  simp only [Int.toNat_natCast, Nat.toUInt8_eq, UInt8.toNat_ofNat']
  omega
def okR (r : Int) : Prop := (0 ≤ r ∧ r < 55296) ∨ (57343 < r ∧ r ≤ 1114111)
theorem dec_enc (r : Int) (t : List UInt8) (h : okR r) : dec1 (Lib.encodeRune r ++ t) = (r.toNat, (Lib.encodeRune r).length) := by
  have hlen := (Lib.encodeRuneZ_length r).1
  rw [← enc_len] at hlen
  have hne : Lib.encodeRune r ++ t ≠ [] := by
    intro e; have := congrArg List.length e; rw [List.length_append, List.length_nil] at this; omega
  rw [dec1_L _ hne, Lib.decodeL_N]
  obtain ⟨x, rfl⟩ : ∃ x : Nat, r = (x : Int) := ⟨r.toNat, by unfold okR at h; omega⟩
  unfold okR at h
  unfold Lib.encodeRune
  rcases (show x ≤ 127 ∨ (128 ≤ x ∧ x ≤ 2047) ∨ (2048 ≤ x ∧ x ≤ 65535) ∨ (65536 ≤ x ∧ x ≤ 1114111) by omega) with h1 | h1 | h1 | h1
  · rw [Lib.encodeRuneZ_one (by omega) (by omega)]
    show Lib.decodeN (t.length + 1) ((x : Int).toNat.toUInt8).toNat _ _ _ = (x, 1)
    rw [tb _ x rfl (by omega)]
    unfold Lib.decodeN
    rw [if_pos (by omega)]
  · rw [Lib.encodeRuneZ_two (by omega) (by omega)]
    show Lib.decodeN (t.length + 1 + 1) ((192 + (x : Int) / 64).toNat.toUInt8).toNat ((128 + (x : Int) % 64).toNat.toUInt8).toNat _ _ = (x, 2)
    rw [tb _ (192 + x / 64) (by omega) (by omega), tb _ (128 + x % 64) (by omega) (by omega)]
    unfold Lib.decodeN
    rw [if_neg (by omega), if_pos (by omega), if_pos (by omega)]
    apply Prod.ext <;> dsimp only <;> omega
  · rw [Lib.encodeRuneZ_three (by omega)]
    show Lib.decodeN (t.length + 1 + 1 + 1) ((224 + (x : Int) / 4096).toNat.toUInt8).toNat ((128 + (x : Int) / 64 % 64).toNat.toUInt8).toNat ((128 + (x : Int) % 64).toNat.toUInt8).toNat _ = (x, 3)
    rw [tb _ (224 + x / 4096) (by omega) (by omega), tb _ (128 + x / 64 % 64) (by omega) (by omega), tb _ (128 + x % 64) (by omega) (by omega)]
    unfold Lib.decodeN
    rw [if_neg (by omega), if_neg (by omega), if_pos (by omega), if_pos (by omega)]
    apply Prod.ext <;> dsimp only <;> omega
  · rw [Lib.encodeRuneZ_four (by omega) (by omega)]
    show Lib.decodeN (t.length + 1 + 1 + 1 + 1) ((240 + (x : Int) / 262144).toNat.toUInt8).toNat ((128 + (x : Int) / 4096 % 64).toNat.toUInt8).toNat ((128 + (x : Int) / 64 % 64).toNat.toUInt8).toNat ((128 + (x : Int) % 64).toNat.toUInt8).toNat = (x, 4)
    rw [tb _ (240 + x / 262144) (by omega) (by omega), tb _ (128 + x / 4096 % 64) (by omega) (by omega), tb _ (128 + x / 64 % 64) (by omega) (by omega), tb _ (128 + x % 64) (by omega) (by omega)]
    unfold Lib.decodeN
    rw [if_neg (by omega), if_neg (by omega), if_neg (by omega), if_pos (by omega), if_pos (by omega)]
    apply Prod.ext <;> dsimp only <;> omega
theorem enc_pos (r : Int) : 0 < (Lib.encodeRune r).length := by have := (Lib.encodeRuneZ_length r).1; rw [enc_len]; omega
theorem sg_enc (r : Int) (t : List UInt8) (h : okR r) : sg (Lib.encodeRune r ++ t) = r :: sg t := by
  have hp := enc_pos r
  have hne : Lib.encodeRune r ++ t ≠ [] := by
    intro e; have := congrArg List.length e; rw [List.length_append, List.length_nil] at this; omega
  rw [sg_step _ hne, dec_enc r t h, List.drop_left]
  congr 1
  unfold sg1
  have h2 := h
  unfold okR at h2
  by_cases hb : r.toNat = 65533 ∧ (Lib.encodeRune r).length = 1
  · exfalso
    have hr : r = 65533 := by omega
    subst hr
    have : (Lib.encodeRune 65533).length = 3 := by decide +kernel
    omega
  · rw [if_neg hb]; omega
/-- What a sign that may be there leaves. -/
def outS (r : Int) : List Int := if spB r then [32] else if goB r then [] else [r]
theorem prS_32 : prS 32 = [32] := by decide +kernel
theorem enc_32 : Lib.encodeRune 32 = [32] := by decide +kernel
theorem sg_prOs : ∀ xs : List Int, (∀ r ∈ xs, okR r ∧ noB r = false) → sg (prOs xs) = xs.flatMap outS
  | [], _ => rfl
  | r :: t, h => by
    have ih := sg_prOs t (fun x hx => h x (List.mem_cons_of_mem _ hx))
    obtain ⟨h1, h2⟩ := h r (List.mem_cons_self ..)
    have e : prOs (r :: t) = prS r ++ prOs t := rfl
    rw [e, List.flatMap_cons, ← ih]
    unfold prS outS
    cases hs : spB r with
    | true =>
      rw [if_pos rfl, if_pos rfl]
      rw [← enc_32, sg_enc 32 _ (.inl (by omega))]; rfl
    | false =>
      cases hg : goB r with
      | true => simp
      | false =>
        have hb : baB r = false := by unfold noB at h2; rw [hs, hg] at h2; exact h2
        rw [hb]
        simp only [Bool.false_eq_true, if_false]
        rw [sg_enc r _ h1]; rfl
theorem sg_ok : ∀ (n : Nat) (l : List UInt8), l.length ≤ n → ∀ r ∈ sg l, r ≠ -1 → okR r := by
  intro n
  induction n with
  | zero =>
    intro l hl r hr
    have : l = [] := List.eq_nil_of_length_eq_zero (by omega)
    subst this
    simp [sg, sgL] at hr
  | succ n ih =>
    intro l hl r hr hv
    by_cases h : l = []
    · subst h; simp [sg, sgL] at hr
    · have hl0 : 0 < l.length := List.length_pos_iff.2 h
      have hp := dec1_pos l hl0
      rw [sg_step l h] at hr
      rcases List.mem_cons.1 hr with rfl | hr
      · have h1 := (sg1_ok _ hv).2
        have h2 := Lib.rune_valid ⟨l.toArray⟩
        rw [h1, dec1_L l h]
        simp only [Lib.validRune, decide_eq_true_eq] at h2
        unfold okR Lib.decodeL
        omega
      · exact ih _ (by rw [List.length_drop]; omega) r hr hv
/-- What is prepared stays as it is. -/
theorem prep_stays (s : List UInt8) : prepL (prepL s).1 = ((prepL s).1, 0) := by
  have e0 : prepL [] = ([], 0) := by decide +kernel
  by_cases h : (prepL s).2 = 0
  · rw [prepL_sg s] at h ⊢
    unfold prepS at h ⊢
    cases h1 : (sg s).any (fun r => r == -1) with
    | true => rw [h1] at h; exact absurd h (by show ¬ ((4 : Int) = 0); decide)
    | false =>
      rw [h1] at h
      cases h2 : (sg s).any noB with
      | true => rw [h2] at h; exact absurd h (by show ¬ ((5 : Int) = 0); decide)
      | false =>
        show prepL (prOs (sg s)) = (prOs (sg s), 0)
        have hall : ∀ r ∈ sg s, okR r ∧ noB r = false := by
          intro r hr
          rw [List.any_eq_false] at h1 h2
          have hr1 : r ≠ -1 := by intro e; subst e; exact h1 _ hr (by decide)
          exact ⟨sg_ok s.length s (Nat.le_refl _) r hr hr1, by have := h2 r hr; cases hh : noB r; rfl; exact absurd hh this⟩
        rw [prepL_sg, sg_prOs _ hall]
        have key : ∀ xs : List Int, (∀ r ∈ xs, okR r ∧ noB r = false) → (xs.flatMap outS).any (fun r => r == -1) = false ∧ (xs.flatMap outS).any noB = false ∧ prOs (xs.flatMap outS) = prOs xs := by
          intro xs
          induction xs with
          | nil => intro _; exact ⟨rfl, rfl, rfl⟩
          | cons r t ih =>
            intro hx
            obtain ⟨i1, i2, i3⟩ := ih (fun x hx' => hx x (List.mem_cons_of_mem _ hx'))
            obtain ⟨k1, k2⟩ := hx r (List.mem_cons_self ..)
            have hb : ∀ x ∈ outS r, x ≠ -1 ∧ noB x = false ∧ prS x = prS r := by
              intro x hx2
              unfold outS at hx2
              cases hs : spB r with
              | true =>
                rw [hs, if_pos rfl, List.mem_singleton] at hx2
                subst hx2
                refine ⟨by decide, by decide +kernel, ?_⟩
                rw [prS_32]; unfold prS; rw [hs]; rfl
              | false =>
                rw [hs] at hx2
                cases hg : goB r with
                | true => rw [hg] at hx2; simp at hx2
                | false =>
                  rw [hg] at hx2
                  simp only [Bool.false_eq_true, if_false, List.mem_singleton] at hx2
                  subst hx2
                  exact ⟨by unfold okR at k1; omega, k2, rfl⟩
            have ho : outS r = [] ∧ prS r = [] ∨ ∃ x, outS r = [x] := by
              unfold outS prS
              cases hs : spB r <;> cases hg : goB r <;> simp
            rw [List.flatMap_cons, List.any_append, List.any_append, i1, i2]
            rcases ho with ⟨h3, h4⟩ | ⟨x, h3⟩
            · rw [h3]
              refine ⟨rfl, rfl, ?_⟩
              rw [List.nil_append, i3]
              show _ = prS r ++ prOs t
              rw [h4]; rfl
            · obtain ⟨q1, q2, q3⟩ := hb x (by rw [h3]; simp)
              rw [h3]
              refine ⟨by simp [q1], by simp [q2], ?_⟩
              show prS x ++ prOs (t.flatMap outS) = prS r ++ prOs t
              rw [q3, i3]
        obtain ⟨q1, q2, q3⟩ := key _ hall
        unfold prepS
        rw [q1, q2, q3]
        rfl
  · have : (prepL s).1 = [] := by
      unfold prepL at h ⊢
      split
      · rfl
      · rename_i hn
        rw [if_neg hn] at h
        split
        · rename_i hp; rw [if_pos hp] at h; exact absurd rfl h
        · rfl
    rw [this]
    exact e0
theorem prep_bad (s : List UInt8) (h : (prepL s).2 ≠ 0) : (prepL s).1 = [] := by
  unfold prepL at h ⊢
  split
  · rfl
  · rename_i hn
    rw [if_neg hn] at h
    split
    · rename_i hp; rw [if_pos hp] at h; exact absurd rfl h
    · rfl
end Go.Proofs.YtpphccjpdkcnmaaDoor
