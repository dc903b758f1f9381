/- name: the reference's first sign, walked. -/
import Derived.Test.YtpphccjpdkcnmaaDoorNmFirst
namespace Go.Proofs.YtpphccjpdkcnmaaDoor
open Go.RowKit Go.Shelf
theorem bn_lt' (x : UInt8) : 0 ≤ (x.toNat : Int) ∧ (x.toNat : Int) < 256 := by have := x.toNat_lt; omega
theorem fst_tail (l : List UInt8) (n k : Nat) (R : Int) (hk : k < n) (hl : n ≤ l.length) :
    tlR (n - k) (l.drop k) R = if 128 ≤ (l.getD k 0).toNat ∧ (l.getD k 0).toNat ≤ 191 then tlR (n - (k + 1)) (l.drop (k + 1)) (R * 64 + (((l.getD k 0).toNat : Int) - 128)) else none := by
  rw [fst_at l k (by omega), show n - k = (n - (k + 1)) + 1 by omega, tlR_cons]
/-- How great what is read of k bytes can be. -/
def leR (k : Nat) (R : Int) : Prop := 0 ≤ R ∧ (k = 1 → R < 64) ∧ (k = 2 → R < 4096) ∧ (k = 3 → R < 262144) ∧ (k = 4 → R < 16777216)
set_option maxRecDepth 100000 in
set_option maxHeartbeats 4000000 in
theorem refFirst_any (l : List UInt8) (w : World) (h0 : 0 < l.length) (hl : l.length ≤ 1000) :
    Calls Tryd.prog 27 #[str l] w fun e w' => e = .returned (.tuple #[.int .i64 (fstL l).1, .int .i64 ((fstL l).2 : Int)]) ∧ w = w' := by
  have hi : (Instr.index 9 (str l) (.int .i64 0)).run Tryd.prog w = .ok (vb (l.getD 0 0)) w := str_index l 0 h0 w
  have hF : ∀ q, fstL l = q → (Value.tuple #[.int .i64 (fstL l).1, .int .i64 ((fstL l).2 : Int)]) = .tuple #[.int .i64 q.1, .int .i64 (q.2 : Int)] := fun q e => by rw [e]
  have hb := bn_lt' (l.getD 0 0)
  have hv : vb (l.getD 0 0) = .int .u8 ((l.getD 0 0).toNat : Int) := rfl
  rw [hv] at hi
  have hfst : fstL l = if (l.getD 0 0).toNat < 128 then (((l.getD 0 0).toNat : Int), 1) else if 194 ≤ (l.getD 0 0).toNat ∧ (l.getD 0 0).toNat ≤ 223 then fstN 2 (((l.getD 0 0).toNat : Int) - 192) l else if 224 ≤ (l.getD 0 0).toNat ∧ (l.getD 0 0).toNat ≤ 239 then fstN 3 (((l.getD 0 0).toNat : Int) - 224) l else if 240 ≤ (l.getD 0 0).toNat ∧ (l.getD 0 0).toNat ≤ 244 then fstN 4 (((l.getD 0 0).toNat : Int) - 240) l else (-1, 1) := rfl
  obtain ⟨c, hc⟩ : ∃ c : Nat, c = (l.getD 0 0).toNat := ⟨_, rfl⟩
  rw [← hc] at hi hb hfst
  clear hc hv
  obtain ⟨q, hq⟩ : ∃ q, q = fstL l := ⟨_, rfl⟩
  rw [← hq] at hfst ⊢
  clear hF hq
  have step : ∀ (n : Nat) (C : Int), 2 ≤ n → n ≤ 4 → 0 ≤ C → C < 64 → q = fstN n C l → (l.length < n → q = (-1, 1)) ∧ (n ≤ l.length → q = resR n (tlR (n - 1) (l.drop 1) C)) := by
    intro n C _ _ _ _ e
    unfold fstN at e
    exact ⟨fun h => by rw [e, if_pos h], fun h => by rw [e, if_neg (by omega)]⟩
  by_cases c1 : c < 128
  · rw [if_pos c1] at hfst
    subst hfst
    clear step
    go_enter Tryd.func27, Tryd.ntmps27
    go_wp2_with fail
    go_ret2
    exact ⟨rfl, rfl⟩
  · rw [if_neg c1] at hfst
    by_cases c2 : ¬ (194 ≤ c ∧ c ≤ 223) ∧ ¬ (224 ≤ c ∧ c ≤ 239) ∧ ¬ (240 ≤ c ∧ c ≤ 244)
    · rw [if_neg c2.1, if_neg c2.2.1, if_neg c2.2.2] at hfst
      subst hfst
      clear step
      rcases Nat.lt_or_ge c 194 with h | h
      · clear c2
        go_enter Tryd.func27, Tryd.ntmps27
        go_wp2_with fail
        go_ret2
        exact ⟨rfl, rfl⟩
      · have : 245 ≤ c := by omega
        clear c2
        go_enter Tryd.func27, Tryd.ntmps27
        go_wp2_with fail
        go_ret2
        exact ⟨rfl, rfl⟩
    · have hcl : ∃ (n : Nat) (B : Int), ((n = 2 ∧ B = 192 ∧ 194 ≤ c ∧ c ≤ 223) ∨ (n = 3 ∧ B = 224 ∧ 224 ≤ c ∧ c ≤ 239) ∨ (n = 4 ∧ B = 240 ∧ 240 ≤ c ∧ c ≤ 244)) ∧ q = fstN n ((c : Int) - B) l := by
        by_cases d2 : 194 ≤ c ∧ c ≤ 223
        · exact ⟨2, 192, .inl ⟨rfl, rfl, d2.1, d2.2⟩, by rw [hfst, if_pos d2]⟩
        · by_cases d3 : 224 ≤ c ∧ c ≤ 239
          · exact ⟨3, 224, .inr (.inl ⟨rfl, rfl, d3.1, d3.2⟩), by rw [hfst, if_neg d2, if_pos d3]⟩
          · have d4 : 240 ≤ c ∧ c ≤ 244 := by omega
            exact ⟨4, 240, .inr (.inr ⟨rfl, rfl, d4.1, d4.2⟩), by rw [hfst, if_neg d2, if_neg d3, if_pos d4]⟩
      clear c2 hfst
      obtain ⟨n, B, hcl, hq⟩ := hcl
      have hs := step n ((c : Int) - B) (by omega) (by omega) (by omega) (by omega) hq
      clear step hq
      have hle : leR 1 ((c : Int) - B) := ⟨by omega, fun _ => by omega, fun h => by omega, fun h => by omega, fun h => by omega⟩
      have HLE := Lib.hid hle; clear hle
      have HS := Lib.hid hs; clear hs
      rcases hcl with ⟨rfl, rfl, hc1, hc2⟩ | ⟨rfl, rfl, hc1, hc2⟩ | ⟨rfl, rfl, hc1, hc2⟩
      · by_cases hlen : l.length < 2
        · obtain rfl := HS.out.1 hlen
          clear HS HLE
          go_enter Tryd.func27, Tryd.ntmps27
          go_wp2_with fail
          go_ret2
          exact ⟨rfl, rfl⟩
        · have hq := HS.out.2 (by omega)
          clear HS
          have HQ := Lib.hid hq; clear hq
          go_enter Tryd.func27, Tryd.ntmps27
          go_wp2_with fail
          have d223 : decide ((c : Int) ≤ 223) = true := decide_eq_true (by omega)
          try simp only [d223]
          clear d223
          go_loop [6, 7] (fun r i => ∃ (k : Nat) (R : Int), 1 ≤ k ∧ k ≤ 2 ∧ i = .int .i64 (k : Int) ∧ r = .int .i64 R ∧ leR k R ∧ q = resR 2 (tlR (2 - k) (l.drop k) R)) (fun _ i => 2 - (intOf i).toNat)
          case atStart => exact ⟨1, _, by omega, by omega, rfl, rfl, HLE.out, HQ.out⟩
          case round =>
            obtain ⟨k, R, hk1, hk2, rfl, rfl, hR, hq⟩ := hrel
            clear HQ HLE hi
            obtain ⟨r0, r1, r2, r3, r4⟩ := hR
            by_cases hlt : k < 2
            · have ht := fst_tail l 2 k R hlt (by omega)
              have hik : (Instr.index 9 (str l) (.int .i64 (k : Int))).run Tryd.prog w = .ok (vb (l.getD k 0)) w := str_index l k (by omega) w
              have hbx := bn_lt' (l.getD k 0)
              have htl := tail_any (l.getD k 0) w
              rw [ht] at hq
              clear ht
              obtain ⟨x, hx⟩ : ∃ x, x = l.getD k 0 := ⟨_, rfl⟩
              rw [← hx] at hik hbx htl hq
              clear hx
              have hRb : R < 262144 := by omega
              by_cases hxt : 128 ≤ x.toNat ∧ x.toNat ≤ 191
              · rw [if_pos hxt] at hq
                have hd : (decide (128 ≤ x.toNat) && decide (x.toNat ≤ 191)) = true := by simp [hxt.1, hxt.2]
                rw [hd] at htl
                have HQ := Lib.hid hq; clear hq hd
                have hle : leR (k + 1) (R * 64 + ((x.toNat : Int) - 128)) := ⟨by omega, fun _ => by omega, fun _ => by omega, fun _ => by omega, fun _ => by omega⟩
                have HLE := Lib.hid hle; clear hle r1 r2 r3 r4
                have hx1 : (128 : Int) ≤ (x.toNat : Int) := by omega
                have hx2 : (x.toNat : Int) ≤ 191 := by omega
                obtain ⟨X, hX⟩ : ∃ X : Int, X = (x.toNat : Int) := ⟨_, rfl⟩
                have hv : vb x = .int .u8 X := by rw [hX]; rfl
                rw [← hX] at HQ HLE hx1 hx2 hbx
                clear hX hxt
                rw [hv] at hik htl
                clear hv
                go_wp2_with fail
                refine htl.mono ?_
                rintro e w1 ⟨rfl, rfl⟩
                clear htl
                go_wp2_with fail
                go_round
                case rel => exact ⟨k + 1, R * 64 + (X - 128), by omega, by omega, by go_num, rfl, HLE.out, HQ.out⟩
                case measure => simp [intOf]; omega
              · rw [if_neg hxt] at hq
                have hd : (decide (128 ≤ x.toNat) && decide (x.toNat ≤ 191)) = false := by
                  rw [Bool.and_eq_false_iff, decide_eq_false_iff_not, decide_eq_false_iff_not]; omega
                rw [hd] at htl
                have hq2 : q = (-1, 1) := hq
                subst hq2
                clear hd hxt r1 r2 r3 r4
                go_wp2_with fail
                refine htl.mono ?_
                rintro e w1 ⟨rfl, rfl⟩
                clear htl
                go_wp2_with fail
                go_ret2
                exact ⟨rfl, rfl⟩
            · obtain rfl : k = 2 := by omega
              have hq2 : q = if badR 2 R then (-1, 1) else (R, 2) := by rw [hq]; rfl
              clear hq
              have e2 : ((2 : Nat) : Int) = 2 := rfl
              rw [e2]
              clear e2
              have hRb : R < 4096 := by omega
              clear hlt r1 r2 r3 r4 hk1 hk2 hlen
              by_cases hbad : badR 2 R
              · rw [if_pos hbad] at hq2
                subst hq2
                unfold badR at hbad
                exfalso; omega
              · rw [if_neg hbad] at hq2
                subst hq2
                unfold badR at hbad
                clear hbad
                go_wp2_with fail
                go_ret2
                exact ⟨rfl, rfl⟩
      · by_cases hlen : l.length < 3
        · obtain rfl := HS.out.1 hlen
          clear HS HLE
          go_enter Tryd.func27, Tryd.ntmps27
          go_wp2_with fail
          go_ret2
          exact ⟨rfl, rfl⟩
        · have hq := HS.out.2 (by omega)
          clear HS
          have HQ := Lib.hid hq; clear hq
          go_enter Tryd.func27, Tryd.ntmps27
          go_wp2_with fail
          have d223 : decide ((c : Int) ≤ 223) = false := decide_eq_false (by omega)
          have d239 : decide ((c : Int) ≤ 239) = true := decide_eq_true (by omega)
          try simp only [d223]
          try simp only [d239]
          clear d223 d239
          go_loop [6, 7] (fun r i => ∃ (k : Nat) (R : Int), 1 ≤ k ∧ k ≤ 3 ∧ i = .int .i64 (k : Int) ∧ r = .int .i64 R ∧ leR k R ∧ q = resR 3 (tlR (3 - k) (l.drop k) R)) (fun _ i => 3 - (intOf i).toNat)
          case atStart => exact ⟨1, _, by omega, by omega, rfl, rfl, HLE.out, HQ.out⟩
          case round =>
            obtain ⟨k, R, hk1, hk2, rfl, rfl, hR, hq⟩ := hrel
            clear HQ HLE hi
            obtain ⟨r0, r1, r2, r3, r4⟩ := hR
            by_cases hlt : k < 3
            · have ht := fst_tail l 3 k R hlt (by omega)
              have hik : (Instr.index 9 (str l) (.int .i64 (k : Int))).run Tryd.prog w = .ok (vb (l.getD k 0)) w := str_index l k (by omega) w
              have hbx := bn_lt' (l.getD k 0)
              have htl := tail_any (l.getD k 0) w
              rw [ht] at hq
              clear ht
              obtain ⟨x, hx⟩ : ∃ x, x = l.getD k 0 := ⟨_, rfl⟩
              rw [← hx] at hik hbx htl hq
              clear hx
              have hRb : R < 262144 := by omega
              by_cases hxt : 128 ≤ x.toNat ∧ x.toNat ≤ 191
              · rw [if_pos hxt] at hq
                have hd : (decide (128 ≤ x.toNat) && decide (x.toNat ≤ 191)) = true := by simp [hxt.1, hxt.2]
                rw [hd] at htl
                have HQ := Lib.hid hq; clear hq hd
                have hle : leR (k + 1) (R * 64 + ((x.toNat : Int) - 128)) := ⟨by omega, fun _ => by omega, fun _ => by omega, fun _ => by omega, fun _ => by omega⟩
                have HLE := Lib.hid hle; clear hle r1 r2 r3 r4
                have hx1 : (128 : Int) ≤ (x.toNat : Int) := by omega
                have hx2 : (x.toNat : Int) ≤ 191 := by omega
                obtain ⟨X, hX⟩ : ∃ X : Int, X = (x.toNat : Int) := ⟨_, rfl⟩
                have hv : vb x = .int .u8 X := by rw [hX]; rfl
                rw [← hX] at HQ HLE hx1 hx2 hbx
                clear hX hxt
                rw [hv] at hik htl
                clear hv
                go_wp2_with fail
                refine htl.mono ?_
                rintro e w1 ⟨rfl, rfl⟩
                clear htl
                go_wp2_with fail
                go_round
                case rel => exact ⟨k + 1, R * 64 + (X - 128), by omega, by omega, by go_num, rfl, HLE.out, HQ.out⟩
                case measure => simp [intOf]; omega
              · rw [if_neg hxt] at hq
                have hd : (decide (128 ≤ x.toNat) && decide (x.toNat ≤ 191)) = false := by
                  rw [Bool.and_eq_false_iff, decide_eq_false_iff_not, decide_eq_false_iff_not]; omega
                rw [hd] at htl
                have hq2 : q = (-1, 1) := hq
                subst hq2
                clear hd hxt r1 r2 r3 r4
                go_wp2_with fail
                refine htl.mono ?_
                rintro e w1 ⟨rfl, rfl⟩
                clear htl
                go_wp2_with fail
                go_ret2
                exact ⟨rfl, rfl⟩
            · obtain rfl : k = 3 := by omega
              have hq2 : q = if badR 3 R then (-1, 1) else (R, 3) := by rw [hq]; rfl
              clear hq
              have e2 : ((3 : Nat) : Int) = 3 := rfl
              rw [e2]
              clear e2
              have hRb : R < 262144 := by omega
              clear hlt r1 r2 r3 r4 hk1 hk2 hlen
              by_cases hbad : badR 3 R
              · rw [if_pos hbad] at hq2
                subst hq2
                unfold badR at hbad
                rcases (show R < 2048 ∨ 2048 ≤ R by omega) with h | h
                · skip
                  clear hbad
                  go_wp2_with fail
                  go_ret2
                  exact ⟨rfl, rfl⟩
                · have h2 : 55296 ≤ R ∧ R ≤ 57343 := by omega
                  obtain ⟨h3, h4⟩ := h2
                  skip
                  clear hbad
                  go_wp2_with fail
                  go_ret2
                  exact ⟨rfl, rfl⟩
              · rw [if_neg hbad] at hq2
                subst hq2
                unfold badR at hbad
                have h : 2048 ≤ R := by omega
                rcases (show R < 55296 ∨ 55296 ≤ R by omega) with h2 | h2
                · skip
                  clear hbad
                  go_wp2_with fail
                  go_ret2
                  exact ⟨rfl, rfl⟩
                · have h3 : 57343 < R := by omega
                  skip
                  clear hbad
                  go_wp2_with fail
                  go_ret2
                  exact ⟨rfl, rfl⟩
      · by_cases hlen : l.length < 4
        · obtain rfl := HS.out.1 hlen
          clear HS HLE
          go_enter Tryd.func27, Tryd.ntmps27
          go_wp2_with fail
          go_ret2
          exact ⟨rfl, rfl⟩
        · have hq := HS.out.2 (by omega)
          clear HS
          have HQ := Lib.hid hq; clear hq
          go_enter Tryd.func27, Tryd.ntmps27
          go_wp2_with fail
          have d223 : decide ((c : Int) ≤ 223) = false := decide_eq_false (by omega)
          have d239 : decide ((c : Int) ≤ 239) = false := decide_eq_false (by omega)
          have d244 : decide ((c : Int) ≤ 244) = true := decide_eq_true (by omega)
          try simp only [d223]
          try simp only [d239]
          try simp only [d244]
          clear d223 d239 d244
          go_loop [6, 7] (fun r i => ∃ (k : Nat) (R : Int), 1 ≤ k ∧ k ≤ 4 ∧ i = .int .i64 (k : Int) ∧ r = .int .i64 R ∧ leR k R ∧ q = resR 4 (tlR (4 - k) (l.drop k) R)) (fun _ i => 4 - (intOf i).toNat)
          case atStart => exact ⟨1, _, by omega, by omega, rfl, rfl, HLE.out, HQ.out⟩
          case round =>
            obtain ⟨k, R, hk1, hk2, rfl, rfl, hR, hq⟩ := hrel
            clear HQ HLE hi
            obtain ⟨r0, r1, r2, r3, r4⟩ := hR
            by_cases hlt : k < 4
            · have ht := fst_tail l 4 k R hlt (by omega)
              have hik : (Instr.index 9 (str l) (.int .i64 (k : Int))).run Tryd.prog w = .ok (vb (l.getD k 0)) w := str_index l k (by omega) w
              have hbx := bn_lt' (l.getD k 0)
              have htl := tail_any (l.getD k 0) w
              rw [ht] at hq
              clear ht
              obtain ⟨x, hx⟩ : ∃ x, x = l.getD k 0 := ⟨_, rfl⟩
              rw [← hx] at hik hbx htl hq
              clear hx
              have hRb : R < 262144 := by omega
              by_cases hxt : 128 ≤ x.toNat ∧ x.toNat ≤ 191
              · rw [if_pos hxt] at hq
                have hd : (decide (128 ≤ x.toNat) && decide (x.toNat ≤ 191)) = true := by simp [hxt.1, hxt.2]
                rw [hd] at htl
                have HQ := Lib.hid hq; clear hq hd
                have hle : leR (k + 1) (R * 64 + ((x.toNat : Int) - 128)) := ⟨by omega, fun _ => by omega, fun _ => by omega, fun _ => by omega, fun _ => by omega⟩
                have HLE := Lib.hid hle; clear hle r1 r2 r3 r4
                have hx1 : (128 : Int) ≤ (x.toNat : Int) := by omega
                have hx2 : (x.toNat : Int) ≤ 191 := by omega
                obtain ⟨X, hX⟩ : ∃ X : Int, X = (x.toNat : Int) := ⟨_, rfl⟩
                have hv : vb x = .int .u8 X := by rw [hX]; rfl
                rw [← hX] at HQ HLE hx1 hx2 hbx
                clear hX hxt
                rw [hv] at hik htl
                clear hv
                go_wp2_with fail
                refine htl.mono ?_
                rintro e w1 ⟨rfl, rfl⟩
                clear htl
                go_wp2_with fail
                go_round
                case rel => exact ⟨k + 1, R * 64 + (X - 128), by omega, by omega, by go_num, rfl, HLE.out, HQ.out⟩
                case measure => simp [intOf]; omega
              · rw [if_neg hxt] at hq
                have hd : (decide (128 ≤ x.toNat) && decide (x.toNat ≤ 191)) = false := by
                  rw [Bool.and_eq_false_iff, decide_eq_false_iff_not, decide_eq_false_iff_not]; omega
                rw [hd] at htl
                have hq2 : q = (-1, 1) := hq
                subst hq2
                clear hd hxt r1 r2 r3 r4
                go_wp2_with fail
                refine htl.mono ?_
                rintro e w1 ⟨rfl, rfl⟩
                clear htl
                go_wp2_with fail
                go_ret2
                exact ⟨rfl, rfl⟩
            · obtain rfl : k = 4 := by omega
              have hq2 : q = if badR 4 R then (-1, 1) else (R, 4) := by rw [hq]; rfl
              clear hq
              have e2 : ((4 : Nat) : Int) = 4 := rfl
              rw [e2]
              clear e2
              have hRb : R < 16777216 := by omega
              clear hlt r1 r2 r3 r4 hk1 hk2 hlen
              by_cases hbad : badR 4 R
              · rw [if_pos hbad] at hq2
                subst hq2
                unfold badR at hbad
                rcases (show R < 65536 ∨ 65536 ≤ R by omega) with h | h
                · skip
                  clear hbad
                  go_wp2_with fail
                  go_ret2
                  exact ⟨rfl, rfl⟩
                · have h2 : 1114111 < R := by omega
                  skip
                  clear hbad
                  go_wp2_with fail
                  go_ret2
                  exact ⟨rfl, rfl⟩
              · rw [if_neg hbad] at hq2
                subst hq2
                unfold badR at hbad
                have h : 65536 ≤ R := by omega
                have h2 : R ≤ 1114111 := by omega
                skip
                clear hbad
                go_wp2_with fail
                go_ret2
                exact ⟨rfl, rfl⟩
end Go.Proofs.YtpphccjpdkcnmaaDoor
