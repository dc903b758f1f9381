/- rule.New: its closure, the library's ContainsFunc and Clone over rules; a policy in memory. -/
import Derived.Test.YthpkmdojeegleaaGreatDoorRuVa
import Derived.Lib.SliceRun
set_option maxRecDepth 100000
namespace Go.Proofs.YthpkmdojeegleaaGreatDoor
open Go.RowKit Go.Shelf
attribute [local go_sem] Oper.semAt_some
theorem newf_any (r : RuL) (w : World) (hE : Env w) (hs : SmallR r) : Calls Tryz.prog 37 #[ragg r] w fun e w' => e = .returned (.bool (!validB r)) ∧ Below w.heap.size w w' := by
  obtain ⟨W, hW⟩ : ∃ W, W = w.alloc (.cells #[.bool r.allow, str r.role, str r.ten, str r.host, .int .i64 r.frm, .int .i64 r.til] 41) := ⟨_, rfl⟩
  have HB0 := Lib.hid (show Below w.heap.size w W from by rw [hW]; exact (Below.refl _ w).alloc (Nat.le_refl _) _)
  have hk0 : Blk W w.heap.size [.bool r.allow, str r.role, str r.ten, str r.host, .int .i64 r.frm, .int .i64 r.til] := by rw [hW]; exact Blk.new w _ _
  have HC := Lib.hid (valid_any r W (hE.below HB0.out) hs)
  have d0 := hk0.at (o := 0) rfl
  have d1 := hk0.at (o := 1) rfl
  have d2 := hk0.at (o := 2) rfl
  have d3 := hk0.at (o := 3) rfl
  have d4 := hk0.at (o := 4) rfl
  have d5 := hk0.at (o := 5) rfl
  rw [hW] at d0 d1 d2 d3 d4 d5
  obtain ⟨P, hP⟩ : ∃ P, P = validB r := ⟨_, rfl⟩
  rw [← hP] at HC ⊢
  clear hP hk0 hE hs
  go_enter Tryz.func37, Tryz.ntmps37
  go_wp2_with fail
  try rw [← hW]
  refine HC.out.mono ?_
  rintro e w1 ⟨rfl, hB⟩
  have HB := Lib.hid (HB0.out.trans (hB.mono HB0.out.size)); clear hB HC
  go_wp2_with fail
  go_ret
  exact ⟨rfl, HB.out⟩
theorem allV_take {xs : List RuL} {k : Nat} (hk : k < xs.length) (h : (xs.take k).all validB = true) (h2 : validB xs[k] = true) : (xs.take (k + 1)).all validB = true := by
  rw [List.take_succ_eq_append_getElem hk, List.all_append, h]; simp [h2]
set_option maxHeartbeats 2000000 in
theorem indexF_any (B : Nat) (v : Value) (xs : List RuL) (w : World) (hE : Env w) (hv : RlIn w B v xs) (hB : B ≤ w.heap.size) (hs : ∀ r ∈ xs, SmallR r) (hl : xs.length ≤ 5000) :
    Calls Tryz.prog 55 #[v, .func (.func 37) #[] #[]] w fun e w' => ∃ n : Int, e = .returned (.int .i64 n) ∧ (0 ≤ n ↔ xs.all validB = false) ∧ n < 9223372036854775807 ∧ Below w.heap.size w w' := by
  have HV := Lib.hid hv
  have HE := Lib.hid hE
  obtain ⟨A, c, rfl, hc1, hc2, hq⟩ := hv
  clear hq
  go_enter Tryz.func55, Tryz.ntmps55
  go_wp2_with fail
  go_loopw [5, 8] (fun _ i wr => ∃ k : Nat, k ≤ xs.length ∧ i = .int .i64 (k : Int) ∧ (xs.take k).all validB = true ∧ Below w.heap.size w wr) (fun _ i _ => xs.length - (intOf i).toNat)
  case atStart => exact ⟨0, by omega, rfl, rfl, Below.refl _ _⟩
  case round =>
    obtain ⟨k, hk, rfl, hall, hb⟩ := hrel
    by_cases hlt : k < xs.length
    · obtain ⟨g, o, rfl, hg, e0, e1, e2, e3, e4, e5⟩ := (HV.out.below hb hB).six k hlt
      have HC := Lib.hid (newf_any xs[k] wr (HE.out.below hb) (hs _ (List.getElem_mem hlt)))
      have hyes : validB xs[k] = true → (xs.take (k + 1)).all validB = true := allV_take hlt hall
      have hno : validB xs[k] = false → xs.all validB = false := fun h => by
        rw [← Bool.not_eq_true]; intro h2
        rw [List.all_eq_true] at h2
        rw [h2 _ (List.getElem_mem hlt)] at h; cases h
      obtain ⟨x, hx⟩ : ∃ x, x = xs[k] := ⟨_, rfl⟩
      rw [← hx] at e0 e1 e2 e3 e4 e5 HC hyes hno
      have HYES := Lib.hid hyes
      have HNO := Lib.hid hno
      have HB := Lib.hid hb
      obtain ⟨P, hP⟩ : ∃ P, P = validB x := ⟨_, rfl⟩
      rw [← hP] at HC HYES HNO
      clear hx hyes hno hb hall hP
      cases P with
      | true =>
        have HA := Lib.hid (HYES.out rfl)
        go_wp2_with fail
        refine HC.out.mono ?_
        rintro e w1 ⟨rfl, hB1⟩
        have HB1 := Lib.hid (HB.out.trans (hB1.mono HB.out.size)); clear hB1 HC
        go_wp2_with fail
        go_roundw
        case rel => exact ⟨k + 1, by omega, by go_num, HA.out, HB1.out⟩
        case measure => simp [intOf]; omega
      | false =>
        have HA := Lib.hid (HNO.out rfl)
        go_wp2_with fail
        refine HC.out.mono ?_
        rintro e w1 ⟨rfl, hB1⟩
        have HB1 := Lib.hid (HB.out.trans (hB1.mono HB.out.size)); clear hB1 HC
        go_wp2_with fail
        go_ret
        exact ⟨_, rfl, ⟨fun _ => HA.out, fun _ => by omega⟩, by omega, HB1.out⟩
    · rw [List.take_of_length_le (by omega)] at hall
      have HA := Lib.hid hall
      have HB := Lib.hid hb
      clear hall hb
      go_wp2_with fail
      go_ret
      exact ⟨-1, rfl, ⟨fun h => absurd h (by decide), fun h => by rw [HA.out] at h; cases h⟩, by omega, HB.out⟩
theorem containsF_any (B : Nat) (v : Value) (xs : List RuL) (w : World) (hE : Env w) (hv : RlIn w B v xs) (hB : B ≤ w.heap.size) (hs : ∀ r ∈ xs, SmallR r) (hl : xs.length ≤ 5000) :
    Calls Tryz.prog 36 #[v, .func (.func 37) #[] #[]] w fun e w' => e = .returned (.bool (!xs.all validB)) ∧ Below w.heap.size w w' := by
  have HC := Lib.hid (indexF_any B v xs w hE hv hB hs hl)
  obtain ⟨A, c, rfl, _⟩ := hv
  obtain ⟨P, hP⟩ : ∃ P, P = xs.all validB := ⟨_, rfl⟩
  rw [← hP] at HC ⊢
  clear hP hE hs
  go_enter Tryz.func36, Tryz.ntmps36
  go_wp2_with fail
  refine HC.out.mono ?_
  rintro e w1 ⟨n, rfl, hn, hn2, hB1⟩
  have HB1 := Lib.hid hB1
  clear HC hB1
  cases P with
  | false =>
    have h0 : 0 ≤ n := hn.2 rfl
    clear hn
    go_wp2_with fail
    go_ret
    first | exact ⟨rfl, HB1.out⟩ | exact ⟨by simp [h0], HB1.out⟩
  | true =>
    have h0 : ¬ 0 ≤ n := fun h => by have := hn.1 h; cases this
    have h1 : decide (0 ≤ n) = false := decide_eq_false h0
    clear hn
    go_wp2_with fail
    go_ret
    first | exact ⟨rfl, HB1.out⟩ | exact ⟨by simp [h1], HB1.out⟩
end Go.Proofs.YthpkmdojeegleaaGreatDoor
