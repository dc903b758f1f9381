/- rule.New once more, with where its memory lies. -/
import Derived.Test.YthpkmdojeegleaaGreatDoorRuPol
set_option maxRecDepth 100000
namespace Go.Proofs.YthpkmdojeegleaaGreatDoor
open Go.RowKit Go.Shelf
attribute [local go_sem] Oper.semAt_some
/-- What New gives, where its memory lies said too. -/
def NewF (xs : List RuL) (w : World) (e : Ending) (w' : World) : Prop :=
  ∃ pv x, e = .returned (.tuple #[pv, .int .i64 x]) ∧ ((xs.all validB = false ∧ pv = .pointer none ∧ x = 4) ∨ (xs.all validB = true ∧ 32 < xs.length ∧ pv = .pointer none ∧ x = 8) ∨
    (xs.all validB = true ∧ xs.length ≤ 32 ∧ x = 0 ∧ ∃ p v, pv = .pointer (some ⟨p, 0, none⟩) ∧ w.heap.size ≤ p ∧ p < w'.heap.size ∧ w'.cell? ⟨p, 0, none⟩ = some v ∧ OwnR 41 w' w.heap.size v xs ∧ v.ownBlock ≠ some p)) ∧ Below w.heap.size w w'
set_option maxHeartbeats 1000000 in
theorem new_fresh (B : Nat) (v : Value) (xs : List RuL) (w : World) (hE : Env w) (hv : RlIn w B v xs) (hB : B ≤ w.heap.size) (hs : ∀ r ∈ xs, SmallR r) (hl : xs.length ≤ 5000) :
    Calls Tryz.prog 17 #[v] w (NewF xs w) := by
  have HC := Lib.hid (containsF_any B v xs w hE hv hB hs hl)
  have HCL := Lib.hid (fun W (h : Below w.heap.size w W) => cloneR_any B v xs W (hv.below h hB) (Nat.le_trans hB h.size) hl)
  obtain ⟨A, c, rfl, _⟩ := hv
  have hdef : ∀ e w', NewF xs w e w' ↔ NewF xs w e w' := fun _ _ => Iff.rfl
  obtain ⟨P, hP⟩ : ∃ P, P = xs.all validB := ⟨_, rfl⟩
  rw [← hP] at HC
  have HP := Lib.hid hP
  clear hP hE hs hdef
  cases P with
  | false =>
    go_enter Tryz.func17, Tryz.ntmps17
    go_wp2_with fail
    refine HC.out.mono ?_
    rintro e w1 ⟨rfl, hB1⟩
    have HB1 := Lib.hid hB1; clear hB1 HC
    go_wp2_with fail
    go_ret2
    exact ⟨_, _, rfl, .inl ⟨HP.out.symm, rfl, rfl⟩, HB1.out⟩
  | true =>
    by_cases h32 : xs.length ≤ 32
    · have h1 : ¬ (32 : Int) < (xs.length : Int) := by omega
      go_enter Tryz.func17, Tryz.ntmps17
      go_wp2_with fail
      refine HC.out.mono ?_
      rintro e w1 ⟨rfl, hB1⟩
      have HB1 := Lib.hid hB1; clear hB1 HC
      go_wp2_with fail
      refine (HCL.out _ HB1.out).mono ?_
      rintro e w2 ⟨v2, rfl, hO, hB2⟩
      have hb2 : Below w2.heap.size w2 (w2.alloc (.cells #[v2] 70)) := (Below.refl _ w2).alloc (Nat.le_refl _) _
      have HPO := Lib.hid (show ∃ p v, (Value.pointer (some ⟨w2.heap.size, 0, none⟩)) = .pointer (some ⟨p, 0, none⟩) ∧ w.heap.size ≤ p ∧ p < (w2.alloc (.cells #[v2] 70)).heap.size ∧ (w2.alloc (.cells #[v2] 70)).cell? ⟨p, 0, none⟩ = some v ∧ OwnR 41 (w2.alloc (.cells #[v2] 70)) w.heap.size v xs ∧ v.ownBlock ≠ some p from
        ⟨_, v2, rfl, by have := HB1.out.size; have := hB2.size; omega, by simp, by rw [World.cell?_alloc_at _ _ _ _ (by simp)]; rfl, (hO.below hb2).le HB1.out.size, fun e => by have := (hO.lt _ e).2; omega⟩)
      obtain ⟨A2, c2, rfl, _⟩ := hO.form
      have HB2 := Lib.hid ((HB1.out.trans (hB2.mono HB1.out.size)).alloc (by have := HB1.out.size; have := hB2.size; omega) (.cells #[.slice A2 xs.length c2] 70)); clear hB2 hO hb2 HCL
      go_wp2_with fail
      go_ret2
      exact ⟨_, _, rfl, .inr (.inr ⟨HP.out.symm, h32, rfl, HPO.out⟩), HB2.out⟩
    · have h1 : (32 : Int) < (xs.length : Int) := by omega
      go_enter Tryz.func17, Tryz.ntmps17
      go_wp2_with fail
      refine HC.out.mono ?_
      rintro e w1 ⟨rfl, hB1⟩
      have HB1 := Lib.hid hB1; clear hB1 HC
      go_wp2_with fail
      go_ret2
      exact ⟨_, _, rfl, .inr (.inl ⟨HP.out.symm, by omega, rfl, rfl⟩), HB1.out⟩
end Go.Proofs.YthpkmdojeegleaaGreatDoor
