/- The library's Delete of the first bytes of a slice of one's own, and its Clone. -/
import Derived.Test.YtlobmffcnobgeaaDoorFrDel
set_option maxRecDepth 100000
namespace Go.Proofs.YtlobmffcnobgeaaDoor
open Go.RowKit
attribute [local go_sem] Oper.semAt_some
theorem clone_nil (w : World) : Calls Tryd.prog 37 #[.slice none 0 0] w fun e w' => e = .returned (.slice none 0 0) ∧ w' = w := by
  have hnil := Lib.run_eql_slice_nil (P := Tryd.prog) w 29 5 none 0 0 0 0 Tryd.underlying29
  go_enter Tryd.func37, Tryd.ntmps37
  go_wp2_with fail
  go_ret
  exact ⟨rfl, rfl⟩
theorem clone_all (B : Nat) (v : Value) (l : List UInt8) (w : World) (hv : Sl w B v l) (hB : B ≤ w.heap.size) (hl : l.length ≤ 1000000) :
    Calls Tryd.prog 37 #[v] w fun e w' => ∃ v', e = .returned v' ∧ OwnB w' w.heap.size v' l ∧ Below w.heap.size w w' := by
  obtain ⟨A, c, rfl, h0, h1, h2, h3⟩ := id hv
  cases A with
  | some a => exact clone_any B a _ c l w hv hB hl
  | none =>
    obtain rfl := h0 rfl
    obtain rfl : l = [] := List.eq_nil_of_length_eq_zero (by omega)
    refine (clone_nil w).mono ?_
    rintro e w' ⟨rfl, rfl⟩
    exact ⟨_, rfl, OwnB.nil _ _, Below.refl _ _⟩
theorem del_first (base : Nat) (v : Value) (l : List UInt8) (n : Nat) (w : World) (h : OwnB w base v l) (hn : n ≤ l.length) (hl : l.length ≤ 1000000) :
    Calls Tryd.prog 38 #[v, .int .i64 0, .int .i64 (n : Int)] w fun e w' => ∃ v', e = .returned v' ∧ OwnB w' base v' (l.drop n) ∧ v'.ownBlock = v.ownBlock ∧ w.grownBy w' v.ownBlock := by
  rcases h.parts with ⟨rfl, rfl⟩ | ⟨g, cap, rfl, _, hg, hc, hm, _, _⟩
  · obtain rfl : n = 0 := by simp at hn; exact hn
    have HO := Lib.hid h; clear h
    go_enter Tryd.func38, Tryd.ntmps38
    go_wp2_with fail
    go_ret
    exact ⟨_, rfl, HO.out, rfl, World.grownBy.refl _ _⟩
  · by_cases h0 : n = 0
    · subst h0
      have HO := Lib.hid h; clear h
      unfold maxLen at hm
      obtain ⟨N, hN⟩ : ∃ N, N = l.length := ⟨_, rfl⟩
      rw [← hN] at hc HO ⊢
      clear hN
      go_enter Tryd.func38, Tryd.ntmps38
      go_wp2_with fail
      go_ret
      exact ⟨_, rfl, HO.out, rfl, World.grownBy.refl _ _⟩
    · refine (delete_any base g cap l n w h hn (by omega) hl).mono ?_
      rintro e w' ⟨rfl, h1, h2⟩
      exact ⟨_, rfl, h1, rfl, h2⟩
end Go.Proofs.YtlobmffcnobgeaaDoor
