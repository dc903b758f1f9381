/- name: Name. -/
import Derived.Test.YtnfkkopegbeacaaDoorNmPrep2
namespace Go.Proofs.YtnfkkopegbeacaaDoor
open Go.RowKit Go.Shelf
def sizL (m : Int) (p : List UInt8 × Int) : List UInt8 × Int := if p.2 ≠ 0 then ([], p.2) else if p.1.length = 0 then ([], 2) else if m < (p.1.length : Int) then ([], 3) else (p.1, 0)
theorem str_nil (p : List UInt8) (h : p.length = 0) : str p = .string ⟨#[]⟩ := by
  have : p = [] := List.eq_nil_of_length_eq_zero h
  subst this; rfl
theorem str_ne (p : List UInt8) (h : p.length ≠ 0) : p.isEmpty = false := by
  cases p with
  | nil => exact absurd rfl h
  | cons => rfl
section
set_option maxRecDepth 100000
theorem prepareAtMost_any (s : List UInt8) (m : Int) (w : World) (hs : s.length ≤ 600) (hT : Lib.Utf8Tabs 0 1 w) :
    Calls Tryd.prog 42 #[str s, .int .i64 m] w fun e w' => e = .returned (.tuple #[str (sizL m (prepL s)).1, .int .i64 (sizL m (prepL s)).2]) ∧ Below w.heap.size w w' := by
  have HC := Lib.hid (prepare_any s w hs hT); clear hT
  obtain ⟨p, x, hp⟩ : ∃ p x, prepL s = (p, x) := ⟨_, _, rfl⟩
  rw [hp] at HC ⊢
  have hd : sizL m (p, x) = if x ≠ 0 then ([], x) else if p.length = 0 then ([], 2) else if m < (p.length : Int) then ([], 3) else (p, 0) := rfl
  clear hp
  by_cases hx : x = 0
  · subst hx
    rw [if_neg (by simp)] at hd
    by_cases h0 : p.length = 0
    · rw [if_pos h0] at hd
      rw [hd]
      have hp : p = [] := List.eq_nil_of_length_eq_zero h0
      subst hp
      clear hd h0
      go_enter Tryd.func42, Tryd.ntmps42
      go_wp2_with fail
      refine HC.out.mono ?_
      rintro e w1 ⟨rfl, hB⟩
      have HB := Lib.hid hB; clear hB HC
      go_wp2_with fail
      go_ret2
      exact ⟨rfl, HB.out⟩
    · rw [if_neg h0] at hd
      have hne := str_ne p h0
      by_cases hm : m < (p.length : Int)
      · rw [if_pos hm] at hd
        rw [hd]
        clear hd
        go_enter Tryd.func42, Tryd.ntmps42
        go_wp2_with fail
        refine HC.out.mono ?_
        rintro e w1 ⟨rfl, hB⟩
        have HB := Lib.hid hB; clear hB HC
        go_wp2_with fail
        go_ret2
        exact ⟨rfl, HB.out⟩
      · rw [if_neg hm] at hd
        rw [hd]
        clear hd
        go_enter Tryd.func42, Tryd.ntmps42
        go_wp2_with fail
        refine HC.out.mono ?_
        rintro e w1 ⟨rfl, hB⟩
        have HB := Lib.hid hB; clear hB HC
        go_wp2_with fail
        go_ret2
        exact ⟨rfl, HB.out⟩
  · rw [if_pos hx] at hd
    rw [hd]
    have hx2 : ((x == 0) = false) := by rw [beq_eq_false_iff_ne]; exact hx
    clear hd hx
    go_enter Tryd.func42, Tryd.ntmps42
    go_wp2_with fail
    refine HC.out.mono ?_
    rintro e w1 ⟨rfl, hB⟩
    have HB := Lib.hid hB; clear hB HC
    go_wp2_with fail
    go_ret2
    exact ⟨rfl, HB.out⟩
theorem name_any (s : List UInt8) (w : World) (hs : s.length ≤ 600) (hT : Lib.Utf8Tabs 0 1 w) :
    Calls Tryd.prog 32 #[str s] w fun e w' => e = .returned (.tuple #[str (sizL 32 (prepL s)).1, .int .i64 (sizL 32 (prepL s)).2]) ∧ Below w.heap.size w w' := by
  have HC := Lib.hid (prepareAtMost_any s 32 w hs hT); clear hT
  obtain ⟨p, x, hp⟩ : ∃ p x, sizL 32 (prepL s) = (p, x) := ⟨_, _, rfl⟩
  rw [hp] at HC ⊢
  clear hp
  go_enter Tryd.func32, Tryd.ntmps32
  go_wp2_with fail
  refine HC.out.mono ?_
  rintro e w1 ⟨rfl, hB⟩
  have HB := Lib.hid hB; clear hB HC
  go_wp2_with fail
  go_ret2
  exact ⟨rfl, HB.out⟩
end
end Go.Proofs.YtnfkkopegbeacaaDoor
