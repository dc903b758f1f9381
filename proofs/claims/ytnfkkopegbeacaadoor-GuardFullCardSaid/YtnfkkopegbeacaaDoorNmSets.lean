/- name: the sets of signs. -/
import Derived.Test.YtnfkkopegbeacaaDoorRows
import Derived.IntWalk
import Derived.WalkKit
import Derived.Lib.Hide
namespace Go.Proofs.YtnfkkopegbeacaaDoor
open Go.RowKit
def inB (r a b : Int) : Bool := decide (a ≤ r) && decide (r ≤ b)
theorem within_any (r a b : Int) (w : World) : Calls Tryd.prog 57 #[.int .i32 r, .int .i32 a, .int .i32 b] w fun e w' => e = .returned (.bool (inB r a b)) ∧ w = w' := by
  unfold inB
  by_cases h1 : a ≤ r <;> by_cases h2 : r ≤ b
  all_goals
    go_enter Tryd.func57, Tryd.ntmps57
    go_wp2
    go_ret
    exact ⟨by simp [h1, h2], rfl⟩
/-- A sign that becomes a blank. -/
def spB (r : Int) : Bool := r == 160 || r == 5760 || inB r 8192 8202 || r == 8239 || r == 8287 || r == 12288
theorem isSpace_any (r : Int) (w : World) : Calls Tryd.prog 51 #[.int .i32 r] w fun e w' => e = .returned (.bool (spB r)) ∧ w = w' := by
  unfold spB
  cases h0 : (r == 160) with
  | true =>
    go_enter Tryd.func51, Tryd.ntmps51
    go_wp2_with fail
    go_ret
    exact ⟨rfl, rfl⟩
  | false =>
    cases h1 : (r == 5760) with
    | true =>
      go_enter Tryd.func51, Tryd.ntmps51
      go_wp2_with fail
      go_ret
      exact ⟨rfl, rfl⟩
    | false =>
      cases h2 : (inB r 8192 8202) with
      | true =>
        go_enter Tryd.func51, Tryd.ntmps51
        go_wp2_with fail
        refine (within_any r 8192 8202 w).mono ?_
        rintro e w1 ⟨rfl, rfl⟩
        rw [h2]
        go_wp2_with fail
        go_ret
        exact ⟨rfl, rfl⟩
      | false =>
        cases h3 : (r == 8239) with
        | true =>
          go_enter Tryd.func51, Tryd.ntmps51
          go_wp2_with fail
          refine (within_any r 8192 8202 w).mono ?_
          rintro e w1 ⟨rfl, rfl⟩
          rw [h2]
          go_wp2_with fail
          go_ret
          exact ⟨rfl, rfl⟩
        | false =>
          cases h4 : (r == 8287) with
          | true =>
            go_enter Tryd.func51, Tryd.ntmps51
            go_wp2_with fail
            refine (within_any r 8192 8202 w).mono ?_
            rintro e w1 ⟨rfl, rfl⟩
            rw [h2]
            go_wp2_with fail
            go_ret
            exact ⟨rfl, rfl⟩
          | false =>
            cases h5 : (r == 12288) with
            | true =>
              go_enter Tryd.func51, Tryd.ntmps51
              go_wp2_with fail
              refine (within_any r 8192 8202 w).mono ?_
              rintro e w1 ⟨rfl, rfl⟩
              rw [h2]
              go_wp2_with fail
              go_ret
              exact ⟨rfl, rfl⟩
            | false =>
              go_enter Tryd.func51, Tryd.ntmps51
              go_wp2_with fail
              refine (within_any r 8192 8202 w).mono ?_
              rintro e w1 ⟨rfl, rfl⟩
              rw [h2]
              go_wp2_with fail
              go_ret
              exact ⟨rfl, rfl⟩
/-- A sign that goes. -/
def goB (r : Int) : Bool := r == 173 || inB r 8203 8205 || r == 8288 || inB r 65024 65039 || r == 65279
theorem isRemoved_any (r : Int) (w : World) : Calls Tryd.prog 52 #[.int .i32 r] w fun e w' => e = .returned (.bool (goB r)) ∧ w = w' := by
  unfold goB
  cases h0 : (r == 173) with
  | true =>
    go_enter Tryd.func52, Tryd.ntmps52
    go_wp2_with fail
    go_ret
    exact ⟨rfl, rfl⟩
  | false =>
    cases h1 : (inB r 8203 8205) with
    | true =>
      go_enter Tryd.func52, Tryd.ntmps52
      go_wp2_with fail
      refine (within_any r 8203 8205 w).mono ?_
      rintro e w1 ⟨rfl, rfl⟩
      rw [h1]
      go_wp2_with fail
      go_ret
      exact ⟨rfl, rfl⟩
    | false =>
      cases h2 : (r == 8288) with
      | true =>
        go_enter Tryd.func52, Tryd.ntmps52
        go_wp2_with fail
        refine (within_any r 8203 8205 w).mono ?_
        rintro e w1 ⟨rfl, rfl⟩
        rw [h1]
        go_wp2_with fail
        go_ret
        exact ⟨rfl, rfl⟩
      | false =>
        cases h3 : (inB r 65024 65039) with
        | true =>
          go_enter Tryd.func52, Tryd.ntmps52
          go_wp2_with fail
          refine (within_any r 8203 8205 w).mono ?_
          rintro e w1 ⟨rfl, rfl⟩
          rw [h1]
          go_wp2_with fail
          refine (within_any r 65024 65039 w).mono ?_
          rintro e w1 ⟨rfl, rfl⟩
          rw [h3]
          go_wp2_with fail
          go_ret
          exact ⟨rfl, rfl⟩
        | false =>
          cases h4 : (r == 65279) with
          | true =>
            go_enter Tryd.func52, Tryd.ntmps52
            go_wp2_with fail
            refine (within_any r 8203 8205 w).mono ?_
            rintro e w1 ⟨rfl, rfl⟩
            rw [h1]
            go_wp2_with fail
            refine (within_any r 65024 65039 w).mono ?_
            rintro e w1 ⟨rfl, rfl⟩
            rw [h3]
            go_wp2_with fail
            go_ret
            exact ⟨rfl, rfl⟩
          | false =>
            go_enter Tryd.func52, Tryd.ntmps52
            go_wp2_with fail
            refine (within_any r 8203 8205 w).mono ?_
            rintro e w1 ⟨rfl, rfl⟩
            rw [h1]
            go_wp2_with fail
            refine (within_any r 65024 65039 w).mono ?_
            rintro e w1 ⟨rfl, rfl⟩
            rw [h3]
            go_wp2_with fail
            go_ret
            exact ⟨rfl, rfl⟩
/-- A control sign. -/
def coB (r : Int) : Bool := inB r 0 31 || inB r 127 159
theorem isControl_any (r : Int) (w : World) : Calls Tryd.prog 58 #[.int .i32 r] w fun e w' => e = .returned (.bool (coB r)) ∧ w = w' := by
  unfold coB
  cases h0 : (inB r 0 31) with
  | true =>
    go_enter Tryd.func58, Tryd.ntmps58
    go_wp2_with fail
    refine (within_any r 0 31 w).mono ?_
    rintro e w1 ⟨rfl, rfl⟩
    rw [h0]
    go_wp2_with fail
    go_ret
    exact ⟨rfl, rfl⟩
  | false =>
    cases h1 : (inB r 127 159) with
    | true =>
      go_enter Tryd.func58, Tryd.ntmps58
      go_wp2_with fail
      refine (within_any r 0 31 w).mono ?_
      rintro e w1 ⟨rfl, rfl⟩
      rw [h0]
      go_wp2_with fail
      refine (within_any r 127 159 w).mono ?_
      rintro e w1 ⟨rfl, rfl⟩
      rw [h1]
      go_wp2_with fail
      go_ret
      exact ⟨rfl, rfl⟩
    | false =>
      go_enter Tryd.func58, Tryd.ntmps58
      go_wp2_with fail
      refine (within_any r 0 31 w).mono ?_
      rintro e w1 ⟨rfl, rfl⟩
      rw [h0]
      go_wp2_with fail
      refine (within_any r 127 159 w).mono ?_
      rintro e w1 ⟨rfl, rfl⟩
      rw [h1]
      go_wp2_with fail
      go_ret
      exact ⟨rfl, rfl⟩
/-- A sign of lines or directions. -/
def diB (r : Int) : Bool := inB r 8232 8238 || inB r 8294 8297
theorem isDirection_any (r : Int) (w : World) : Calls Tryd.prog 59 #[.int .i32 r] w fun e w' => e = .returned (.bool (diB r)) ∧ w = w' := by
  unfold diB
  cases h0 : (inB r 8232 8238) with
  | true =>
    go_enter Tryd.func59, Tryd.ntmps59
    go_wp2_with fail
    refine (within_any r 8232 8238 w).mono ?_
    rintro e w1 ⟨rfl, rfl⟩
    rw [h0]
    go_wp2_with fail
    go_ret
    exact ⟨rfl, rfl⟩
  | false =>
    cases h1 : (inB r 8294 8297) with
    | true =>
      go_enter Tryd.func59, Tryd.ntmps59
      go_wp2_with fail
      refine (within_any r 8232 8238 w).mono ?_
      rintro e w1 ⟨rfl, rfl⟩
      rw [h0]
      go_wp2_with fail
      refine (within_any r 8294 8297 w).mono ?_
      rintro e w1 ⟨rfl, rfl⟩
      rw [h1]
      go_wp2_with fail
      go_ret
      exact ⟨rfl, rfl⟩
    | false =>
      go_enter Tryd.func59, Tryd.ntmps59
      go_wp2_with fail
      refine (within_any r 8232 8238 w).mono ?_
      rintro e w1 ⟨rfl, rfl⟩
      rw [h0]
      go_wp2_with fail
      refine (within_any r 8294 8297 w).mono ?_
      rintro e w1 ⟨rfl, rfl⟩
      rw [h1]
      go_wp2_with fail
      go_ret
      exact ⟨rfl, rfl⟩
/-- A private sign. -/
def pvB (r : Int) : Bool := inB r 57344 63743 || decide (983040 ≤ r)
theorem isPrivate_any (r : Int) (w : World) : Calls Tryd.prog 60 #[.int .i32 r] w fun e w' => e = .returned (.bool (pvB r)) ∧ w = w' := by
  unfold pvB
  cases h0 : (inB r 57344 63743) with
  | true =>
    go_enter Tryd.func60, Tryd.ntmps60
    go_wp2_with fail
    refine (within_any r 57344 63743 w).mono ?_
    rintro e w1 ⟨rfl, rfl⟩
    rw [h0]
    go_wp2_with fail
    go_ret
    exact ⟨rfl, rfl⟩
  | false =>
    cases h1 : (decide (983040 ≤ r)) with
    | true =>
      go_enter Tryd.func60, Tryd.ntmps60
      go_wp2_with fail
      refine (within_any r 57344 63743 w).mono ?_
      rintro e w1 ⟨rfl, rfl⟩
      rw [h0]
      go_wp2_with fail
      go_ret
      exact ⟨rfl, rfl⟩
    | false =>
      go_enter Tryd.func60, Tryd.ntmps60
      go_wp2_with fail
      refine (within_any r 57344 63743 w).mono ?_
      rintro e w1 ⟨rfl, rfl⟩
      rw [h0]
      go_wp2_with fail
      go_ret
      exact ⟨rfl, rfl⟩
/-- A special sign, or none. -/
def seB (r : Int) : Bool := inB r 65529 65533 || inB r 64976 65007 || decide (65534 ≤ bits .and .i32 r 65535)
theorem isSpecial_any (r : Int) (w : World) : Calls Tryd.prog 61 #[.int .i32 r] w fun e w' => e = .returned (.bool (seB r)) ∧ w = w' := by
  unfold seB
  cases h0 : (inB r 65529 65533) with
  | true =>
    go_enter Tryd.func61, Tryd.ntmps61
    go_wp2_with fail
    refine (within_any r 65529 65533 w).mono ?_
    rintro e w1 ⟨rfl, rfl⟩
    rw [h0]
    go_wp2_with fail
    go_ret
    exact ⟨rfl, rfl⟩
  | false =>
    cases h1 : (inB r 64976 65007) with
    | true =>
      go_enter Tryd.func61, Tryd.ntmps61
      go_wp2_with fail
      refine (within_any r 65529 65533 w).mono ?_
      rintro e w1 ⟨rfl, rfl⟩
      rw [h0]
      go_wp2_with fail
      refine (within_any r 64976 65007 w).mono ?_
      rintro e w1 ⟨rfl, rfl⟩
      rw [h1]
      go_wp2_with fail
      go_ret
      exact ⟨rfl, rfl⟩
    | false =>
      cases h2 : (decide (65534 ≤ bits .and .i32 r 65535)) with
      | true =>
        go_enter Tryd.func61, Tryd.ntmps61
        go_wp2_with fail
        refine (within_any r 65529 65533 w).mono ?_
        rintro e w1 ⟨rfl, rfl⟩
        rw [h0]
        go_wp2_with fail
        refine (within_any r 64976 65007 w).mono ?_
        rintro e w1 ⟨rfl, rfl⟩
        rw [h1]
        go_wp2_with fail
        go_ret
        exact ⟨rfl, rfl⟩
      | false =>
        go_enter Tryd.func61, Tryd.ntmps61
        go_wp2_with fail
        refine (within_any r 65529 65533 w).mono ?_
        rintro e w1 ⟨rfl, rfl⟩
        rw [h0]
        go_wp2_with fail
        refine (within_any r 64976 65007 w).mono ?_
        rintro e w1 ⟨rfl, rfl⟩
        rw [h1]
        go_wp2_with fail
        go_ret
        exact ⟨rfl, rfl⟩
/-- A sign that may not be there. -/
def baB (r : Int) : Bool := coB r || diB r || pvB r || seB r
theorem isProhibited_any (r : Int) (w : World) : Calls Tryd.prog 53 #[.int .i32 r] w fun e w' => e = .returned (.bool (baB r)) ∧ w = w' := by
  unfold baB
  cases h0 : (coB r) with
  | true =>
    go_enter Tryd.func53, Tryd.ntmps53
    go_wp2_with fail
    refine (isControl_any r w).mono ?_
    rintro e w1 ⟨rfl, rfl⟩
    rw [h0]
    go_wp2_with fail
    go_ret
    exact ⟨rfl, rfl⟩
  | false =>
    cases h1 : (diB r) with
    | true =>
      go_enter Tryd.func53, Tryd.ntmps53
      go_wp2_with fail
      refine (isControl_any r w).mono ?_
      rintro e w1 ⟨rfl, rfl⟩
      rw [h0]
      go_wp2_with fail
      refine (isDirection_any r w).mono ?_
      rintro e w1 ⟨rfl, rfl⟩
      rw [h1]
      go_wp2_with fail
      go_ret
      exact ⟨rfl, rfl⟩
    | false =>
      cases h2 : (pvB r) with
      | true =>
        go_enter Tryd.func53, Tryd.ntmps53
        go_wp2_with fail
        refine (isControl_any r w).mono ?_
        rintro e w1 ⟨rfl, rfl⟩
        rw [h0]
        go_wp2_with fail
        refine (isDirection_any r w).mono ?_
        rintro e w1 ⟨rfl, rfl⟩
        rw [h1]
        go_wp2_with fail
        refine (isPrivate_any r w).mono ?_
        rintro e w1 ⟨rfl, rfl⟩
        rw [h2]
        go_wp2_with fail
        go_ret
        exact ⟨rfl, rfl⟩
      | false =>
        cases h3 : (seB r) with
        | true =>
          go_enter Tryd.func53, Tryd.ntmps53
          go_wp2_with fail
          refine (isControl_any r w).mono ?_
          rintro e w1 ⟨rfl, rfl⟩
          rw [h0]
          go_wp2_with fail
          refine (isDirection_any r w).mono ?_
          rintro e w1 ⟨rfl, rfl⟩
          rw [h1]
          go_wp2_with fail
          refine (isPrivate_any r w).mono ?_
          rintro e w1 ⟨rfl, rfl⟩
          rw [h2]
          go_wp2_with fail
          refine (isSpecial_any r w).mono ?_
          rintro e w1 ⟨rfl, rfl⟩
          rw [h3]
          go_wp2_with fail
          go_ret
          exact ⟨rfl, rfl⟩
        | false =>
          go_enter Tryd.func53, Tryd.ntmps53
          go_wp2_with fail
          refine (isControl_any r w).mono ?_
          rintro e w1 ⟨rfl, rfl⟩
          rw [h0]
          go_wp2_with fail
          refine (isDirection_any r w).mono ?_
          rintro e w1 ⟨rfl, rfl⟩
          rw [h1]
          go_wp2_with fail
          refine (isPrivate_any r w).mono ?_
          rintro e w1 ⟨rfl, rfl⟩
          rw [h2]
          go_wp2_with fail
          refine (isSpecial_any r w).mono ?_
          rintro e w1 ⟨rfl, rfl⟩
          rw [h3]
          go_wp2_with fail
          go_ret
          exact ⟨rfl, rfl⟩
end Go.Proofs.YtnfkkopegbeacaaDoor
