/- The reference's letter and Encode. -/
import Derived.Test.YtbjhaihfkncdoaaDoorEnc
import Derived.Test.YtbjhaihfkncdoaaDoorCut
namespace Go.Proofs.YtbjhaihfkncdoaaDoor
open Go.RowKit

/-- A letter's number, as the reference reckons it. -/
def lttr (n : Int) (u : Bool) : Int := if n < 26 then 65 + n else if n < 52 then 71 + n else if n < 62 then n - 4 else if n = 62 then (if u then 45 else 43) else if u then 95 else 47
theorem lttr_eq (n : Nat) (u : Bool) (h : n < 64) : lttr n u = bn ((alX u).getD n 0) := by
  have : ∀ u : Bool, ∀ n : Fin 64, lttr (n.val : Int) u = bn ((alX u).getD n.val 0) := by decide +kernel
  exact this u ⟨n, h⟩
set_option maxHeartbeats 400000 in
theorem letter_int (n : Int) (u : Bool) (h0 : 0 ≤ n) (h : n < 64) (w : World) :
    Calls Tryd.prog 69 #[.int .i64 n, .bool u] w fun e w' => e = .returned (.int .u8 (lttr n u)) ∧ w = w' := by
  by_cases h1 : n < 26
  · have e : lttr n u = 65 + n := by unfold lttr; rw [if_pos h1]
    have E := Lib.hid e; clear e
    go_enter Tryd.func69, Tryd.ntmps69
    go_wp2
    go_ret
    exact ⟨ret_int (by rw [E.out]), rfl⟩
  by_cases h2 : n < 52
  · have e : lttr n u = 71 + n := by unfold lttr; rw [if_neg h1, if_pos h2]
    have E := Lib.hid e; clear e
    go_enter Tryd.func69, Tryd.ntmps69
    go_wp2
    go_ret
    exact ⟨ret_int (by rw [E.out]; omega), rfl⟩
  by_cases h3 : n < 62
  · have e : lttr n u = n - 4 := by unfold lttr; rw [if_neg h1, if_neg h2, if_pos h3]
    have E := Lib.hid e; clear e
    go_enter Tryd.func69, Tryd.ntmps69
    go_wp2
    go_ret
    exact ⟨ret_int (by rw [E.out]; omega), rfl⟩
  obtain rfl | rfl : n = 62 ∨ n = 63 := by omega
  · cases u <;>
    · go_enter Tryd.func69, Tryd.ntmps69
      go_wp2
      go_ret
      exact ⟨rfl, rfl⟩
  · cases u <;>
    · go_enter Tryd.func69, Tryd.ntmps69
      go_wp2
      go_ret
      exact ⟨rfl, rfl⟩
theorem letter_any (n : Nat) (u : Bool) (h : n < 64) (w : World) :
    Calls Tryd.prog 69 #[.int .i64 (n : Int), .bool u] w fun e w' => e = .returned (vb ((alX u).getD n 0)) ∧ w = w' := by
  rw [← show Value.int .u8 (lttr n u) = vb ((alX u).getD n 0) by rw [lttr_eq n u h]]
  exact letter_int n u (by omega) (by omega) w
end Go.Proofs.YtbjhaihfkncdoaaDoor
