/- The reference's Which. -/
import Derived.Test.YtpihpoapapfnkaaGreatDoorRuHoR
import Derived.Test.YtpihpoapapfnkaaGreatDoorRuNew
set_option maxRecDepth 100000
namespace Go.Proofs.YtpihpoapapfnkaaGreatDoor
open Go.RowKit Go.Shelf
attribute [local go_sem] Oper.semAt_some
theorem whichL_here {role ten host : List UInt8} {port : Int} : ∀ {xs : List RuL} {k : Nat} (hk : k < xs.length), (∀ x ∈ xs.take k, holdsB x role ten host port = false) → holdsB xs[k] role ten host port = true → whichL role ten host port xs = some k
  | [], k, hk, _, _ => by simp at hk
  | x :: t, 0, _, _, h => by rw [whichL, if_pos (show holdsB x role ten host port = true from h)]
  | x :: t, k + 1, hk, h0, h => by
    rw [whichL, if_neg (by rw [h0 x (by simp)]; simp), whichL_here (xs := t) (k := k) (by simpa using hk) (fun y hy => h0 y (by rw [List.take_succ_cons]; exact List.mem_cons_of_mem _ hy)) (by simpa using h)]
    rfl
/-- The reference's answer. -/
def whI (role ten host : List UInt8) (port : Int) (xs : List RuL) : Int := match whichL role ten host port xs with | none => -1 | some i => (i : Nat)
theorem noneH_take {role ten host : List UInt8} {port : Int} {xs : List RuL} {k : Nat} (hk : k < xs.length) (h : ∀ x ∈ xs.take k, holdsB x role ten host port = false) (h2 : holdsB xs[k] role ten host port = false) : ∀ x ∈ xs.take (k + 1), holdsB x role ten host port = false := by
  rw [List.take_succ_eq_append_getElem hk]
  intro x hx
  rw [List.mem_append, List.mem_singleton] at hx
  rcases hx with hx | rfl
  · exact h x hx
  · exact h2
set_option maxHeartbeats 2000000 in
theorem refWhich_any (B : Nat) (v : Value) (xs : List RuL) (role ten host : List UInt8) (port : Int) (w : World) (hv : RlIn w B v xs) (hB : B ≤ w.heap.size) (hs : ∀ r ∈ xs, r.host.length ≤ 1000) (hl : xs.length ≤ 5000) (hh : host.length ≤ 1000) :
    Calls Tryz.prog 21 #[v, str role, str ten, str host, .int .i64 port] w fun e w' => e = .returned (.int .i64 (whI role ten host port xs)) ∧ Below w.heap.size w w' := by
  obtain ⟨R, hR⟩ : ∃ R, R = whI role ten host port xs := ⟨_, rfl⟩
  rw [← hR]
  have HR := Lib.hid hR
  have HV := Lib.hid hv
  obtain ⟨A, c, rfl, hc1, hc2, hq⟩ := hv
  clear hq hR
  go_enter Tryz.func21, Tryz.ntmps21
  go_wp2_with fail
  go_loopw [11, 15] (fun _ i wr => ∃ k : Nat, k ≤ xs.length ∧ i = .int .i64 (k : Int) ∧ (∀ x ∈ xs.take k, holdsB x role ten host port = false) ∧ Below w.heap.size w wr) (fun _ i _ => xs.length - (intOf i).toNat)
  case atStart => exact ⟨0, by omega, rfl, by simp, Below.refl _ _⟩
  case round =>
    obtain ⟨k, hk, rfl, hall, hb⟩ := hrel
    by_cases hlt : k < xs.length
    · obtain ⟨g, o, rfl, hg, e0, e1, e2, e3, e4, e5⟩ := (HV.out.below hb hB).six k hlt
      have hyes : holdsB xs[k] role ten host port = true → R = (k : Int) := fun h => by
        rw [HR.out]; unfold whI; rw [whichL_here hlt hall h]
      have hno : holdsB xs[k] role ten host port = false → ∀ x ∈ xs.take (k + 1), holdsB x role ten host port = false := noneH_take hlt hall
      have hsx := hs _ (List.getElem_mem hlt)
      obtain ⟨x, hx⟩ : ∃ x, x = xs[k] := ⟨_, rfl⟩
      rw [← hx] at e0 e1 e2 e3 e4 e5 hsx hyes hno
      have HC := Lib.hid (fun W => refHolds_any x role ten host port W hsx hh)
      have HYES := Lib.hid hyes
      have HNO := Lib.hid hno
      obtain ⟨P, hP⟩ : ∃ P, P = holdsB x role ten host port := ⟨_, rfl⟩
      rw [← hP] at HC HYES HNO
      obtain ⟨al, ro, te, ho, fr, ti⟩ := x
      simp only at e0 e1 e2 e3 e4 e5
      have HB := Lib.hid hb
      have HB1 := Lib.hid (hb.alloc hb.size (.cells #[.bool al, str ro, str te, str ho, .int .i64 fr, .int .i64 ti] 33))
      clear hx hyes hno hb hall hP hsx
      cases P with
      | false =>
        have HA := Lib.hid (HNO.out rfl)
        go_wp2_with fail
        refine (HC.out _).mono ?_
        rintro e w1 ⟨rfl, hB1⟩
        have HB2 := Lib.hid (HB1.out.trans (hB1.mono HB1.out.size)); clear hB1 HC
        go_wp2_with fail
        go_roundw
        case rel => exact ⟨k + 1, by omega, by go_num, HA.out, HB2.out⟩
        case measure => simp [intOf]; omega
      | true =>
        have HA := Lib.hid (HYES.out rfl)
        go_wp2_with fail
        refine (HC.out _).mono ?_
        rintro e w1 ⟨rfl, hB1⟩
        have HB2 := Lib.hid (HB1.out.trans (hB1.mono HB1.out.size)); clear hB1 HC
        go_wp2_with fail
        go_ret
        exact ⟨by rw [HA.out]; rfl, HB2.out⟩
    · rw [List.take_of_length_le (by omega)] at hall
      have HA := Lib.hid hall
      have HB := Lib.hid hb
      clear hall hb
      go_wp2_with fail
      go_ret
      exact ⟨by rw [HR.out]; unfold whI; rw [whichL_none HA.out]; first | done | rfl, HB.out⟩
end Go.Proofs.YtpihpoapapfnkaaGreatDoor
