/- box: isTag. -/
import Derived.Test.YtlnjpmpddomjiaaGreatDoorGmBeNb
import Derived.Test.YtlnjpmpddomjiaaGreatDoorGmBxLooks
set_option maxRecDepth 100000
namespace Go.Proofs.YtlnjpmpddomjiaaGreatDoor
open Go.RowKit
attribute [local go_sem] Oper.semAt_some
theorem blen_any {w : World} {base b m : Nat} {rv : Value} {sym full : Bool} {es : List EnL} (h : BX w base b m rv sym full es) :
    Calls Tryz.prog 13 #[tP b] w fun e w' => e = .returned (.int .i64 (es.length : Int)) ∧ w' = w := by
  obtain ⟨RA, rc, rfl, hrc1, hrc2⟩ := h.row.form
  have k2 := h.blk.at (o := 2) rfl
  go_enter Tryz.func13, Tryz.ntmps13
  go_wp2_with fail
  go_ret
  exact ⟨rfl, rfl⟩
/-- Does Turn take it? -/
def isTagL (sym : Bool) (k : Nat) (l : List UInt8) : Bool := decide (l.length = 32) && (!sym || !looks l || (decide (0 < tagN l) && decide (tagN l ≤ k)))
theorem isTag_any {w : World} {base b m B : Nat} {rv v : Value} {sym full : Bool} {es : List EnL} {l : List UInt8} (h : BX w base b m rv sym full es) (hv : Sl w B v l) :
    Calls Tryz.prog 36 #[tP b, v] w fun e w' => e = .returned (.bool (isTagL sym es.length l)) ∧ ∃ q, w' = w.drewN q := by
  obtain ⟨RA, rc, rfl, hrc1, hrc2⟩ := h.row.form
  have k0 := h.blk.at (o := 0) rfl
  have k2 := h.blk.at (o := 2) rfl
  have HV := Lib.hid hv
  have HX := Lib.hid h
  clear h
  obtain ⟨A, c, rfl, hlc, k1, k3, _⟩ := hv
  obtain ⟨ANS, hA⟩ : ∃ x, x = isTagL sym es.length l := ⟨_, rfl⟩
  rw [← hA]
  unfold isTagL at hA
  by_cases h32 : l.length = 32
  · rw [decide_eq_true h32, Bool.true_and] at hA
    rw [h32] at HV k1 ⊢
    have HA := Lib.hid hA; clear hA
    clear h32
    cases sym with
    | false =>
      go_enter Tryz.func36, Tryz.ntmps36
      go_wp2_with fail
      go_ret
      exact ⟨by rw [HA.out]; rfl, 0, rfl⟩
    | true =>
      cases hl : looks l with
      | false =>
        have HL := Lib.hid hl; clear hl
        go_enter Tryz.func36, Tryz.ntmps36
        go_wp2_with fail
        refine (looks_any B _ l _ HV.out).mono ?_
        rintro e w1 ⟨rfl, rfl⟩
        rw [HL.out]
        go_wp2_with fail
        go_ret
        exact ⟨by rw [HA.out, HL.out]; rfl, 0, rfl⟩
      | true =>
        have HL := Lib.hid hl; clear hl
        go_enter Tryz.func36, Tryz.ntmps36
        go_wp2_with fail
        refine (looks_any B _ l _ HV.out).mono ?_
        rintro e w1 ⟨rfl, rfl⟩
        rw [HL.out]
        go_wp2_with fail
        refine (number_all B _ l _ HV.out).mono ?_
        obtain ⟨T, hT⟩ : ∃ T, T = tagN l := ⟨_, rfl⟩
        rw [← hT] at HA ⊢
        clear hT
        rintro e w2 ⟨rfl, q, rfl⟩
        have k2' : (w.drewN q).cell? ⟨b, 2, none⟩ = some (.slice RA es.length rc) := k2
        by_cases hk : 0 < T
        · rw [decide_eq_true hk]
          by_cases hle : T ≤ es.length
          · have hi : (T : Int) ≤ (es.length : Int) := by omega
            have HANS := Lib.hid (show ANS = true from by rw [HA.out, HL.out, decide_eq_true hk, decide_eq_true hle]; rfl)
            go_wp2_with fail
            go_ret
            exact ⟨by rw [HANS.out]; rfl, q, rfl⟩
          · have hi : ¬ (T : Int) ≤ (es.length : Int) := by omega
            have HANS := Lib.hid (show ANS = false from by rw [HA.out, HL.out, decide_eq_true hk, decide_eq_false hle]; rfl)
            go_wp2_with fail
            go_ret
            exact ⟨by rw [HANS.out]; rfl, q, rfl⟩
        · rw [decide_eq_false hk]
          have HANS := Lib.hid (show ANS = false from by rw [HA.out, HL.out, decide_eq_false hk]; rfl)
          go_wp2_with fail
          go_ret
          exact ⟨by rw [HANS.out]; rfl, q, rfl⟩
  · rw [decide_eq_false h32, Bool.false_and] at hA
    subst hA
    go_enter Tryz.func36, Tryz.ntmps36
    go_wp2_with fail
    go_ret
    exact ⟨rfl, 0, rfl⟩
end Go.Proofs.YtlnjpmpddomjiaaGreatDoor
