/- RuleMatches' walk. -/
import Derived.Test.YtpihpoapapfnkaaDoorRuRm
import Derived.Test.YtpihpoapapfnkaaDoorRuAwk
import Derived.Test.YtpihpoapapfnkaaDoorStrT
set_option maxRecDepth 100000
namespace Go.Proofs.YtpihpoapapfnkaaDoor
open Go.RowKit Go.Shelf
theorem matchB_star (h : List UInt8) : matchB [42] h = true := by
  unfold matchB
  rw [matchR_iff]; exact G_any _
theorem matches_law (p h : List UInt8) (w : World) (hp : p.length ≤ 9223372036854775807) (hh : h.length ≤ 9223372036854775807) (hE : Env w) :
    Calls Tryd.prog 3 #[str p, str h] w fun e w' => e = .returned (.bool true) ∧ Below w.heap.size w w' := by
  have HA := Lib.hid (awake16 w hE)
  have HE := Lib.hid hE
  have HC1 := Lib.hid (fun W => cutText_any p 40 W hp (by omega) (by omega))
  have HC2 := Lib.hid (fun W => cutText_any h 40 W hh (by omega) (by omega))
  have e40 : ∀ s : List UInt8, s.take (40 : Int).toNat = s.take 40 := fun _ => rfl
  rw [e40] at HC1 HC2
  have l1 : (p.take 40).length ≤ 40 := by rw [List.length_take]; omega
  have l2 : (h.take 40).length ≤ 40 := by rw [List.length_take]; omega
  obtain ⟨p', hp'⟩ : ∃ p', p' = p.take 40 := ⟨_, rfl⟩
  obtain ⟨h', hh'⟩ : ∃ h', h' = h.take 40 := ⟨_, rfl⟩
  rw [← hp'] at HC1 l1
  rw [← hh'] at HC2 l2
  have HM := Lib.hid (fun W (hW : Env W) => match_any p' h' W hW (by omega) (by omega))
  have HR := Lib.hid (fun W => refMatch_any p' h' W (by omega) (by omega))
  have HS := Lib.hid (fun W (hW : Env W) => match_any [42] h' W hW (by decide) (by omega))
  rw [matchB_star] at HS
  obtain ⟨b, hb⟩ : ∃ b, b = matchB p' h' := ⟨_, rfl⟩
  rw [← hb] at HM HR
  clear hE hp' hh' hb e40
  cases b
  all_goals
    go_enter Tryd.func3, Tryd.ntmps3
    go_wp2_with fail
    refine HA.out.mono ?_
    rintro e w1 ⟨rfl, hB⟩
    have HB := Lib.hid hB; have HE1 := Lib.hid (HE.out.below hB); clear hB
    go_wp2_with fail
    refine (HC1.out _).mono ?_
    rintro e w2 ⟨rfl, rfl⟩
    go_wp2_with fail
    refine (HC2.out _).mono ?_
    rintro e w3 ⟨rfl, rfl⟩
    go_wp2_with fail
    refine (HM.out _ HE1.out).mono ?_
    rintro e w4 ⟨rfl, hB⟩
    have HB4 := Lib.hid (HB.out.trans (hB.mono HB.out.size)); have HE4 := Lib.hid (HE1.out.below hB); clear hB
    go_wp2_with fail
    refine (HR.out _).mono ?_
    rintro e w5 ⟨rfl, hB⟩
    have HB5 := Lib.hid (HB4.out.trans (hB.mono HB4.out.size)); have HE5 := Lib.hid (HE4.out.below hB); clear hB
    go_wp2_with fail
    refine (HS.out _ HE5.out).mono ?_
    rintro e w6 ⟨rfl, hB⟩
    have HB6 := Lib.hid (HB5.out.trans (hB.mono HB5.out.size)); clear hB
    go_wp2_with fail
    go_ret
    exact ⟨rfl, HB6.out⟩
end Go.Proofs.YtpihpoapapfnkaaDoor
