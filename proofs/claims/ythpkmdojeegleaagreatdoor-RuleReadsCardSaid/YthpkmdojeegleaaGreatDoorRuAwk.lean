/- The law's awake. -/
import Derived.Test.YthpkmdojeegleaaGreatDoorRuPa
set_option maxRecDepth 100000
namespace Go.Proofs.YthpkmdojeegleaaGreatDoor
open Go.RowKit Go.Shelf
instance : DecidableEq RuL := fun a b => decidable_of_iff (a.allow = b.allow ∧ a.role = b.role ∧ a.ten = b.ten ∧ a.host = b.host ∧ a.frm = b.frm ∧ a.til = b.til)
  ⟨fun ⟨h1, h2, h3, h4, h5, h6⟩ => RuL.eq h1 h2 h3 h4 h5 h6, fun h => by subst h; exact ⟨rfl, rfl, rfl, rfl, rfl, rfl⟩⟩
def egR : List UInt8 := [100, 101, 110, 121, 32, 42, 32, 116, 32, 100, 98, 42, 46, 120, 32, 53, 52, 51, 50, 10, 97, 108, 108, 111, 119, 32, 100, 101, 118, 32, 116, 32, 42, 32, 49, 45, 57, 57, 57, 57]
def egL : List RuL := [⟨false, [42], [116], [100, 98, 42, 46, 120], 5432, 5432⟩, ⟨true, [100, 101, 118], [116], [42], 1, 9999⟩]
theorem eg_rule : parseP egR = (egL, 0, 0) := by decide +kernel
theorem eg_may1 : mayL [100, 101, 118] [116] [100, 98, 49, 46, 120] 5432 egL = false := by decide +kernel
theorem eg_may2 : mayL [100, 101, 118] [116] [68, 66, 49, 46, 121] 5432 egL = true := by decide +kernel
theorem eg_small : ∀ r ∈ egL, SmallR r := by
  intro r hr
  simp only [egL, List.mem_cons, List.not_mem_nil, or_false] at hr
  rcases hr with rfl | rfl <;> exact ⟨by decide, by decide, by decide⟩
theorem awake16 (w : World) (hE : Env w) : Calls Tryz.prog 6 #[] w fun e w' => e = .returned (.bool true) ∧ Below w.heap.size w w' := by
  have HP := Lib.hid (parse_any egR w hE (by decide))
  unfold ParR at HP
  rw [eg_rule] at HP
  have HE := Lib.hid hE
  clear hE
  unfold egR at HP
  go_enter Tryz.func6, Tryz.ntmps6
  go_wp2_with fail
  refine HP.out.mono ?_
  rintro e w1 ⟨pv, rfl, _, hok, hB⟩
  obtain ⟨⟨p, rfl⟩, hpo⟩ := hok (by first | trivial | rfl)
  have HPO := Lib.hid hpo
  have HB1 := Lib.hid hB
  have HM1 := Lib.hid (may_any w1.heap.size _ egL [100, 101, 118] [116] [100, 98, 49, 46, 120] 5432 w1 (HE.out.below hB) hpo (Nat.le_refl _) eg_small (by decide) (by decide))
  rw [eg_may1] at HM1
  clear hB hpo hok HP
  go_wp2_with fail
  refine HM1.out.mono ?_
  rintro e w2 ⟨rfl, hB⟩
  have HM2 := Lib.hid (may_any w1.heap.size _ egL [100, 101, 118] [116] [68, 66, 49, 46, 121] 5432 w2 (HE.out.below (HB1.out.trans (hB.mono HB1.out.size))) (HPO.out.below hB (Nat.le_refl _)) hB.size eg_small (by decide) (by decide))
  rw [eg_may2] at HM2
  have HB2 := Lib.hid (HB1.out.trans (hB.mono HB1.out.size))
  clear hB HM1
  go_wp2_with fail
  refine HM2.out.mono ?_
  rintro e w3 ⟨rfl, hB⟩
  have HB3 := Lib.hid (HB2.out.trans (hB.mono HB2.out.size))
  clear hB HM2
  go_wp2_with fail
  go_ret
  exact ⟨rfl, HB3.out⟩
end Go.Proofs.YthpkmdojeegleaaGreatDoor
