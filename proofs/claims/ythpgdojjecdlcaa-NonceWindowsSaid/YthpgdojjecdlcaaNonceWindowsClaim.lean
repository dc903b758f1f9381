/- NonceWindows: a nonce is taken within its window, and never behind it; one that went for want of room, and all that were given out no later, are never taken again: the statement holds for every input. Conditions: none. -/
import Derived.Test.YthpgdojjecdlcaaNnWinC
import Derived.Test.YthpgdojjecdlcaaArgs0
import Derived.Test.YthpgdojjecdlcaaArgs
namespace Go.Proofs.Ythpgdojjecdlcaa
open Go.ChangeShapes Go.WideShapes Go.ChangeAt Go.RowKit

set_option maxRecDepth 100000 in
theorem nonceWindows_lifted (os : Os) (started : os.Started) (H : Type) (enc : TypeId × Value → H) :
    ReturnsInHanded {} Try.checked os 5 .any (Rows.nonceWindowsSpec.pre6 enc Try.prog Try.f5 Rows.nonceWindowsRow.domain false) (Rows.nonceWindowsSpec.post enc Try.prog Try.f5 false true false false) := by
  refine returnsInHanded_of_change (C := Try.checked) own_godebug started (by kernel_rfl) Try.func5
    (ChangeSpec.witness6 (enc := enc) (C := Try.checked) false ⟨#[], #[.int .u8 0, .int .u16 0, .slice none 0 0, .int .u16 0], []⟩ 8 (by kernel_rfl) (by kernel_rfl) (by kernel_rfl) (by kernel_rfl)) ?_
  intro W base args ds gs before hval0 hW hcnd _
  have hval : ∀ (j : Nat) t v, Try.f5.params[j]? = some t → args[j]? = some v → Value.okWide Try.prog W .any base t v := hval0
  have hW' := hW
  obtain ⟨p, q, hA0, hV, rfl, hfz, hnd⟩ := hW
  have hA : DataW.TrodAll enc Try.prog W 0 (fun _ => true) true Try.f5.params.toList args.toList ds p := hA0
  rw [Try.params5] at hA hval
  obtain ⟨v0, v1, v2, v3, d0, d1, d2, d3, p0, p1, p2, p3, rfl, rfl, rfl, h0, h1, h2, h3⟩ := trodAll_four hA
  obtain ⟨rfl, rfl⟩ := trodVars_none hV
  obtain ⟨n0, e0, _, _, hs0⟩ := open_int Try.underlying5 (hval 0 5 v0 rfl rfl) h0
  subst e0
  obtain ⟨n1, e1, _, _, hs1⟩ := open_int Try.underlying45 (hval 1 45 v1 rfl rfl) h1
  subst e1
  obtain ⟨l2, hs2, _⟩ := open_sl (hval 2 56 v2 rfl rfl) h2
  obtain ⟨n3, e3, _, _, hs3⟩ := open_int Try.underlying45 (hval 3 45 v3 rfl rfl) h3
  subst e3
  clear hA0 hval0
  simp only [List.append_nil] at hW'
  have hlt : ∀ x ∈ p0 ++ p1 ++ p2 ++ p3, x.block < W.heap.size := fun x hx => hW'.lt x hx
  refine (nonceWindows_w W.heap.size n0 n1 v2 l2 n3 W hs0 hs1 hs2 hs3 (Nat.le_refl _)).mono fun e W' ⟨he, hb⟩ => ?_
  subst he
  exact ⟨_, rfl, post_below (pa := p0 ++ p1 ++ p2 ++ p3) (pv := []) hW' (fun _ _ _ => trodAll_mk1 (shut_bool Try.underlying4 _))
    (fun sp hsp => by rw [List.append_assoc, List.append_assoc]; exact trodAll_mk4 (stays (by kernel_rfl) (of_decide_eq_true (by kernel_rfl)) h0 hb hlt (fun x hx => List.mem_append_left _ (List.mem_append_left _ (List.mem_append_left _ hx))) sp (by simpa using hsp)) (stays (by kernel_rfl) (of_decide_eq_true (by kernel_rfl)) h1 hb hlt (fun x hx => List.mem_append_left _ (List.mem_append_left _ (List.mem_append_right _ hx))) sp (by simpa using hsp)) (stays (by kernel_rfl) (of_decide_eq_true (by kernel_rfl)) h2 hb hlt (fun x hx => List.mem_append_left _ (List.mem_append_right _ hx)) sp (by simpa using hsp)) (stays (by kernel_rfl) (of_decide_eq_true (by kernel_rfl)) h3 hb hlt (fun x hx => List.mem_append_right _ hx) sp (by simpa using hsp)))
    (fun _ _ => rfl) (by simp) hb (ok_one (by kernel_rfl) rfl (okWide_bool_mk Try.underlying4 _))⟩

theorem nonceWindows_holds : Rows.NonceWindowsSaid :=
  OpenClaim.holds_of_wide 5 Try.f5 rfl rfl rfl rfl rfl rfl rfl ⟨rfl, rfl, rfl, rfl, rfl⟩ rfl rfl rfl rfl rfl (by kernel_rfl) Try.func5 (by kernel_rfl)
    (of_decide_eq_true (by kernel_rfl)) (by unfold Func.isWrapper; first | (rw [if_pos (by decide +kernel)]; kernel_rfl) | (rw [if_neg (by decide +kernel)]; exact ⟨rfl, rfl⟩))
    (fun os started H enc _ => nonceWindows_lifted os started H enc)
end Go.Proofs.Ythpgdojjecdlcaa
