/- awake; the statement NameEscapes' own text, walked. -/
import Derived.Test.YtgcjaaocdhlegaaDoorNmPrep2
import Derived.Test.YtgcjaaocdhlegaaDoorNmRefU
namespace Go.Proofs.YtgcjaaocdhlegaaDoor
open Go.RowKit Go.Shelf
theorem prep_eg : prepL [97, 194, 160, 98, 194, 173] = ([97, 32, 98], 0) := by decide +kernel
theorem esc_eg : escL [97, 61, 98, 44, 99] = [97, 61, 51, 68, 98, 61, 50, 67, 99] := by decide +kernel
set_option maxRecDepth 100000 in
theorem awake4 (w : World) (hT : Lib.Utf8Tabs 0 1 w) (hK : Looks w) : Calls Tryd.prog 9 #[] w fun e w' => e = .returned (.bool true) ∧ Below w.heap.size w w' := by
  have HT := Lib.hid hT; clear hT
  have HK := Lib.hid hK; clear hK
  have hp := fun W h => prepare_any [97, 194, 160, 98, 194, 173] W (by decide) h
  rw [prep_eg] at hp
  have he := fun W h => escape_any [97, 61, 98, 44, 99] W (by decide) h
  rw [esc_eg] at he
  have HP := Lib.hid hp; clear hp
  have HE := Lib.hid he; clear he
  go_enter Tryd.func9, Tryd.ntmps9
  go_wp2_with fail
  refine (HP.out w HT.out).mono ?_
  rintro e w1 ⟨rfl, hB1⟩
  have HB1 := Lib.hid hB1; clear hB1
  go_wp2_with fail
  refine (HE.out w1 (HK.out.below HB1.out)).mono ?_
  rintro e w2 ⟨rfl, hB2⟩
  have HB2 := Lib.hid (HB1.out.trans (hB2.mono HB1.out.size)); clear hB2
  go_wp2_with fail
  go_ret
  exact ⟨rfl, HB2.out⟩
theorem escL_ge (s : List UInt8) : s.length ≤ (escL s).length := by
  induction s with
  | nil => simp
  | cons b t ih =>
    show _ ≤ ((if b = 44 then [61, 50, 67] else if b = 61 then [61, 51, 68] else [b]) ++ escL t).length
    rw [List.length_append, List.length_cons]
    split
    · simp; omega
    · split <;> (simp; omega)
theorem unR_esc (s : List UInt8) : unR (escL s) = (s, 0) := by
  unfold unR
  rw [unL_esc]
  have h : (escL s).contains 44 = false := by rw [← Bool.not_eq_true, List.contains_iff_mem]; exact esc_noComma s
  simp only [h, Bool.false_eq_true, if_false]
theorem unR_back (s : List UInt8) : (unR s).2 ≠ 0 ∨ ((unR s).2 = 0 ∧ escL (unR s).1 = s ∧ (unR s).1.length ≤ s.length) := by
  unfold unR
  cases h : unL s with
  | none => left; show (4 : Int) ≠ 0; decide
  | some r =>
    cases hc : s.contains 44 with
    | true => left; simp
    | false =>
      right
      have hm : (44 : UInt8) ∉ s := by rw [← List.contains_iff_mem, hc]; simp
      have he := esc_un s.length s r (Nat.le_refl _) h hm
      have := escL_ge r
      simp only [Bool.false_eq_true, if_false]
      refine ⟨?_, he, by rw [he] at this; exact this⟩
      first | trivial | rfl
set_option maxRecDepth 100000 in
set_option maxHeartbeats 1000000 in
theorem nameEscapes_law (s0 : List UInt8) (w : World) (hs : s0.length ≤ 9223372036854775807) (hT : Lib.Utf8Tabs 0 1 w) (hK : Looks w) :
    Calls Tryd.prog 7 #[str s0] w fun e w' => e = .returned (.bool true) ∧ Below w.heap.size w w' := by
  have HT := Lib.hid hT; clear hT
  have HK := Lib.hid hK; clear hK
  go_enter Tryd.func7, Tryd.ntmps7
  go_wp2_with fail
  refine (awake4 w HT.out HK.out).mono ?_
  rintro e w1 ⟨rfl, hB1⟩
  have HB1 := Lib.hid hB1; clear hB1
  go_wp2_with fail
  refine (cutText_any s0 120 w1 hs (by omega) (by omega)).mono ?_
  rintro e w2 ⟨rfl, rfl⟩
  obtain ⟨s, hs2⟩ : ∃ s, s = s0.take (120 : Int).toNat := ⟨_, rfl⟩
  rw [← hs2]
  have hsl : s.length ≤ 120 := by rw [hs2, List.length_take]; omega
  clear hs2
  have hel := escL_length s
  have hue := unR_esc s
  have hub := unR_back s
  have f1 := fun W h => escape_any s W (by omega) h
  have f2 := fun W h => unescape_any (escL s) W (by omega) h
  have f3 := fun W => refEscape_any s W (by omega)
  have f4 := fun W h => unescape_any s W (by omega) h
  have f5 := fun W => refUnescape_any s W (by omega)
  rw [hue] at f2
  obtain ⟨es, hes⟩ : ∃ es, es = escL s := ⟨_, rfl⟩
  rw [← hes] at f1 f2 f3
  obtain ⟨r, x, hrx⟩ : ∃ r x, unR s = (r, x) := ⟨_, _, rfl⟩
  rw [hrx] at f4 f5 hub
  simp only at hub
  have F1 := Lib.hid f1; clear f1
  have F2 := Lib.hid f2; clear f2
  have F3 := Lib.hid f3; clear f3
  have F4 := Lib.hid f4; clear f4
  have F5 := Lib.hid f5; clear f5
  clear hrx hes hue hel
  go_wp2_with fail
  refine (F1.out w1 (HK.out.below HB1.out)).mono ?_
  rintro e w2 ⟨rfl, hB2⟩
  have HB2 := Lib.hid (HB1.out.trans (hB2.mono HB1.out.size)); clear hB2
  go_wp2_with fail
  refine (F2.out w2 (HK.out.below HB2.out)).mono ?_
  rintro e w3 ⟨rfl, hB3⟩
  have HB3 := Lib.hid (HB2.out.trans (hB3.mono HB2.out.size)); clear hB3
  go_wp2_with fail
  refine (F3.out w3).mono ?_
  rintro e w4 ⟨rfl, rfl⟩
  go_wp2_with fail
  refine (F4.out w3 (HK.out.below HB3.out)).mono ?_
  rintro e w4 ⟨rfl, hB4⟩
  have HB4 := Lib.hid (HB3.out.trans (hB4.mono HB3.out.size)); clear hB4
  go_wp2_with fail
  refine (F5.out w4).mono ?_
  rintro e w5 ⟨rfl, rfl⟩
  rcases hub with hx | ⟨rfl, he, hrl⟩
  · have hx2 : ((x == 0) = false) := by rw [beq_eq_false_iff_ne]; exact hx
    go_wp2_with fail
    go_ret
    exact ⟨rfl, HB4.out⟩
  · have f6 := fun W h => escape_any r W (by omega) h
    rw [he] at f6
    have F6 := Lib.hid f6; clear f6 he
    go_wp2_with fail
    refine (F6.out w4 (HK.out.below HB4.out)).mono ?_
    rintro e w6 ⟨rfl, hB6⟩
    have HB6 := Lib.hid (HB4.out.trans (hB6.mono HB4.out.size)); clear hB6
    go_wp2_with fail
    go_ret
    exact ⟨rfl, HB6.out⟩
end Go.Proofs.YtgcjaaocdhlegaaDoor
