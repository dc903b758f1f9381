/- The statement NameAppends' own text, walked. -/
import Derived.Test.YtpphccjpdkcnmaaDoorNmAppends
namespace Go.Proofs.YtpphccjpdkcnmaaDoor
open Go.RowKit Go.Shelf
set_option maxRecDepth 100000 in
set_option maxHeartbeats 2000000 in
theorem nameAppends_law (B : Nat) (v0 : Value) (l0 : List UInt8) (r : Int) (w : World) (hv : Sl w B v0 l0) (hr0 : -2147483648 ≤ r) (hr1 : r ≤ 2147483647) (hB : B ≤ w.heap.size) (hT : Lib.Utf8Tabs 0 1 w) (hK : Looks w) :
    Calls Tryd.prog 4 #[v0, .int .i32 r] w fun e w' => e = .returned (.bool true) ∧ Below w.heap.size w w' := by
  have HT := Lib.hid hT; clear hT
  have HK := Lib.hid hK; clear hK
  have HV := Lib.hid hv; clear hv
  go_enter Tryd.func4, Tryd.ntmps4
  go_wp2_with fail
  refine (awake4 w HT.out HK.out).mono ?_
  rintro e w1 ⟨rfl, hB1⟩
  have HB1 := Lib.hid hB1; clear hB1
  have hz1 := HB1.out.size
  go_wp2_with fail
  refine (cut_any B v0 l0 20 w1 (HV.out.below HB1.out hB) (by omega) (by omega) (by omega)).mono ?_
  rintro e w2 ⟨v1, rfl, hO, hB2⟩
  obtain ⟨l, hl⟩ : ∃ l, l = l0.take (20 : Int).toNat := ⟨_, rfl⟩
  rw [← hl] at hO
  have hll : l.length ≤ 20 := by rw [hl, List.length_take]; omega
  clear hl
  have HS2 := Lib.hid hO.sl; clear hO
  have HB2 := Lib.hid (HB1.out.trans (hB2.mono hz1)); clear hB2
  have hz2 := HB2.out.size
  obtain ⟨A1, c1, e1, _, _⟩ := id HS2.out
  subst e1
  go_wp2_with fail
  refine (copy_any w2.heap.size _ l w2 HS2.out (Nat.le_refl _) (by omega)).mono ?_
  rintro e w3 ⟨v3, rfl, hO3, hB3⟩
  have HS3 := Lib.hid (HS2.out.below hB3 (Nat.le_refl _))
  have HO3 := Lib.hid hO3
  have HB3 := Lib.hid (HB2.out.trans (hB3.mono hz2))
  have hz23 := hB3.size
  clear hO3 hB3
  have hz3 := HB3.out.size
  have HOA := Lib.hid (HO3.out.below ((Below.refl w3.heap.size w3).alloc (Nat.le_refl _) (.cells #[.int .u8 9, .int .u8 9, .int .u8 9, .int .u8 9] 5)))
  have HBA := Lib.hid (HB3.out.alloc hz3 (.cells #[.int .u8 9, .int .u8 9, .int .u8 9, .int .u8 9] 5))
  have hbs : Bs (w3.alloc (.cells #[.int .u8 9, .int .u8 9, .int .u8 9, .int .u8 9] 5)) w3.heap.size 0 [9, 9, 9, 9] :=
    Bs.of_blk (Blk.newA w3 #[.int .u8 9, .int .u8 9, .int .u8 9, .int .u8 9] 5) 0 (fun j hj => by
      match j, hj with
      | 0, _ => rfl
      | 1, _ => rfl
      | 2, _ => rfl
      | 3, _ => rfl)
  have HBS := Lib.hid hbs; clear hbs
  have HSA := Lib.hid (HS3.out.below ((Below.refl w3.heap.size w3).alloc (Nat.le_refl _) (.cells #[.int .u8 9, .int .u8 9, .int .u8 9, .int .u8 9] 5)) hz23)
  go_wp2_with (at_builtin; ((with_reducible refine wpList_app ?g1 (.tmp 14) (.tmp 15) ?g2 w2.heap.size v3 l [9, 9, 9, 9] ?g3 ?g4 w3.heap.size 0 4 4 ?g5 ?g6 ?g7 ?g8 ?g9 ?_); (case g1 => rfl); (case g2 => rfl); (case g3 => rfl); (case g4 => exact HOA.out); (case g5 => rfl); (case g6 => rfl); (case g7 => exact HBS.out); (case g8 => omega); (case g9 => simp; omega); intro v4 w4 hv hg; have HO4 := Lib.hid hv; have HB4 := Lib.hid (HBA.out.trans ((OwnB.belowBase HOA.out hg (by simp; omega)).mono (by omega))); have HS4 := Lib.hid (HSA.out.below (OwnB.belowBase HOA.out hg (by simp; omega)) (Nat.le_refl _)); have hlf : (l ++ [9, 9, 9, 9]).length = l.length + 4 := List.length_append; obtain ⟨g, cap, e4, hg1, hg2, hg3, hg4, hbs, _⟩ := hv.form (by rw [hlf]; omega); rw [hlf] at e4 hg3; subst e4; unfold maxLen at hg4; have H94 := Lib.hid hbs; clear hbs; clear hv; clear hg; clear hlf))
  have hsl : Sl w4 w4.heap.size (.slice (some ⟨g, 0, none⟩) l.length cap) l := by
    have := H94.out.take l.length
    rw [List.take_left] at this
    exact ⟨_, _, rfl, (fun h => by cases h), by omega, by omega, fun _ => ⟨g, 0, rfl, hg2, this⟩⟩
  have hz4 := HB4.out.size
  have h9 : w4.cell? ⟨g, l.length, none⟩ = some (.int .u8 9) := by
    have := H94.out l.length (by rw [List.length_append]; show l.length < l.length + 4; omega)
    rw [Nat.zero_add, List.getElem_append_right (Nat.le_refl _)] at this
    simp only [Nat.sub_self] at this
    exact this
  have H9 := Lib.hid h9; clear h9
  have HS4' := Lib.hid (HS4.out.more (show w2.heap.size ≤ w4.heap.size by omega))
  refine (append_any w4.heap.size _ l r w4 hsl (Nat.le_refl _) (by omega) hr0 hr1).mono ?_
  rintro e w5 ⟨v5, rfl, hS5, hB5⟩
  have HG5 := Lib.hid hS5; clear hS5
  have H95 := Lib.hid ((hB5.cell (p := ⟨g, l.length, none⟩) hg2).trans H9.out)
  have HS5 := Lib.hid (HS4'.out.below hB5 (Nat.le_refl _))
  have hz45 := hB5.size
  have HB5 := Lib.hid (HB4.out.trans (hB5.mono hz4)); clear hB5 hsl
  have hz5 := HB5.out.size
  have hg5 : g < w5.heap.size := by omega
  have hel : (Lib.encodeRune r).length ≤ 4 := by rw [enc_len]; exact (Lib.encodeRuneZ_length r).2
  obtain ⟨A5, c5, e5, _⟩ := id HG5.out
  rw [List.length_append] at e5
  subst e5
  go_wp2_with fail
  refine (refBytesR_any r w5).mono ?_
  rintro e w6 ⟨v6, rfl, hO6, hB6⟩
  have HE6 := Lib.hid hO6.sl; clear hO6
  have HG6 := Lib.hid (HG5.out.below hB6 (Nat.le_refl _))
  have H96 := Lib.hid ((hB6.cell (p := ⟨g, l.length, none⟩) hg5).trans H95.out)
  have HS6 := Lib.hid ((HS5.out.more hz45).below hB6 (Nat.le_refl _))
  have hz56 := hB6.size
  have HB6 := Lib.hid (HB5.out.trans (hB6.mono hz5)); clear hB6
  have hz6 := HB6.out.size
  have hg6 : g < w6.heap.size := by omega
  obtain ⟨A6, c6, e6, _⟩ := id HE6.out
  subst e6
  go_wp2_with fail
  refine (copy_any w6.heap.size _ l w6 (HS6.out.more hz56) (Nat.le_refl _) (by omega)).mono ?_
  rintro e w7 ⟨v7, rfl, hO7, hB7⟩
  have HO7 := Lib.hid hO7; clear hO7
  have HE7 := Lib.hid (HE6.out.below hB7 (Nat.le_refl _))
  have HG7 := Lib.hid ((HG6.out.more hz56).below hB7 (Nat.le_refl _))
  have H97 := Lib.hid ((hB7.cell (p := ⟨g, l.length, none⟩) hg6).trans H96.out)
  have hz67 := hB7.size
  have HB7 := Lib.hid (HB6.out.trans (hB7.mono hz6)); clear hB7
  have hz7 := HB7.out.size
  have hg7 : g < w7.heap.size := by omega
  go_wp2_with (at_builtin; ((with_reducible refine wpList_app_sl ?f1 (.tmp 28) (.tmp 29) ?f2 w6.heap.size v7 l (Lib.encodeRune r) ?f3 ?f4 w6.heap.size (.slice A6 (Lib.encodeRune r).length c6) ?f5 ?f6 ?f7 ?f8 ?_); (case f1 => rfl); (case f2 => rfl); (case f3 => rfl); (case f4 => exact HO7.out); (case f5 => rfl); (case f6 => exact HE7.out); (case f7 => omega); (case f8 => exact hz67); intro v8 w8 hv hg; have hb := HO7.out.belowBase hg hz67; have HV8 := Lib.hid hv.sl; have HE8 := Lib.hid (HE7.out.below hb (Nat.le_refl _)); have HG8 := Lib.hid (HG7.out.below hb (Nat.le_refl _)); have h98 := (hb.cell (p := ⟨g, l.length, none⟩) hg6).trans H97.out; have HB8 := Lib.hid (HB7.out.trans (hb.mono hz6)); clear hv; clear hg; clear hb))
  have hbe : ((l ++ Lib.encodeRune r) == (l ++ Lib.encodeRune r)) = true := by rw [beq_iff_eq]
  refine (same_any _ _ _ _ (l ++ Lib.encodeRune r) (l ++ Lib.encodeRune r) w8 HG8.out HV8.out).mono ?_
  rintro e w9 ⟨rfl, rfl⟩
  rw [hbe]
  clear hbe
  have hcv := conv_sl HE8.out
  obtain ⟨x, hx, hxr⟩ := one_sign r hr1
  have HSG := Lib.hid (signs_any (Lib.encodeRune r) 9 w8 (by omega) (by omega) (by omega) (Utf8Tabs_below HT.out HB8.out))
  rw [hx] at HSG
  have ht9 : ([((0 : Nat), x)] : List (Nat × Int)).take 9 = [(0, x)] := rfl
  rw [ht9] at HSG
  clear hx ht9
  go_wp2_with fail
  refine HSG.out.mono ?_
  rintro e w9 ⟨v9, rfl, hO9, hB9⟩
  have HB9 := Lib.hid (HB8.out.trans (hB9.mono HB8.out.size))
  obtain ⟨A9, c9, rfl, hin⟩ := hO9.sgIn
  obtain ⟨g9, rfl, q0, q1⟩ := hin 0 (by simp)
  have q1' : w9.cell? ⟨g9, 1, none⟩ = some (.int .i64 x) := q1
  clear hB9 hO9 hin q0 q1 hcv
  simp only [List.length_singleton]
  rcases hxr with rfl | ⟨hne, rfl⟩
  · go_wp2_with fail
    go_ret
    exact ⟨rfl, HB9.out⟩
  · have hne' : ((65533 : Int) == r) = false := by rw [beq_eq_false_iff_ne]; exact hne
    clear hne
    go_wp2_with fail
    go_ret
    exact ⟨rfl, HB9.out⟩
theorem nameAppends_w (B : Nat) (v0 : Value) (l0 : List UInt8) (r : Int) (w : World) (hv : Sl w B v0 l0) (hr : (Lit.int .i32 r).wf = true) (hB : B ≤ w.heap.size) (hT : Lib.Utf8Tabs 0 1 w) (hK : Looks w) :
    Calls Tryd.prog 4 #[v0, .int .i32 r] w fun e w' => e = .returned (.bool true) ∧ Below w.heap.size w w' := by
  have h2 : -2147483648 ≤ r ∧ r ≤ 2147483647 := by
    simp [Lit.wf, IntKind.min, IntKind.max, IntKind.bits, IntKind.signed] at hr
    omega
  exact nameAppends_law B v0 l0 r w hv h2.1 h2.2 hB hT hK
end Go.Proofs.YtpphccjpdkcnmaaDoor
