/- The statement NameJoins' own text, walked. -/
import Derived.Test.YtpphccjpdkcnmaaDoorNmAwake
import Derived.Test.YtpphccjpdkcnmaaDoorNmList
import Derived.Test.YtpphccjpdkcnmaaDoorStrI
namespace Go.Proofs.YtpphccjpdkcnmaaDoor
open Go.RowKit Go.Shelf
theorem prepS_le (s : List UInt8) : (prepL s).1.length ≤ 4 * s.length := by
  unfold prepL
  have h1 := prO_le (runesF s.length 0 s)
  have h2 := runesF_len s.length 0 s
  split
  · simp
  · split
    · simp only; omega
    · simp
/-- What texts in a row are prepared to. -/
theorem prep_join (a b : List UInt8) : ((prepL a).2 = 0 ∧ (prepL b).2 = 0 ∧ (prepL (a ++ b)).2 = 0 ∧ (prepL (a ++ b)).1 = (prepL a).1 ++ (prepL b).1) ∨
    (((prepL a).2 ≠ 0 ∨ ((prepL a).2 = 0 ∧ (prepL b).2 ≠ 0)) ∧ ((prepL a).2 = 4 ∨ ((prepL a).2 ≠ 4 ∧ (prepL b).2 = 4) ∨ ((prepL a).2 ≠ 4 ∧ (prepL b).2 ≠ 4 ∧ (prepL (a ++ b)).2 = 5))) := by
  rw [prepL_sg, prepL_sg, prepL_sg]
  cases ha : (sg a).any (fun r => r == -1) with
  | true =>
    right
    have e : prepS (sg a) = ([], 4) := by unfold prepS; rw [ha]; rfl
    rw [e]
    exact ⟨.inl (by show (4 : Int) ≠ 0; decide), .inl rfl⟩
  | false =>
    have hall : ∀ r ∈ sg a, r ≠ -1 := by
      intro r hr e
      subst e
      rw [List.any_eq_false] at ha
      exact ha _ hr (by decide)
    have hs := sg_app a.length a b (Nat.le_refl _) hall
    have hab : ∀ f : Int → Bool, (sg (a ++ b)).any f = ((sg a).any f || (sg b).any f) := fun f => by rw [hs, List.any_append]
    have e : prepS (sg a) = if (sg a).any noB then ([], 5) else (prOs (sg a), 0) := by unfold prepS; rw [ha]; rfl
    cases hb : (sg b).any (fun r => r == -1) with
    | true =>
      right
      have e2 : prepS (sg b) = ([], 4) := by unfold prepS; rw [hb]; rfl
      rw [e2, e]
      cases hna : (sg a).any noB
      · exact ⟨.inr ⟨rfl, by show (4 : Int) ≠ 0; decide⟩, .inr (.inl ⟨by show (0 : Int) ≠ 4; decide, rfl⟩)⟩
      · exact ⟨.inl (by show (5 : Int) ≠ 0; decide), .inr (.inl ⟨by show (5 : Int) ≠ 4; decide, rfl⟩)⟩
    | false =>
      have e2 : prepS (sg b) = if (sg b).any noB then ([], 5) else (prOs (sg b), 0) := by unfold prepS; rw [hb]; rfl
      have e3 : prepS (sg (a ++ b)) = if ((sg a).any noB || (sg b).any noB) then ([], 5) else (prOs (sg a) ++ prOs (sg b), 0) := by
        unfold prepS
        rw [hab, hab, ha, hb, hs]
        unfold prOs
        rw [List.flatMap_append]
        rfl
      rw [e, e2, e3]
      cases hna : (sg a).any noB <;> cases hnb : (sg b).any noB
      · left; exact ⟨rfl, rfl, rfl, rfl⟩
      · right; exact ⟨.inr ⟨rfl, by show (5 : Int) ≠ 0; decide⟩, .inr (.inr ⟨by show (0 : Int) ≠ 4; decide, by show (5 : Int) ≠ 4; decide, rfl⟩)⟩
      · right; exact ⟨.inl (by show (5 : Int) ≠ 0; decide), .inr (.inr ⟨by show (5 : Int) ≠ 4; decide, by show (0 : Int) ≠ 4; decide, rfl⟩)⟩
      · right; exact ⟨.inl (by show (5 : Int) ≠ 0; decide), .inr (.inr ⟨by show (5 : Int) ≠ 4; decide, by show (5 : Int) ≠ 4; decide, rfl⟩)⟩
set_option maxRecDepth 100000 in
set_option maxHeartbeats 1000000 in
theorem nameJoins_law (a0 b0 : List UInt8) (w : World) (ha : a0.length ≤ 9223372036854775807) (hb : b0.length ≤ 9223372036854775807) (hT : Lib.Utf8Tabs 0 1 w) (hK : Looks w) :
    Calls Tryd.prog 7 #[str a0, str b0] w fun e w' => e = .returned (.bool true) ∧ Below w.heap.size w w' := by
  have HT := Lib.hid hT; clear hT
  have HK := Lib.hid hK; clear hK
  go_enter Tryd.func7, Tryd.ntmps7
  go_wp2_with fail
  refine (awake4 w HT.out HK.out).mono ?_
  rintro e w1 ⟨rfl, hB1⟩
  have HB1 := Lib.hid hB1; clear hB1
  go_wp2_with fail
  refine (cutText_any a0 60 w1 ha (by omega) (by omega)).mono ?_
  rintro e w2 ⟨rfl, rfl⟩
  obtain ⟨a, ha2⟩ : ∃ s, s = a0.take (60 : Int).toNat := ⟨_, rfl⟩
  rw [← ha2]
  have HA2 := Lib.hid ha2; clear ha2
  go_wp2_with fail
  refine (cutText_any b0 60 w1 hb (by omega) (by omega)).mono ?_
  rintro e w2 ⟨rfl, rfl⟩
  obtain ⟨b, hb2⟩ : ∃ s, s = b0.take (60 : Int).toNat := ⟨_, rfl⟩
  rw [← hb2]
  have ha2 := HA2.out; clear HA2
  have hal : a.length ≤ 60 := by rw [ha2, List.length_take]; omega
  have hbl : b.length ≤ 60 := by rw [hb2, List.length_take]; omega
  clear ha2 hb2 ha hb
  have hab : (ByteArray.mk a.toArray) ++ (ByteArray.mk b.toArray) = ByteArray.mk (a ++ b).toArray := str_app a b
  have f1 := fun W h => prepare_any a W (by omega) h
  have f2 := fun W h => prepare_any b W (by omega) h
  have f3 := fun W h => prepare_any (a ++ b) W (by rw [List.length_append]; omega) h
  have hj := prep_join a b
  have la := prepS_le a
  have lb := prepS_le b
  obtain ⟨p, e, hpe⟩ : ∃ p e, prepL a = (p, e) := ⟨_, _, rfl⟩
  obtain ⟨q, f, hqf⟩ : ∃ p e, prepL b = (p, e) := ⟨_, _, rfl⟩
  obtain ⟨r, g, hrg⟩ : ∃ p e, prepL (a ++ b) = (p, e) := ⟨_, _, rfl⟩
  rw [hpe] at f1 hj la
  rw [hqf] at f2 hj lb
  rw [hrg] at f3 hj
  simp only at hj f1 f2 f3 la lb
  have hpq : (ByteArray.mk p.toArray) ++ (ByteArray.mk q.toArray) = ByteArray.mk (p ++ q).toArray := str_app p q
  have F1 := Lib.hid f1; clear f1
  have F2 := Lib.hid f2; clear f2
  have F3 := Lib.hid f3; clear f3
  clear hpe hqf hrg
  have HJ := Lib.hid hj; clear hj
  go_wp2_with fail
  refine (F1.out w1 (Utf8Tabs_below HT.out HB1.out)).mono ?_
  rintro e w2 ⟨rfl, hB2⟩
  have HB2 := Lib.hid (HB1.out.trans (hB2.mono HB1.out.size)); clear hB2
  go_wp2_with fail
  refine (F2.out w2 (Utf8Tabs_below HT.out HB2.out)).mono ?_
  rintro e w3 ⟨rfl, hB3⟩
  have HB3 := Lib.hid (HB2.out.trans (hB3.mono HB2.out.size)); clear hB3
  go_wp2_with fail
  refine (F3.out w3 (Utf8Tabs_below HT.out HB3.out)).mono ?_
  rintro e w4 ⟨rfl, hB4⟩
  have HB4 := Lib.hid (HB3.out.trans (hB4.mono HB3.out.size)); clear hB4
  rcases HJ.out with ⟨rfl, rfl, rfl, rfl⟩ | ⟨h1, h2⟩
  · go_wp2_with fail
    go_ret
    exact ⟨by simp, HB4.out⟩
  · have nf : ∀ x y : Int, x ≠ y → (x == y) = false := fun x y h => by rw [beq_eq_false_iff_ne]; exact h
    clear HJ HT HK
    rcases h2 with rfl | ⟨he4, rfl⟩ | ⟨he4, hf4, rfl⟩
    · clear h1
      go_wp2_with fail
      go_ret
      exact ⟨rfl, HB4.out⟩
    · have e4 := nf _ _ he4
      rcases h1 with he | ⟨rfl, hf⟩
      · have e0 := nf _ _ he
        clear nf he he4
        go_wp2_with fail
        go_ret
        exact ⟨rfl, HB4.out⟩
      · clear nf he4 e4
        go_wp2_with fail
        go_ret
        exact ⟨rfl, HB4.out⟩
    · have e4 := nf _ _ he4
      have f4 := nf _ _ hf4
      rcases h1 with he | ⟨rfl, hf⟩
      · have e0 := nf _ _ he
        clear nf he he4 hf4
        go_wp2_with fail
        go_ret
        exact ⟨rfl, HB4.out⟩
      · have f0 := nf _ _ hf
        clear nf he4 hf4 e4 hf
        go_wp2_with fail
        go_ret
        exact ⟨rfl, HB4.out⟩
end Go.Proofs.YtpphccjpdkcnmaaDoor
