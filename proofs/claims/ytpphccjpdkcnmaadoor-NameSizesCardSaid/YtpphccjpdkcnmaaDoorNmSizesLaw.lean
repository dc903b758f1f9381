/- The statement NameSizes' own text, walked. -/
import Derived.Test.YtpphccjpdkcnmaaDoorNmAwake
import Derived.Test.YtpphccjpdkcnmaaDoorNmStays
import Derived.Test.YtpphccjpdkcnmaaDoorNmPlain
namespace Go.Proofs.YtpphccjpdkcnmaaDoor
open Go.RowKit Go.Shelf
theorem pl_prep : ∀ n : Fin 256, plB (UInt8.ofNat n.val) = true → spB (n.val : Int) = false ∧ goB (n.val : Int) = false ∧ baB (n.val : Int) = false ∧ Lib.encodeRune (n.val : Int) = [UInt8.ofNat n.val] ∧ n.val < 128 := by decide +kernel
theorem pl_byte (b : UInt8) (h : plB b = true) : spB (b.toNat : Int) = false ∧ goB (b.toNat : Int) = false ∧ baB (b.toNat : Int) = false ∧ Lib.encodeRune (b.toNat : Int) = [b] ∧ b.toNat < 128 := by
  have := pl_prep ⟨b.toNat, b.toNat_lt⟩
  simp only [UInt8.ofNat_toNat] at this
  exact this h
theorem sg_plain : ∀ s : List UInt8, s.all plB = true → sg s = s.map (fun b => (b.toNat : Int))
  | [], _ => rfl
  | b :: t, h => by
    rw [List.all_cons, Bool.and_eq_true] at h
    obtain ⟨h1, h2⟩ := h
    obtain ⟨_, _, _, he, hl⟩ := pl_byte b h1
    have := sg_enc (b.toNat : Int) t (.inl (by omega))
    rw [he] at this
    rw [List.map_cons, ← sg_plain t h2]
    exact this
theorem plain_prep (s : List UInt8) (h : s.all plB = true) : prepL s = (s, 0) := by
  rw [prepL_sg, sg_plain s h]
  unfold prepS
  have key : ∀ l : List UInt8, l.all plB = true → (l.map (fun b => (b.toNat : Int))).any (fun r => r == -1) = false ∧ (l.map (fun b => (b.toNat : Int))).any noB = false ∧ prOs (l.map (fun b => (b.toNat : Int))) = l := by
    intro l
    induction l with
    | nil => intro _; exact ⟨rfl, rfl, rfl⟩
    | cons b t ih =>
      intro hl
      rw [List.all_cons, Bool.and_eq_true] at hl
      obtain ⟨i1, i2, i3⟩ := ih hl.2
      obtain ⟨q1, q2, q3, q4, q5⟩ := pl_byte b hl.1
      rw [List.map_cons, List.any_cons, List.any_cons, i1, i2]
      have e1 : ((b.toNat : Int) == -1) = false := by rw [beq_eq_false_iff_ne]; omega
      have e2 : noB (b.toNat : Int) = false := by unfold noB; rw [q3, Bool.and_false]
      have e3 : prS (b.toNat : Int) = [b] := by unfold prS; rw [q1, q2, q3]; exact q4
      refine ⟨by rw [e1]; rfl, by rw [e2]; rfl, ?_⟩
      show prS (b.toNat : Int) ++ prOs (t.map _) = b :: t
      rw [e3, i3]; rfl
  obtain ⟨k1, k2, k3⟩ := key s h
  rw [k1, k2, k3]
  rfl
theorem plain_siz (s : List UInt8) (h : plainL s = true) : (sizL 32 (prepL s)).1 = s := by
  unfold plainL at h
  simp only [Bool.and_eq_true, decide_eq_true_eq] at h
  obtain ⟨⟨h1, h2⟩, h3⟩ := h
  rw [plain_prep s h1]
  unfold sizL
  rw [if_neg (by simp), if_neg (by show ¬ s.length = 0; omega), if_neg (by show ¬ (32 : Int) < (s.length : Int); omega)]
set_option maxRecDepth 100000 in
set_option maxHeartbeats 2000000 in
theorem nameSizes_law (s0 : List UInt8) (w : World) (hs : s0.length ≤ 9223372036854775807) (hT : Lib.Utf8Tabs 0 1 w) (hK : Looks w) :
    Calls Tryd.prog 6 #[str s0] w fun e w' => e = .returned (.bool true) ∧ Below w.heap.size w w' := by
  have HT := Lib.hid hT; clear hT
  have HK := Lib.hid hK; clear hK
  go_enter Tryd.func6, Tryd.ntmps6
  go_wp2_with fail
  refine (awake4 w HT.out HK.out).mono ?_
  rintro e w1 ⟨rfl, hB1⟩
  have HB1 := Lib.hid hB1; clear hB1
  go_wp2_with fail
  refine (cutText_any s0 120 w1 hs (by omega) (by omega)).mono ?_
  rintro e w2 ⟨rfl, rfl⟩
  obtain ⟨s, hs2⟩ : ∃ s, s = s0.take (120 : Int).toNat := ⟨_, rfl⟩
  rw [← hs2]
  have hsl : s.length ≤ 120 := by rw [hs2, List.length_take]; omega
  clear hs2
  have hps := plain_siz s
  have f1 := fun W h => name_any s W (by omega) h
  have f2 := fun W => refSized_any s 32 W (by omega)
  have f3 := fun W h => password_any s W (by omega) h
  have f4 := fun W => refSized_any s 64 W (by omega)
  have f5 := fun W => plain_any s W (by omega)
  have f6 := fun W => refPlain_any s W (by omega)
  obtain ⟨a, x, hax⟩ : ∃ a x, sizL 32 (prepL s) = (a, x) := ⟨_, _, rfl⟩
  obtain ⟨b, y, hby⟩ : ∃ a x, sizL 64 (prepL s) = (a, x) := ⟨_, _, rfl⟩
  obtain ⟨P, hP⟩ : ∃ P, P = plainL s := ⟨_, rfl⟩
  rw [hax] at f1 f2 hps
  rw [hby] at f3 f4
  rw [← hP] at f5 f6 hps
  simp only at f1 f2 f3 f4 hps
  have F1 := Lib.hid f1; clear f1
  have F2 := Lib.hid f2; clear f2
  have F3 := Lib.hid f3; clear f3
  have F4 := Lib.hid f4; clear f4
  have F5 := Lib.hid f5; clear f5
  have F6 := Lib.hid f6; clear f6
  have HPS := Lib.hid hps
  clear hax hby hP hps
  go_wp2_with fail
  refine (F1.out w1 (Utf8Tabs_below HT.out HB1.out)).mono ?_
  rintro e w2 ⟨rfl, hB2⟩
  have HB2 := Lib.hid (HB1.out.trans (hB2.mono HB1.out.size)); clear hB2
  go_wp2_with fail
  refine (F2.out w2).mono ?_
  rintro e w3 ⟨rfl, hB3⟩
  have HB3 := Lib.hid (HB2.out.trans (hB3.mono HB2.out.size)); clear hB3
  go_wp2_with fail
  refine (F3.out w3 (Utf8Tabs_below HT.out HB3.out)).mono ?_
  rintro e w4 ⟨rfl, hB4⟩
  have HB4 := Lib.hid (HB3.out.trans (hB4.mono HB3.out.size)); clear hB4
  go_wp2_with fail
  refine (F4.out w4).mono ?_
  rintro e w5 ⟨rfl, hB5⟩
  have HB5 := Lib.hid (HB4.out.trans (hB5.mono HB4.out.size)); clear hB5
  go_wp2_with fail
  refine (F5.out w5).mono ?_
  rintro e w6 ⟨rfl, hB6⟩
  have HB6 := Lib.hid (HB5.out.trans (hB6.mono HB5.out.size)); clear hB6
  go_wp2_with fail
  refine (F6.out w6).mono ?_
  rintro e w7 ⟨rfl, rfl⟩
  go_wp2_with fail
  refine (F5.out w6).mono ?_
  rintro e w7 ⟨rfl, hB7⟩
  have HB7 := Lib.hid (HB6.out.trans (hB7.mono HB6.out.size)); clear hB7
  cases P with
  | true =>
    obtain rfl := HPS.out rfl
    clear HPS
    go_wp2_with fail
    go_ret
    exact ⟨rfl, HB7.out⟩
  | false =>
    clear HPS
    go_wp2_with fail
    go_ret
    exact ⟨rfl, HB7.out⟩
end Go.Proofs.YtpphccjpdkcnmaaDoor
