/- proof: the reference's SameSecret and Right; the statement ProofDummies' own text. (By mkpdl.py.) ProofDummies: the law in the card's form. -/
import Derived.Test.YteadncmhcbdicaaDoorPdF1
import Derived.Test.YteadncmhcbdicaaDoorPdF2
import Derived.Test.YteadncmhcbdicaaDoorPdF3
import Derived.Test.YteadncmhcbdicaaDoorPdB
import Derived.Test.YteadncmhcbdicaaDoorPdRW
set_option maxRecDepth 100000
namespace Go.Proofs.YteadncmhcbdicaaDoor
open Go.RowKit
attribute [local go_sem] Oper.semAt_some
theorem refDummy_any (t u : List UInt8) (n : Int) (w : World) (ht : t.length ≤ 100) (hu : u.length ≤ 100) (hT : TabB w) (hG : 1 < w.heap.size) :
    Calls Tryd.prog 9 #[str t, str u, .int .i64 n] w fun e w' => ∃ r, e = .returned r ∧ DumR w' t u n r ∧ Below w.heap.size w w' := by
  by_cases c1 : n < 1
  · exact refDummy_1 t u n c1 w ht hu hT hG
  · by_cases c2 : 64 < n
    · exact refDummy_2 t u n c1 c2 w ht hu hT hG
    · exact refDummy_3 t u n c1 c2 w ht hu hT hG
/-- A secret that holds these bytes. -/
structure SecR (w : World) (l0 : List UInt8) (n : Int) (l2 l3 l4 : List UInt8) (v0 v2 v3 v4 : Value) : Prop where
  a : Sl w w.heap.size v0 l0
  b : Sl w w.heap.size v2 l2
  c : Sl w w.heap.size v3 l3
  d : Sl w w.heap.size v4 l4
theorem SecR.fwd {w w' : World} {l0 l2 l3 l4 : List UInt8} {n : Int} {v0 v2 v3 v4 : Value} (h : SecR w l0 n l2 l3 l4 v0 v2 v3 v4) (hb : Below w.heap.size w w') : SecR w' l0 n l2 l3 l4 v0 v2 v3 v4 := ⟨h.a.fwd hb, h.b.fwd hb, h.c.fwd hb, h.d.fwd hb⟩
set_option maxHeartbeats 4000000 in
theorem sameSecret_true (w : World) (l0 l2 l3 l4 : List UInt8) (m : Int) (v0 v2 v3 v4 u0 u2 u3 u4 : Value) (h : SecR w l0 m l2 l3 l4 v0 v2 v3 v4) (k : SecR w l0 m l2 l3 l4 u0 u2 u3 u4) :
    Calls Tryd.prog 8 #[.agg #[v0, .int .i64 m, v2, v3, v4], .agg #[u0, .int .i64 m, u2, u3, u4]] w fun e w' => e = .returned (.bool true) ∧ Below w.heap.size w w' := by
  obtain ⟨W, hW⟩ : ∃ W, W = (w.alloc (.cells #[v0, .int .i64 m, v2, v3, v4] 28)).alloc (.cells #[u0, .int .i64 m, u2, u3, u4] 28) := ⟨_, rfl⟩
  have hb : Below w.heap.size w W := by rw [hW]; exact ((Below.refl _ _).alloc (Nat.le_refl _) _).alloc (by simp) _
  have HB := Lib.hid hb
  have H := Lib.hid (h.fwd hb)
  have K := Lib.hid (k.fwd hb)
  have h1 : Blk W w.heap.size [v0, .int .i64 m, v2, v3, v4] := by rw [hW]; exact (Blk.new w _ _).below ((Below.refl _ _).alloc (Nat.le_refl _) _) (by simp)
  have h2 : Blk W (w.heap.size + 1) [u0, .int .i64 m, u2, u3, u4] := by rw [hW]; exact Blk.newAt (w.alloc (.cells #[v0, .int .i64 m, v2, v3, v4] 28)) _ _ (by simp) rfl
  clear h k hb
  have a0 := h1.at (o := 0) rfl
  have a1 := h1.at (o := 1) rfl
  have a2 := h1.at (o := 2) rfl
  have a3 := h1.at (o := 3) rfl
  have a4 := h1.at (o := 4) rfl
  have b0 := h2.at (o := 0) rfl
  have b1 := h2.at (o := 1) rfl
  have b2 := h2.at (o := 2) rfl
  have b3 := h2.at (o := 3) rfl
  have b4 := h2.at (o := 4) rfl
  clear h1 h2
  go_enter Tryd.func8, Tryd.ntmps8
  rw [hW] at a0 a1 a2 a3 a4 b0 b1 b2 b3 b4
  go_wp2_with fail
  rw [← hW] at a0 a1 a2 a3 a4 b0 b1 b2 b3 b4 ⊢
  clear hW
  refine (same_true _ _ v0 u0 l0 W H.out.a K.out.a).mono ?_
  rintro e w1 ⟨rfl, rfl⟩
  go_wp2_with fail
  refine (same_true _ _ v2 u2 l2 W H.out.b K.out.b).mono ?_
  rintro e w1 ⟨rfl, rfl⟩
  go_wp2_with fail
  refine (same_true _ _ v3 u3 l3 W H.out.c K.out.c).mono ?_
  rintro e w1 ⟨rfl, rfl⟩
  go_wp2_with fail
  refine (same_true _ _ v4 u4 l4 W H.out.d K.out.d).mono ?_
  rintro e w1 ⟨rfl, rfl⟩
  go_wp2_with fail
  go_ret
  exact ⟨rfl, HB.out⟩
theorem salted_true (A : Option Addr) (c : Nat) (m : Int) (w : World) (h1 : 1 ≤ m) (h2 : m ≤ 64) : Calls Tryd.prog 19 #[.slice A 16 c, .int .i64 m] w fun e w' => e = .returned (.bool true) ∧ w = w' := by
  have k1 : (0 : Int) < m := by omega
  go_enter Tryd.func19, Tryd.ntmps19
  go_wp2_with fail
  go_ret
  exact ⟨rfl, rfl⟩
theorem right_true (A0 A2 A3 A4 : Option Addr) (c0 c2 c3 c4 : Nat) (m : Int) (w : World) (h1 : 1 ≤ m) (h2 : m ≤ 64) : Calls Tryd.prog 10 #[.agg #[.slice A0 16 c0, .int .i64 m, .slice A2 32 c2, .slice A3 32 c3, .slice A4 32 c4]] w fun e w' => e = .returned (.bool true) ∧ Below w.heap.size w w' := by
  obtain ⟨W, hW⟩ : ∃ W, W = w.alloc (.cells #[.slice A0 16 c0, .int .i64 m, .slice A2 32 c2, .slice A3 32 c3, .slice A4 32 c4] 28) := ⟨_, rfl⟩
  have HB := Lib.hid (show Below w.heap.size w W from by rw [hW]; exact (Below.refl _ _).alloc (Nat.le_refl _) _)
  have hk : Blk W w.heap.size [.slice A0 16 c0, .int .i64 m, .slice A2 32 c2, .slice A3 32 c3, .slice A4 32 c4] := by rw [hW]; exact Blk.new w _ _
  have a2 := hk.at (o := 2) rfl
  have a3 := hk.at (o := 3) rfl
  have a4 := hk.at (o := 4) rfl
  clear hk
  go_enter Tryd.func10, Tryd.ntmps10
  go_wp2_with fail
  rw [← hW]
  clear hW
  refine (salted_true A0 c0 m W h1 h2).mono ?_
  rintro e w1 ⟨rfl, rfl⟩
  go_wp2_with fail
  go_ret
  exact ⟨rfl, HB.out⟩
theorem blen_p (bx : Nat) (s f : Value) (cs : List Value) (w : World) (h : Blk w bx (s :: f :: .slice none 0 0 :: cs)) : Calls Tryd.prog 11 #[.pointer (some ⟨bx, 0, none⟩)] w fun e w' => e = .returned (.int .i64 0) ∧ w = w' := by
  have k2 : w.cell? ⟨bx, 2, none⟩ = some (.slice none 0 0) := h.at (o := 2) rfl
  clear h
  go_enter Tryd.func11, Tryd.ntmps11
  go_wp2_with fail
  go_ret
  exact ⟨rfl, rfl⟩
theorem message_any (a b c : List UInt8) (w : World) (ha : a.length ≤ 1000) (hb : b.length ≤ 1000) (hc : c.length ≤ 1000) : Calls Tryd.prog 12 #[str a, str b, str c] w fun e w' => e = .returned (str (a ++ 44 :: (b ++ 44 :: c))) ∧ w = w' := by
  obtain ⟨a1, h1⟩ : ∃ x, x = a ++ [44] := ⟨_, rfl⟩
  obtain ⟨a2, h2⟩ : ∃ x, x = a1 ++ b := ⟨_, rfl⟩
  obtain ⟨a3, h3⟩ : ∃ x, x = a2 ++ [44] := ⟨_, rfl⟩
  obtain ⟨a4, h4⟩ : ∃ x, x = a3 ++ c := ⟨_, rfl⟩
  have HE := Lib.hid (show a ++ 44 :: (b ++ 44 :: c) = a4 from by rw [h4, h3, h2, h1]; simp)
  have l1 : a1.length ≤ 1001 := by rw [h1]; simp; omega
  have l2 : a2.length ≤ 2001 := by rw [h2]; simp; omega
  have l3 : a3.length ≤ 2002 := by rw [h3]; simp; omega
  have e1 : ByteArray.mk a.toArray ++ ByteArray.mk #[44] = ByteArray.mk a1.toArray := by rw [h1]; exact str_app a [44]
  have e2 : ByteArray.mk a1.toArray ++ ByteArray.mk b.toArray = ByteArray.mk a2.toArray := by rw [h2]; exact str_app a1 b
  have e3 : ByteArray.mk a2.toArray ++ ByteArray.mk #[44] = ByteArray.mk a3.toArray := by rw [h3]; exact str_app a2 [44]
  have e4 : ByteArray.mk a3.toArray ++ ByteArray.mk c.toArray = ByteArray.mk a4.toArray := by rw [h4]; exact str_app a3 c
  have g1 : (a.length : Int) + 1 ≤ 9223372036854775807 := by omega
  have g2 : (a1.length : Int) + (b.length : Int) ≤ 9223372036854775807 := by omega
  have g3 : (a2.length : Int) + 1 ≤ 9223372036854775807 := by omega
  have g4 : (a3.length : Int) + (c.length : Int) ≤ 9223372036854775807 := by omega
  clear h1 h2 h3 h4 l1 l2 l3
  go_enter Tryd.func12, Tryd.ntmps12
  go_wp2_with fail
  go_ret
  exact ⟨by rw [HE.out]; rfl, rfl⟩
theorem pequal_any (B : Nat) (v1 v2 : Value) (a b : List UInt8) (w : World) (h1 : Sl w B v1 a) (h2 : Sl w B v2 b) (hla : a.length ≤ 10000) (hB : B ≤ w.heap.size) :
    Calls Tryd.prog 13 #[v1, v2] w fun e w' => e = .returned (.bool (a == b)) ∧ Below w.heap.size w w' := by
  have HE := Lib.hid (equal_any B v1 v2 a b w h1 h2 hla hB)
  clear h1 h2
  go_enter Tryd.func13, Tryd.ntmps13
  go_wp2_with fail
  refine HE.out.mono ?_
  rintro e w1 ⟨rfl, hb⟩
  have HB := Lib.hid hb
  clear hb
  go_wp2_with fail
  go_ret
  exact ⟨rfl, HB.out⟩
set_option maxHeartbeats 8000000 in
theorem proofDummies_law (tn us : List UInt8) (n : Int) (on tw : List UInt8) (w : World) (ht : tn.length ≤ 9223372036854775807) (hu : us.length ≤ 9223372036854775807) (ho : on.length ≤ 9223372036854775807) (hw : tw.length ≤ 9223372036854775807) (hT : TabA w) (hU : TabB w) :
    Calls Tryd.prog 3 #[str tn, str us, .int .i64 n, str on, str tw] w fun e w' => e = .returned (.bool true) ∧ Below w.heap.size w w' := by
  have HT := Lib.hid hT
  have HU := Lib.hid hU
  have hG := tab_lt hT
  have hG2 : 1 < w.heap.size := World.block_lt_of_cell? w _ (hU 0 (by decide))
  have C1 := Lib.hid (fun W => cutText_any tn 40 W ht (by omega) (by omega))
  have C2 := Lib.hid (fun W => cutText_any us 40 W hu (by omega) (by omega))
  have C3 := Lib.hid (fun W => cutText_any on 60 W ho (by omega) (by omega))
  have C4 := Lib.hid (fun W => cutText_any tw 60 W hw (by omega) (by omega))
  obtain ⟨t, et⟩ : ∃ x, x = tn.take (40 : Int).toNat := ⟨_, rfl⟩
  obtain ⟨u, eu⟩ : ∃ x, x = us.take (40 : Int).toNat := ⟨_, rfl⟩
  obtain ⟨o, eo⟩ : ∃ x, x = on.take (60 : Int).toNat := ⟨_, rfl⟩
  obtain ⟨q, eq⟩ : ∃ x, x = tw.take (60 : Int).toNat := ⟨_, rfl⟩
  have lt : t.length ≤ 40 := by rw [et]; exact List.length_take_le _ _
  have lu : u.length ≤ 40 := by rw [eu]; exact List.length_take_le _ _
  have lo : o.length ≤ 60 := by rw [eo]; exact List.length_take_le _ _
  have lq : q.length ≤ 60 := by rw [eq]; exact List.length_take_le _ _
  rw [← et] at C1
  rw [← eu] at C2
  rw [← eo] at C3
  rw [← eq] at C4
  clear et eu eo eq ht hu ho hw hT hU
  go_enter Tryd.func3, Tryd.ntmps3
  go_wp2_with fail
  refine (awake19 w HT.out).mono ?_
  rintro e w1 ⟨rfl, hB1⟩
  have HB1 := Lib.hid hB1
  clear hB1
  go_wp2_with fail
  refine (C1.out w1).mono ?_
  rintro e w2 ⟨rfl, rfl⟩
  go_wp2_with fail
  refine (C2.out w1).mono ?_
  rintro e w2 ⟨rfl, rfl⟩
  go_wp2_with fail
  refine (C3.out w1).mono ?_
  rintro e w2 ⟨rfl, rfl⟩
  go_wp2_with fail
  refine (C4.out w1).mono ?_
  rintro e w2 ⟨rfl, rfl⟩
  clear C1 C2 C3 C4
  go_wp2_with fail
  refine (newBox_p true w1).mono ?_
  rintro e w3 ⟨bx, rfl, ⟨cs, hbx⟩, hbb, hb⟩
  have HBX := Lib.hid hbx
  have HB3 := Lib.hid (HB1.out.trans (hb.mono HB1.out.size))
  clear hbx hb hbb
  go_wp2_with fail
  refine (dummy_any bx t u n w3 (by omega) (by omega) (HT.out.below HB3.out hG)).mono ?_
  rintro e w4 ⟨r, rfl, hR, hb4⟩
  obtain ⟨v0, v2, v3, v4, rfl, hs0, hs2, hs3, hs4⟩ := hR.out
  obtain ⟨m, hm⟩ : ∃ m, m = dumI n := ⟨_, rfl⟩
  have hm1 : 1 ≤ m := by rw [hm]; unfold dumI; split <;> omega
  have hm2 : m ≤ 64 := by rw [hm]; unfold dumI; split <;> omega
  rw [← hm]
  have HM := Lib.hid hm
  obtain ⟨q0, e0⟩ : ∃ x, x = (sumL (dumS ++ dumE t u)).take 16 := ⟨_, rfl⟩
  obtain ⟨q2, e2⟩ : ∃ x, x = sumL (dumT ++ dumE t u) := ⟨_, rfl⟩
  obtain ⟨q3, e3⟩ : ∃ x, x = sumL (dumV ++ dumE t u) := ⟨_, rfl⟩
  obtain ⟨q4, e4⟩ : ∃ x, x = sumL (dumH ++ dumE t u) := ⟨_, rfl⟩
  have z0 : q0.length = 16 := by rw [e0, List.length_take, sumL_length]; omega
  have z2 : q2.length = 32 := by rw [e2, sumL_length]
  have z3 : q3.length = 32 := by rw [e3, sumL_length]
  have z4 : q4.length = 32 := by rw [e4, sumL_length]
  rw [← e0] at hs0
  rw [← e2] at hs2
  rw [← e3] at hs3
  rw [← e4] at hs4
  have HEQ := Lib.hid (And.intro e0 (And.intro e2 (And.intro e3 e4)))
  have HSEC := Lib.hid (show SecR w4 q0 m q2 q3 q4 v0 v2 v3 v4 from ⟨hs0, hs2, hs3, hs4⟩)
  have HB4 := Lib.hid (HB3.out.trans (hb4.mono HB3.out.size))
  have HBX4 := Lib.hid (HBX.out.below hb4 HBX.out.lt)
  obtain ⟨A0, c0, rfl, -⟩ := hs0
  obtain ⟨A2, c2, rfl, -⟩ := hs2
  obtain ⟨A3, c3, rfl, -⟩ := hs3
  obtain ⟨A4, c4, rfl, -⟩ := hs4
  rw [z0, z2, z3, z4] at HSEC ⊢
  clear hR hb4 hm e0 e2 e3 e4 z0 z2 z3 z4
  go_wp2_with fail
  refine wp_region_noPanic ?_
  refine wp_region_held (S := fun W' => W'.cell? ⟨w4.heap.size, 0, none⟩ = some (.slice A0 16 c0) ∧ W'.cell? ⟨w4.heap.size, 1, none⟩ = some (.int .i64 m) ∧ W'.cell? ⟨w4.heap.size, 2, none⟩ = some (.slice A2 32 c2) ∧ W'.cell? ⟨w4.heap.size, 3, none⟩ = some (.slice A3 32 c3) ∧ W'.cell? ⟨w4.heap.size, 4, none⟩ = some (.slice A4 32 c4)) (by kernel_rfl) ?_
  change wpAnyH _ _ _ _ _ _ _ _ (World.drew _)
  obtain ⟨X0, hX0⟩ : ∃ X, X = World.drew (w4.alloc (.cells #[.slice A0 16 c0, .int .i64 m, .slice A2 32 c2, .slice A3 32 c3, .slice A4 32 c4] 28)) := ⟨_, rfl⟩
  have HBa := Lib.hid (show Below w4.heap.size w4 X0 from by rw [hX0]; exact ((Below.refl _ _).alloc (Nat.le_refl _) _).drew)
  have HKK := Lib.hid (show Blk X0 w4.heap.size [.slice A0 16 c0, .int .i64 m, .slice A2 32 c2, .slice A3 32 c3, .slice A4 32 c4] from by rw [hX0]; exact (Blk.new w4 _ _).drew)
  have HB5 := Lib.hid (HB4.out.trans (HBa.out.mono HB4.out.size))
  have HBX5 := Lib.hid (HBX4.out.below HBa.out HBX4.out.lt)
  have HS5 := Lib.hid (HSEC.out.fwd HBa.out)
  rw [← hX0]
  clear hX0
  have HSX := Lib.hid (fun (W' : World) (hb : Below X0.heap.size X0 W') => (show W'.cell? ⟨w4.heap.size, 0, none⟩ = some (.slice A0 16 c0) ∧ W'.cell? ⟨w4.heap.size, 1, none⟩ = some (.int .i64 m) ∧ W'.cell? ⟨w4.heap.size, 2, none⟩ = some (.slice A2 32 c2) ∧ W'.cell? ⟨w4.heap.size, 3, none⟩ = some (.slice A3 32 c3) ∧ W'.cell? ⟨w4.heap.size, 4, none⟩ = some (.slice A4 32 c4) from ⟨(HKK.out.below hb HKK.out.lt).at (o := 0) rfl, (HKK.out.below hb HKK.out.lt).at (o := 1) rfl, (HKK.out.below hb HKK.out.lt).at (o := 2) rfl, (HKK.out.below hb HKK.out.lt).at (o := 3) rfl, (HKK.out.below hb HKK.out.lt).at (o := 4) rfl⟩))
  have HX := Lib.hid (HSX.out X0 (Below.refl _ _))
  obtain ⟨bb, hbb⟩ : ∃ b, b = (o == q) := ⟨_, rfl⟩
  have HBB := Lib.hid hbb
  clear hbb
  refine takeH 0 29 (.agg #[.slice A0 16 c0, .int .i64 m, .slice A2 32 c2, .slice A3 32 c3, .slice A4 32 c4]) rfl rfl (by kernel_rfl) (by kernel_rfl) (by kernel_rfl) (fun _ _ _ h => h) rfl (fun w' h => by obtain ⟨h0, h1, h2, h3, h4⟩ := h; first | (go_simp; done) | (go_simp; omega)) HX.out ?_
  go_frame
  refine takeH 1 30 (str t) rfl rfl (by kernel_rfl) (by kernel_rfl) (by kernel_rfl) (fun _ _ _ h => h) rfl (fun w' h => by obtain ⟨h0, h1, h2, h3, h4⟩ := h; first | (go_simp; done) | (go_simp; omega)) HX.out ?_
  go_frame
  refine takeH 2 31 (str u) rfl rfl (by kernel_rfl) (by kernel_rfl) (by kernel_rfl) (fun _ _ _ h => h) rfl (fun w' h => by obtain ⟨h0, h1, h2, h3, h4⟩ := h; first | (go_simp; done) | (go_simp; omega)) HX.out ?_
  go_frame
  refine takeH 3 32 (.int .i64 n) rfl rfl (by kernel_rfl) (by kernel_rfl) (by kernel_rfl) (fun _ _ _ h => h) rfl (fun w' h => by obtain ⟨h0, h1, h2, h3, h4⟩ := h; first | (go_simp; done) | (go_simp; omega)) HX.out ?_
  go_frame
  refine wpAnyH_all (rs := [4]) (by kernel_rfl) (by simp) ?_
  simp only [List.mem_singleton, forall_eq]
  refine wpOp_callD 33 rfl rfl rfl 9 #[str t, str u, .int .i64 n] (by go_simp) ?_
  refine (refDummy_any t u n X0 (by omega) (by omega) (HU.out.below HB5.out hG2) (Nat.lt_of_lt_of_le hG2 HB5.out.size)).mono ?_
  rintro e X1 ⟨r, rfl, hR, hb1⟩
  obtain ⟨u0, u2, u3, u4, rfl, ks0, ks2, ks3, ks4⟩ := hR.out
  rw [← HM.out] at *
  rw [← HEQ.out.1] at ks0
  rw [← HEQ.out.2.1] at ks2
  rw [← HEQ.out.2.2.1] at ks3
  rw [← HEQ.out.2.2.2] at ks4
  have HSE2 := Lib.hid (show SecR X1 q0 m q2 q3 q4 u0 u2 u3 u4 from ⟨ks0, ks2, ks3, ks4⟩)
  obtain ⟨B0, b0, rfl, -⟩ := ks0
  obtain ⟨B2, b2, rfl, -⟩ := ks2
  obtain ⟨B3, b3, rfl, -⟩ := ks3
  obtain ⟨B4, b4, rfl, -⟩ := ks4
  have HB6 := Lib.hid hb1
  refine ⟨_, rfl, HSX.out X1 hb1, ?_⟩
  go_frame
  clear hR hb1 HX
  have HX := Lib.hid (HSX.out X1 HB6.out)
  refine wpAnyH_all (rs := [5]) (by kernel_rfl) (by simp) ?_
  simp only [List.mem_singleton, forall_eq]
  refine wpOp_callD 34 rfl rfl rfl 8 #[.agg #[.slice A0 16 c0, .int .i64 m, .slice A2 32 c2, .slice A3 32 c3, .slice A4 32 c4], .agg #[.slice B0 q0.length b0, .int .i64 m, .slice B2 q2.length b2, .slice B3 q3.length b3, .slice B4 q4.length b4]] (by go_simp) ?_
  refine (sameSecret_true X1 q0 q2 q3 q4 m _ _ _ _ _ _ _ _ (HS5.out.fwd HB6.out) HSE2.out).mono ?_
  rintro e X2 ⟨rfl, hb2⟩
  have HB7 := Lib.hid (HB6.out.trans (hb2.mono HB6.out.size))
  refine ⟨_, rfl, HSX.out X2 HB7.out, ?_⟩
  go_frame
  clear hb2 HX
  have HX := Lib.hid (HSX.out X2 HB7.out)
  refine takeH 6 35 (.bool true) rfl rfl (by kernel_rfl) (by kernel_rfl) (by kernel_rfl) (fun _ _ _ h => h) rfl (fun w' h => by obtain ⟨h0, h1, h2, h3, h4⟩ := h; first | (go_simp; done) | (go_simp; omega)) HX.out ?_
  go_frame
  refine takeH 7 36 (.agg #[.slice A0 16 c0, .int .i64 m, .slice A2 32 c2, .slice A3 32 c3, .slice A4 32 c4]) rfl rfl (by kernel_rfl) (by kernel_rfl) (by kernel_rfl) (fun _ _ _ h => h) rfl (fun w' h => by obtain ⟨h0, h1, h2, h3, h4⟩ := h; first | (go_simp; done) | (go_simp; omega)) HX.out ?_
  go_frame
  refine wpAnyH_all (rs := [8]) (by kernel_rfl) (by simp) ?_
  simp only [List.mem_singleton, forall_eq]
  refine wpOp_callD 37 rfl rfl rfl 10 #[.agg #[.slice A0 16 c0, .int .i64 m, .slice A2 32 c2, .slice A3 32 c3, .slice A4 32 c4]] (by go_simp) ?_
  refine (right_true _ _ _ _ _ _ _ _ m X2 hm1 hm2).mono ?_
  rintro e X3 ⟨rfl, hb3⟩
  have HB8 := Lib.hid (HB7.out.trans (hb3.mono HB7.out.size))
  refine ⟨_, rfl, HSX.out X3 HB8.out, ?_⟩
  go_frame
  clear hb3 HX
  have HX := Lib.hid (HSX.out X3 HB8.out)
  refine takeH 9 38 (.bool true) rfl rfl (by kernel_rfl) (by kernel_rfl) (by kernel_rfl) (fun _ _ _ h => h) rfl (fun w' h => by obtain ⟨h0, h1, h2, h3, h4⟩ := h; first | (go_simp; done) | (go_simp; omega)) HX.out ?_
  go_frame
  refine takeH 10 39 (.bool true) rfl rfl (by kernel_rfl) (by kernel_rfl) (by kernel_rfl) (fun _ _ _ h => h) rfl (fun w' h => by obtain ⟨h0, h1, h2, h3, h4⟩ := h; first | (go_simp; done) | (go_simp; omega)) HX.out ?_
  go_frame
  refine takeH 11 40 (.pointer (some ⟨bx, 0, none⟩)) rfl rfl (by kernel_rfl) (by kernel_rfl) (by kernel_rfl) (fun _ _ _ h => h) rfl (fun w' h => by obtain ⟨h0, h1, h2, h3, h4⟩ := h; first | (go_simp; done) | (go_simp; omega)) HX.out ?_
  go_frame
  refine wpAnyH_all (rs := [12]) (by kernel_rfl) (by simp) ?_
  simp only [List.mem_singleton, forall_eq]
  refine wpOp_callD 41 rfl rfl rfl 11 #[.pointer (some ⟨bx, 0, none⟩)] (by go_simp) ?_
  refine (blen_p bx _ _ _ X3 (HBX5.out.below HB8.out HBX5.out.lt)).mono ?_
  rintro e X4 ⟨rfl, rfl⟩
  refine ⟨_, rfl, HX.out, ?_⟩
  go_frame
  refine takeH 13 42 (.bool true) rfl rfl (by kernel_rfl) (by kernel_rfl) (by kernel_rfl) (fun _ _ _ h => h) rfl (fun w' h => by obtain ⟨h0, h1, h2, h3, h4⟩ := h; first | (go_simp; done) | (go_simp; omega)) HX.out ?_
  go_frame
  refine takeH 14 43 (.bool true) rfl rfl (by kernel_rfl) (by kernel_rfl) (by kernel_rfl) (fun _ _ _ h => h) rfl (fun w' h => by obtain ⟨h0, h1, h2, h3, h4⟩ := h; first | (go_simp; done) | (go_simp; omega)) HX.out ?_
  go_frame
  refine takeH 15 44 (.bool true) rfl rfl (by kernel_rfl) (by kernel_rfl) (by kernel_rfl) (fun _ _ _ h => h) rfl (fun w' h => by obtain ⟨h0, h1, h2, h3, h4⟩ := h; first | (go_simp; done) | (go_simp; omega)) HX.out ?_
  go_frame
  refine takeH 16 45 (str o) rfl rfl (by kernel_rfl) (by kernel_rfl) (by kernel_rfl) (fun _ _ _ h => h) rfl (fun w' h => by obtain ⟨h0, h1, h2, h3, h4⟩ := h; first | (go_simp; done) | (go_simp; omega)) HX.out ?_
  go_frame
  refine takeH 17 46 (str q) rfl rfl (by kernel_rfl) (by kernel_rfl) (by kernel_rfl) (fun _ _ _ h => h) rfl (fun w' h => by obtain ⟨h0, h1, h2, h3, h4⟩ := h; first | (go_simp; done) | (go_simp; omega)) HX.out ?_
  go_frame
  refine takeH 18 47 (str t) rfl rfl (by kernel_rfl) (by kernel_rfl) (by kernel_rfl) (fun _ _ _ h => h) rfl (fun w' h => by obtain ⟨h0, h1, h2, h3, h4⟩ := h; first | (go_simp; done) | (go_simp; omega)) HX.out ?_
  go_frame
  refine takeH 20 49 (str o) rfl rfl (by kernel_rfl) (by kernel_rfl) (by kernel_rfl) (fun _ _ _ h => h) rfl (fun w' h => by obtain ⟨h0, h1, h2, h3, h4⟩ := h; first | (go_simp; done) | (go_simp; omega)) HX.out ?_
  go_frame
  obtain ⟨s1, y1⟩ : ∃ a, a = o ++ [44] := ⟨_, rfl⟩
  have d1 : ByteArray.mk o.toArray ++ ByteArray.mk #[44] = ByteArray.mk s1.toArray := by rw [y1]; exact str_app o [44]
  have m1 : s1.length ≤ 61 := by rw [y1]; simp; omega
  have n1 : (o.length : Int) + 1 ≤ 9223372036854775807 := by omega
  have Y1 := Lib.hid y1
  clear y1
  refine takeH 21 50 (str s1) rfl rfl (by kernel_rfl) (by kernel_rfl) (by kernel_rfl) (fun _ _ _ h => h) rfl (fun w' h => by obtain ⟨h0, h1, h2, h3, h4⟩ := h; first | (go_simp; done) | (go_simp; omega)) HX.out ?_
  go_frame
  refine takeH 22 51 (str q) rfl rfl (by kernel_rfl) (by kernel_rfl) (by kernel_rfl) (fun _ _ _ h => h) rfl (fun w' h => by obtain ⟨h0, h1, h2, h3, h4⟩ := h; first | (go_simp; done) | (go_simp; omega)) HX.out ?_
  go_frame
  obtain ⟨s2, y2⟩ : ∃ a, a = s1 ++ q := ⟨_, rfl⟩
  have d2 : ByteArray.mk s1.toArray ++ ByteArray.mk q.toArray = ByteArray.mk s2.toArray := by rw [y2]; exact str_app s1 q
  have m2 : s2.length ≤ 121 := by rw [y2]; simp; omega
  have n2 : (s1.length : Int) + (q.length : Int) ≤ 9223372036854775807 := by omega
  have Y2 := Lib.hid y2
  clear y2
  refine takeH 23 52 (str s2) rfl rfl (by kernel_rfl) (by kernel_rfl) (by kernel_rfl) (fun _ _ _ h => h) rfl (fun w' h => by obtain ⟨h0, h1, h2, h3, h4⟩ := h; first | (go_simp; done) | (go_simp; omega)) HX.out ?_
  go_frame
  obtain ⟨s3, y3⟩ : ∃ a, a = s2 ++ [44] := ⟨_, rfl⟩
  have d3 : ByteArray.mk s2.toArray ++ ByteArray.mk #[44] = ByteArray.mk s3.toArray := by rw [y3]; exact str_app s2 [44]
  have m3 : s3.length ≤ 122 := by rw [y3]; simp; omega
  have n3 : (s2.length : Int) + 1 ≤ 9223372036854775807 := by omega
  have Y3 := Lib.hid y3
  clear y3
  refine takeH 24 53 (str s3) rfl rfl (by kernel_rfl) (by kernel_rfl) (by kernel_rfl) (fun _ _ _ h => h) rfl (fun w' h => by obtain ⟨h0, h1, h2, h3, h4⟩ := h; first | (go_simp; done) | (go_simp; omega)) HX.out ?_
  go_frame
  refine takeH 25 54 (str t) rfl rfl (by kernel_rfl) (by kernel_rfl) (by kernel_rfl) (fun _ _ _ h => h) rfl (fun w' h => by obtain ⟨h0, h1, h2, h3, h4⟩ := h; first | (go_simp; done) | (go_simp; omega)) HX.out ?_
  go_frame
  obtain ⟨s4, y4⟩ : ∃ a, a = s3 ++ t := ⟨_, rfl⟩
  have d4 : ByteArray.mk s3.toArray ++ ByteArray.mk t.toArray = ByteArray.mk s4.toArray := by rw [y4]; exact str_app s3 t
  have m4 : s4.length ≤ 162 := by rw [y4]; simp; omega
  have n4 : (s3.length : Int) + (t.length : Int) ≤ 9223372036854775807 := by omega
  have Y4 := Lib.hid y4
  clear y4
  refine takeH 26 55 (str s4) rfl rfl (by kernel_rfl) (by kernel_rfl) (by kernel_rfl) (fun _ _ _ h => h) rfl (fun w' h => by obtain ⟨h0, h1, h2, h3, h4⟩ := h; first | (go_simp; done) | (go_simp; omega)) HX.out ?_
  go_frame
  have HS4 := Lib.hid (show o ++ 44 :: (q ++ 44 :: t) = s4 from by rw [Y4.out, Y3.out, Y2.out, Y1.out]; simp)
  clear d1 d2 d3 d4 n1 n2 n3 n4 m1 m2 m3 m4
  refine wpAnyH_all (rs := [19]) (by kernel_rfl) (by simp) ?_
  simp only [List.mem_singleton, forall_eq]
  refine wpOp_callD 48 rfl rfl rfl 12 #[str o, str q, str t] (by go_simp) ?_
  refine (message_any o q t X3 (by omega) (by omega) (by omega)).mono ?_
  rintro e X4 ⟨rfl, rfl⟩
  rw [HS4.out]
  refine ⟨_, rfl, HX.out, ?_⟩
  go_frame
  refine takeH 27 56 (.bool true) rfl rfl (by kernel_rfl) (by kernel_rfl) (by kernel_rfl) (fun _ _ _ h => h) rfl (fun w' h => by obtain ⟨h0, h1, h2, h3, h4⟩ := h; first | (go_simp; done) | (go_simp; omega)) HX.out ?_
  go_frame
  refine takeH 28 57 (.bool true) rfl rfl (by kernel_rfl) (by kernel_rfl) (by kernel_rfl) (fun _ _ _ h => h) rfl (fun w' h => by obtain ⟨h0, h1, h2, h3, h4⟩ := h; first | (go_simp; done) | (go_simp; omega)) HX.out ?_
  go_frame
  refine takeH 29 58 (.bool true) rfl rfl (by kernel_rfl) (by kernel_rfl) (by kernel_rfl) (fun _ _ _ h => h) rfl (fun w' h => by obtain ⟨h0, h1, h2, h3, h4⟩ := h; first | (go_simp; done) | (go_simp; omega)) HX.out ?_
  go_frame
  refine takeH 30 59 (str o) rfl rfl (by kernel_rfl) (by kernel_rfl) (by kernel_rfl) (fun _ _ _ h => h) rfl (fun w' h => by obtain ⟨h0, h1, h2, h3, h4⟩ := h; first | (go_simp; done) | (go_simp; omega)) HX.out ?_
  go_frame
  refine takeH 32 61 (str q) rfl rfl (by kernel_rfl) (by kernel_rfl) (by kernel_rfl) (fun _ _ _ h => h) rfl (fun w' h => by obtain ⟨h0, h1, h2, h3, h4⟩ := h; first | (go_simp; done) | (go_simp; omega)) HX.out ?_
  go_frame
  refine takeH 35 64 (str o) rfl rfl (by kernel_rfl) (by kernel_rfl) (by kernel_rfl) (fun _ _ _ h => h) rfl (fun w' h => by obtain ⟨h0, h1, h2, h3, h4⟩ := h; first | (go_simp; done) | (go_simp; omega)) HX.out ?_
  go_frame
  refine takeH 36 65 (str q) rfl rfl (by kernel_rfl) (by kernel_rfl) (by kernel_rfl) (fun _ _ _ h => h) rfl (fun w' h => by obtain ⟨h0, h1, h2, h3, h4⟩ := h; first | (go_simp; done) | (go_simp; omega)) HX.out ?_
  go_frame
  have hqq : (o == q) = bb := HBB.out.symm
  refine takeH 37 66 (.bool bb) rfl rfl (by kernel_rfl) (by kernel_rfl) (by kernel_rfl) (fun _ _ _ h => h) rfl (fun w' h => by obtain ⟨h0, h1, h2, h3, h4⟩ := h; first | (go_simp; done) | (go_simp; omega)) HX.out ?_
  go_frame
  clear hqq
  refine wpAnyH_all (rs := [31, 33]) (by kernel_rfl) (by simp) ?_
  simp only [List.mem_cons, List.not_mem_nil, or_false, forall_eq_or_imp, forall_eq]
  refine ⟨?_, ?_⟩
  · obtain ⟨vc, X5, hcv, hbc, hsl⟩ := conv_tx o X3 (by omega)
    obtain ⟨AO, aAO, rfl, -⟩ := id hsl
    have HB9 := Lib.hid (HB8.out.trans (hbc.mono HB8.out.size))
    have HSLAO := Lib.hid hsl
    have HBCAO := Lib.hid hbc
    refine wpOp_valueX 60 rfl rfl rfl (.slice AO o.length aAO) X5 (by go_simp) ⟨HSX.out X5 HB9.out, ?_⟩
    go_frame
    clear hcv hbc hsl
    refine wpAnyH_all (rs := [33]) (by kernel_rfl) (by simp) ?_
    simp only [List.mem_singleton, forall_eq]
    obtain ⟨vc, X6, hcv, hbc, hsl⟩ := conv_tx q X5 (by omega)
    obtain ⟨AQ, aAQ, rfl, -⟩ := id hsl
    have HB10 := Lib.hid (HB9.out.trans (hbc.mono HB9.out.size))
    have HSLAQ := Lib.hid hsl
    have HBCAQ := Lib.hid hbc
    refine wpOp_valueX 62 rfl rfl rfl (.slice AQ q.length aAQ) X6 (by go_simp) ⟨HSX.out X6 HB10.out, ?_⟩
    go_frame
    clear hcv hbc hsl
    refine wpAnyH_all (rs := [34]) (by kernel_rfl) (by simp) ?_
    simp only [List.mem_singleton, forall_eq]
    refine wpOp_callD 63 rfl rfl rfl 13 #[.slice AO o.length aAO, .slice AQ q.length aAQ] (by go_simp) ?_
    refine (pequal_any X6.heap.size _ _ o q X6 (HSLAO.out.fwd HBCAQ.out) HSLAQ.out (by omega) (Nat.le_refl _)).mono ?_
    rintro e X7 ⟨rfl, hb7⟩
    rw [← HBB.out]
    have HB11 := Lib.hid (HB10.out.trans (hb7.mono HB10.out.size))
    clear HX
    have HX := Lib.hid (HSX.out X7 HB11.out)
    refine ⟨_, rfl, HX.out, ?_⟩
    go_frame
    clear hb7
    refine takeH 38 67 (.bool true) rfl rfl (by kernel_rfl) (by kernel_rfl) (by kernel_rfl) (fun _ _ _ h => h) rfl (fun w' h => by obtain ⟨h0, h1, h2, h3, h4⟩ := h; first | (go_simp; done) | (go_simp; omega)) HX.out ?_
    go_frame
    refine takeH 39 68 (.bool true) rfl rfl (by kernel_rfl) (by kernel_rfl) (by kernel_rfl) (fun _ _ _ h => h) rfl (fun w' h => by obtain ⟨h0, h1, h2, h3, h4⟩ := h; first | (go_simp; done) | (go_simp; omega)) HX.out ?_
    go_frame
    refine takeH 40 10 (.bool true) rfl rfl (by kernel_rfl) (by kernel_rfl) (by kernel_rfl) (fun _ _ _ h => h) rfl (fun w' h => by obtain ⟨h0, h1, h2, h3, h4⟩ := h; first | (go_simp; done) | (go_simp; omega)) HX.out ?_
    go_frame
    refine wpAnyH_done (by kernel_rfl) ?_ _
    refine NoPanic.normal ?_
    have HBZ := Lib.hid (HB5.out.trans (HB11.out.mono HB5.out.size))
    go_wp2_with fail
    go_ret
    exact ⟨rfl, HBZ.out⟩
  · obtain ⟨vc, X5, hcv, hbc, hsl⟩ := conv_tx q X3 (by omega)
    obtain ⟨AQ, aAQ, rfl, -⟩ := id hsl
    have HB9 := Lib.hid (HB8.out.trans (hbc.mono HB8.out.size))
    have HSLAQ := Lib.hid hsl
    have HBCAQ := Lib.hid hbc
    refine wpOp_valueX 62 rfl rfl rfl (.slice AQ q.length aAQ) X5 (by go_simp) ⟨HSX.out X5 HB9.out, ?_⟩
    go_frame
    clear hcv hbc hsl
    refine wpAnyH_all (rs := [31]) (by kernel_rfl) (by simp) ?_
    simp only [List.mem_singleton, forall_eq]
    obtain ⟨vc, X6, hcv, hbc, hsl⟩ := conv_tx o X5 (by omega)
    obtain ⟨AO, aAO, rfl, -⟩ := id hsl
    have HB10 := Lib.hid (HB9.out.trans (hbc.mono HB9.out.size))
    have HSLAO := Lib.hid hsl
    have HBCAO := Lib.hid hbc
    refine wpOp_valueX 60 rfl rfl rfl (.slice AO o.length aAO) X6 (by go_simp) ⟨HSX.out X6 HB10.out, ?_⟩
    go_frame
    clear hcv hbc hsl
    refine wpAnyH_all (rs := [34]) (by kernel_rfl) (by simp) ?_
    simp only [List.mem_singleton, forall_eq]
    refine wpOp_callD 63 rfl rfl rfl 13 #[.slice AO o.length aAO, .slice AQ q.length aAQ] (by go_simp) ?_
    refine (pequal_any X6.heap.size _ _ o q X6 HSLAO.out (HSLAQ.out.fwd HBCAO.out) (by omega) (Nat.le_refl _)).mono ?_
    rintro e X7 ⟨rfl, hb7⟩
    rw [← HBB.out]
    have HB11 := Lib.hid (HB10.out.trans (hb7.mono HB10.out.size))
    clear HX
    have HX := Lib.hid (HSX.out X7 HB11.out)
    refine ⟨_, rfl, HX.out, ?_⟩
    go_frame
    clear hb7
    refine takeH 38 67 (.bool true) rfl rfl (by kernel_rfl) (by kernel_rfl) (by kernel_rfl) (fun _ _ _ h => h) rfl (fun w' h => by obtain ⟨h0, h1, h2, h3, h4⟩ := h; first | (go_simp; done) | (go_simp; omega)) HX.out ?_
    go_frame
    refine takeH 39 68 (.bool true) rfl rfl (by kernel_rfl) (by kernel_rfl) (by kernel_rfl) (fun _ _ _ h => h) rfl (fun w' h => by obtain ⟨h0, h1, h2, h3, h4⟩ := h; first | (go_simp; done) | (go_simp; omega)) HX.out ?_
    go_frame
    refine takeH 40 10 (.bool true) rfl rfl (by kernel_rfl) (by kernel_rfl) (by kernel_rfl) (fun _ _ _ h => h) rfl (fun w' h => by obtain ⟨h0, h1, h2, h3, h4⟩ := h; first | (go_simp; done) | (go_simp; omega)) HX.out ?_
    go_frame
    refine wpAnyH_done (by kernel_rfl) ?_ _
    refine NoPanic.normal ?_
    have HBZ := Lib.hid (HB5.out.trans (HB11.out.mono HB5.out.size))
    go_wp2_with fail
    go_ret
    exact ⟨rfl, HBZ.out⟩
end Go.Proofs.YteadncmhcbdicaaDoor
namespace Go.Proofs.YteadncmhcbdicaaDoor
open Go.RowKit
theorem proofDummies_w (l0 l1 : List UInt8) (n : Int) (l3 l4 : List UInt8) (w : World) (h0 : l0.length ≤ 9223372036854775807) (h1 : l1.length ≤ 9223372036854775807) {P : Prop} (_ : P) (h3 : l3.length ≤ 9223372036854775807) (h4 : l4.length ≤ 9223372036854775807) (hT : TabA w) (hU : TabB w) :
    Calls Tryd.prog 3 #[str l0, str l1, .int .i64 n, str l3, str l4] w fun e w' => e = .returned (.bool true) ∧ Below w.heap.size w w' := proofDummies_law l0 l1 n l3 l4 w h0 h1 h3 h4 hT hU
end Go.Proofs.YteadncmhcbdicaaDoor
