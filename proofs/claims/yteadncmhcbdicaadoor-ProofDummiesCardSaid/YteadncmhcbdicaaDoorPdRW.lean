/- proof.Response over a plain box. (By mkpd19.py.) proof: the law's awake. (By mkpdw.py.) -/
import Derived.Test.YteadncmhcbdicaaDoorPdB
import Derived.Test.YteadncmhcbdicaaDoorHexN
import Derived.Test.YteadncmhcbdicaaDoorHashS
import Derived.Test.YteadncmhcbdicaaDoorSlH
import Derived.Test.YteadncmhcbdicaaDoorReg
import Derived.Deep.RegionHeld3
import Derived.Deep.QuietTactic
import Derived.BigQuiet
import Derived.StillTailTactics
import Derived.Test.YteadncmhcbdicaaDoorSame
set_option maxRecDepth 100000
namespace Go.Proofs.YteadncmhcbdicaaDoor
open Go.RowKit
attribute [local go_sem] Oper.semAt_some
theorem encH_len2 (l : List UInt8) : (encH l).length = 2 * l.length := by unfold encH; rw [letters_length]; unfold many; omega
/-- What Response hashes. -/
def respT (h1 no ct cn h2 : List UInt8) : List UInt8 := encH h1 ++ (58 :: no ++ (58 :: ct ++ (58 :: cn ++ (58 :: [97, 117, 116, 104] ++ (58 :: encH h2)))))
set_option maxHeartbeats 4000000 in
theorem response_any (bx : Nat) (cs : List Value) (hv : Value) (h1 me u0 u1 no ur cn : List UInt8) (f5 f7 : Value) (n : Int) (ct : List UInt8) (w : World) (hb : Blk w bx (.bool false :: cs)) (hh : Sl w w.heap.size hv h1) (hl1 : h1.length ≤ 1000)
    (hme : me.length ≤ 10000) (hno : no.length ≤ 10000) (hur : ur.length ≤ 10000) (hcn : cn.length ≤ 10000) (hct : ct.length ≤ 100) (hT : TabA w) (HC : Hid (∀ W, Calls Tryd.prog 22 #[.int .u32 n] W fun e w' => e = .returned (str ct) ∧ Below W.heap.size W w')) :
    Calls Tryd.prog 14 #[.pointer (some ⟨bx, 0, none⟩), hv, str me, .agg #[str u0, str u1, str no, str ur, str cn, f5, .int .u32 n, f7]] w fun e w' => ∃ v', e = .returned v' ∧ OwnB w' w.heap.size v' (sumL (respT h1 no ct cn (sumL (me ++ 58 :: ur)))) ∧ Below w.heap.size w w' := by
  obtain ⟨W0, hW0⟩ : ∃ W, W = w.alloc (.cells #[str u0, str u1, str no, str ur, str cn, f5, .int .u32 n, f7] 40) := ⟨_, rfl⟩
  have hb0 : Below w.heap.size w W0 := by rw [hW0]; exact (Below.refl _ _).alloc (Nat.le_refl _) _
  have hz0 : W0.heap.size = w.heap.size + 1 := by rw [hW0]; simp
  have HK := Lib.hid (show Blk W0 w.heap.size [str u0, str u1, str no, str ur, str cn, f5, .int .u32 n, f7] from by rw [hW0]; exact Blk.new w _ _)
  have HB0 := Lib.hid hb0
  have hG := tab_lt hT
  have HT := Lib.hid hT
  have HBX := Lib.hid hb
  have HH := Lib.hid hh
  obtain ⟨A1, c1, rfl, -⟩ := hh
  obtain ⟨b1, eb1⟩ : ∃ a, a = me ++ [58] := ⟨_, rfl⟩
  obtain ⟨b2, eb2⟩ : ∃ a, a = b1 ++ ur := ⟨_, rfl⟩
  have HE := Lib.hid (show me ++ 58 :: ur = b2 from by rw [eb2, eb1]; simp)
  have l1 : b1.length ≤ 10001 := by rw [eb1]; simp; omega
  have HL := Lib.hid (show b2.length ≤ 20001 from by rw [eb2]; simp; omega)
  have e1 : ByteArray.mk me.toArray ++ ByteArray.mk #[58] = ByteArray.mk b1.toArray := by rw [eb1]; exact str_app me [58]
  have e2 : ByteArray.mk b1.toArray ++ ByteArray.mk ur.toArray = ByteArray.mk b2.toArray := by rw [eb2]; exact str_app b1 ur
  have g1 : (me.length : Int) + 1 ≤ 9223372036854775807 := by omega
  have g2 : (b1.length : Int) + (ur.length : Int) ≤ 9223372036854775807 := by omega
  clear eb1 eb2 l1 hb0 hb hT
  obtain ⟨vc, Wc, hcv, hbc, hsl⟩ := conv_tx b2 W0 (by have := HL.out; omega)
  obtain ⟨Ac, cc, rfl, -⟩ := id hsl
  obtain ⟨X2, hX2⟩ : ∃ X, X = Wc.alloc (.cells #[.slice Ac b2.length cc] 26) := ⟨_, rfl⟩
  have hb2 : Below Wc.heap.size Wc X2 := by rw [hX2]; exact (Below.refl _ _).alloc (Nat.le_refl _) _
  have HB2 := Lib.hid (hbc.trans (hb2.mono hbc.size))
  have HS2 := Lib.hid (show Sls X2 X2.heap.size (.slice (some ⟨Wc.heap.size, 0, none⟩) 1 1) [b2] from by rw [hX2, World.size_alloc]; exact Sls.one Wc b2 _ _ hsl)
  have HW2 := Lib.hid (show Below w.heap.size w X2 from HB0.out.trans (HB2.out.mono HB0.out.size))
  have HH2 := Lib.hid (hash_plain bx cs (.slice (some ⟨Wc.heap.size, 0, none⟩) 1 1) [b2] X2 (HBX.out.below HW2.out HBX.out.lt) HS2.out (fun l hl => by rw [List.mem_singleton] at hl; rw [hl]; have := HL.out; omega) (HT.out.below HW2.out hG))
  have k3 := HK.out.at (o := 3) rfl
  clear hsl hbc hb2
  rw [hW0] at hcv
  go_enter Tryd.func14, Tryd.ntmps14
  go_wp2_with fail
  rw [← hX2]
  clear hW0 hX2 hcv k3 e1 e2 g1 g2
  refine HH2.out.mono ?_
  rintro e w3 ⟨v3, rfl, hO3, hB3⟩
  rw [List.flatten_cons, List.flatten_nil, List.append_nil] at hO3
  obtain ⟨h2, hh2⟩ : ∃ h, h = sumL b2 := ⟨_, rfl⟩
  have HL2 := Lib.hid (show h2.length = 32 from by rw [hh2, sumL_length])
  rw [← hh2] at hO3
  have HE2 := Lib.hid (show sumL (me ++ 58 :: ur) = h2 from by rw [HE.out, hh2])
  have HO3 := Lib.hid hO3.sl
  have HB3 := Lib.hid (HW2.out.trans (hB3.mono HW2.out.size))
  have HK3 := Lib.hid ((HK.out.below HB2.out HK.out.lt).below hB3 (Nat.lt_of_lt_of_le HK.out.lt HB2.out.size))
  obtain ⟨A3, c3, rfl, -⟩ := hO3.sl
  clear hO3 hB3 hh2 HH2
  have k6 := HK3.out.at (o := 6) rfl
  go_wp2_with fail
  refine (HC.out w3).mono ?_
  rintro e w4 ⟨rfl, hB4⟩
  have HK4 := Lib.hid (HK3.out.below hB4 HK3.out.lt)
  have HO4 := Lib.hid (HO3.out.fwd hB4)
  have HB4 := Lib.hid (HB3.out.trans (hB4.mono HB3.out.size))
  clear hB4 k6 HK3 HO3
  go_wp2_with fail
  refine wp_region_noPanic ?_
  refine wp_region_held (S := fun W' => W'.cell? ⟨w.heap.size, 2, none⟩ = some (str no) ∧ W'.cell? ⟨w.heap.size, 4, none⟩ = some (str cn)) (by kernel_rfl) ?_
  change wpAnyH _ _ _ _ _ _ _ _ (World.drew _)
  obtain ⟨X0, hX0⟩ : ∃ X, X = World.drew w4 := ⟨_, rfl⟩
  have HK5 := Lib.hid (show Blk X0 w.heap.size [str u0, str u1, str no, str ur, str cn, f5, .int .u32 n, f7] from by rw [hX0]; exact HK4.out.drew)
  have HB5 := Lib.hid (show Below w.heap.size w X0 from by rw [hX0]; exact HB4.out.drew)
  have HO5 := Lib.hid (show Sl X0 X0.heap.size (.slice A3 h2.length c3) h2 from by rw [hX0]; exact HO4.out.fwd (Below.refl _ _).drew)
  have HH5 := Lib.hid (HH.out.fwd HB5.out)
  rw [← hX0]
  clear hX0
  have HSX := Lib.hid (fun (W' : World) (hb : Below X0.heap.size X0 W') => (show W'.cell? ⟨w.heap.size, 2, none⟩ = some (str no) ∧ W'.cell? ⟨w.heap.size, 4, none⟩ = some (str cn) from ⟨(HK5.out.below hb HK5.out.lt).at (o := 2) rfl, (HK5.out.below hb HK5.out.lt).at (o := 4) rfl⟩))
  have HX := Lib.hid (HSX.out X0 (Below.refl _ _))
  refine takeH 0 24 (.slice A1 h1.length c1) rfl rfl (by kernel_rfl) (by kernel_rfl) (by kernel_rfl) (fun _ _ _ h => h) rfl (fun w' h => by obtain ⟨h0, h1⟩ := h; first | (go_simp; done) | (go_simp; omega)) HX.out ?_
  go_frame
  refine takeH 3 27 (.pointer (some ⟨w.heap.size, 2, none⟩)) rfl rfl (by kernel_rfl) (by kernel_rfl) (by kernel_rfl) (fun _ _ _ h => h) rfl (fun w' h => by obtain ⟨h0, h1⟩ := h; first | (go_simp; done) | (go_simp; omega)) HX.out ?_
  go_frame
  refine takeH 4 28 (str no) rfl rfl (by kernel_rfl) (by kernel_rfl) (by kernel_rfl) (fun _ _ _ h => h) rfl (fun w' h => by obtain ⟨h0, h1⟩ := h; first | (go_simp; done) | (go_simp; omega)) HX.out ?_
  go_frame
  refine takeH 7 31 (str ct) rfl rfl (by kernel_rfl) (by kernel_rfl) (by kernel_rfl) (fun _ _ _ h => h) rfl (fun w' h => by obtain ⟨h0, h1⟩ := h; first | (go_simp; done) | (go_simp; omega)) HX.out ?_
  go_frame
  refine takeH 10 34 (.pointer (some ⟨w.heap.size, 4, none⟩)) rfl rfl (by kernel_rfl) (by kernel_rfl) (by kernel_rfl) (fun _ _ _ h => h) rfl (fun w' h => by obtain ⟨h0, h1⟩ := h; first | (go_simp; done) | (go_simp; omega)) HX.out ?_
  go_frame
  refine takeH 11 35 (str cn) rfl rfl (by kernel_rfl) (by kernel_rfl) (by kernel_rfl) (fun _ _ _ h => h) rfl (fun w' h => by obtain ⟨h0, h1⟩ := h; first | (go_simp; done) | (go_simp; omega)) HX.out ?_
  go_frame
  refine takeH 16 40 (.slice A3 h2.length c3) rfl rfl (by kernel_rfl) (by kernel_rfl) (by kernel_rfl) (fun _ _ _ h => h) rfl (fun w' h => by obtain ⟨h0, h1⟩ := h; first | (go_simp; done) | (go_simp; omega)) HX.out ?_
  go_frame
  refine wpAnyH_all (rs := [1]) (by kernel_rfl) (by simp) ?_
  simp only [List.mem_singleton, forall_eq]
  refine wpOp_callD 25 rfl rfl rfl 23 #[.slice A1 h1.length c1] (by go_simp) ?_
  refine (hex_any X0.heap.size _ h1 X0 HH5.out (Nat.le_refl _) (by omega)).mono ?_
  rintro e X1 ⟨rfl, hb1⟩
  have HBX1 := Lib.hid hb1
  have HO6 := Lib.hid (HO5.out.fwd hb1)
  refine ⟨_, rfl, HSX.out X1 hb1, ?_⟩
  go_frame
  obtain ⟨x1, hx1⟩ : ∃ x, x = encH h1 := ⟨_, rfl⟩
  have hxl1 : x1.length ≤ 2000 := by rw [hx1, encH_len2]; omega
  have HX1E := Lib.hid hx1
  rw [← hx1]
  clear hx1 hb1 HX
  have HX := Lib.hid (HSX.out X1 HBX1.out)
  obtain ⟨s1, q1⟩ : ∃ a, a = x1 ++ [58] := ⟨_, rfl⟩
  have d1 : ByteArray.mk x1.toArray ++ ByteArray.mk #[58] = ByteArray.mk s1.toArray := by rw [q1]; exact str_app x1 [58]
  have m1 : s1.length ≤ 2001 := by rw [q1]; simp; omega
  have n1 : (x1.length : Int) + 1 ≤ 9223372036854775807 := by omega
  have Q1 := Lib.hid q1
  clear q1
  obtain ⟨s2, q2⟩ : ∃ a, a = s1 ++ no := ⟨_, rfl⟩
  have d2 : ByteArray.mk s1.toArray ++ ByteArray.mk no.toArray = ByteArray.mk s2.toArray := by rw [q2]; exact str_app s1 no
  have m2 : s2.length ≤ 12001 := by rw [q2]; simp; omega
  have n2 : (s1.length : Int) + (no.length : Int) ≤ 9223372036854775807 := by omega
  have Q2 := Lib.hid q2
  clear q2
  obtain ⟨s3, q3⟩ : ∃ a, a = s2 ++ [58] := ⟨_, rfl⟩
  have d3 : ByteArray.mk s2.toArray ++ ByteArray.mk #[58] = ByteArray.mk s3.toArray := by rw [q3]; exact str_app s2 [58]
  have m3 : s3.length ≤ 12002 := by rw [q3]; simp; omega
  have n3 : (s2.length : Int) + 1 ≤ 9223372036854775807 := by omega
  have Q3 := Lib.hid q3
  clear q3
  obtain ⟨s4, q4⟩ : ∃ a, a = s3 ++ ct := ⟨_, rfl⟩
  have d4 : ByteArray.mk s3.toArray ++ ByteArray.mk ct.toArray = ByteArray.mk s4.toArray := by rw [q4]; exact str_app s3 ct
  have m4 : s4.length ≤ 12102 := by rw [q4]; simp; omega
  have n4 : (s3.length : Int) + (ct.length : Int) ≤ 9223372036854775807 := by omega
  have Q4 := Lib.hid q4
  clear q4
  obtain ⟨s5, q5⟩ : ∃ a, a = s4 ++ [58] := ⟨_, rfl⟩
  have d5 : ByteArray.mk s4.toArray ++ ByteArray.mk #[58] = ByteArray.mk s5.toArray := by rw [q5]; exact str_app s4 [58]
  have m5 : s5.length ≤ 12103 := by rw [q5]; simp; omega
  have n5 : (s4.length : Int) + 1 ≤ 9223372036854775807 := by omega
  have Q5 := Lib.hid q5
  clear q5
  obtain ⟨s6, q6⟩ : ∃ a, a = s5 ++ cn := ⟨_, rfl⟩
  have d6 : ByteArray.mk s5.toArray ++ ByteArray.mk cn.toArray = ByteArray.mk s6.toArray := by rw [q6]; exact str_app s5 cn
  have m6 : s6.length ≤ 22103 := by rw [q6]; simp; omega
  have n6 : (s5.length : Int) + (cn.length : Int) ≤ 9223372036854775807 := by omega
  have Q6 := Lib.hid q6
  clear q6
  obtain ⟨s7, q7⟩ : ∃ a, a = s6 ++ [58] := ⟨_, rfl⟩
  have d7 : ByteArray.mk s6.toArray ++ ByteArray.mk #[58] = ByteArray.mk s7.toArray := by rw [q7]; exact str_app s6 [58]
  have m7 : s7.length ≤ 22104 := by rw [q7]; simp; omega
  have n7 : (s6.length : Int) + 1 ≤ 9223372036854775807 := by omega
  have Q7 := Lib.hid q7
  clear q7
  obtain ⟨s8, q8⟩ : ∃ a, a = s7 ++ [97, 117, 116, 104] := ⟨_, rfl⟩
  have d8 : ByteArray.mk s7.toArray ++ ByteArray.mk #[97, 117, 116, 104] = ByteArray.mk s8.toArray := by rw [q8]; exact str_app s7 [97, 117, 116, 104]
  have m8 : s8.length ≤ 22108 := by rw [q8]; simp; omega
  have n8 : (s7.length : Int) + 4 ≤ 9223372036854775807 := by omega
  have Q8 := Lib.hid q8
  clear q8
  obtain ⟨s9, q9⟩ : ∃ a, a = s8 ++ [58] := ⟨_, rfl⟩
  have d9 : ByteArray.mk s8.toArray ++ ByteArray.mk #[58] = ByteArray.mk s9.toArray := by rw [q9]; exact str_app s8 [58]
  have m9 : s9.length ≤ 22109 := by rw [q9]; simp; omega
  have n9 : (s8.length : Int) + 1 ≤ 9223372036854775807 := by omega
  have Q9 := Lib.hid q9
  clear q9
  have hcl : 0 = 0 := rfl
  refine takeH 2 26 (str s1) rfl rfl (by kernel_rfl) (by kernel_rfl) (by kernel_rfl) (fun _ _ _ h => h) rfl (fun w' h => by obtain ⟨h0, h1⟩ := h; first | (go_simp; done) | (go_simp; omega)) HX.out ?_
  go_frame
  refine takeH 5 29 (str s2) rfl rfl (by kernel_rfl) (by kernel_rfl) (by kernel_rfl) (fun _ _ _ h => h) rfl (fun w' h => by obtain ⟨h0, h1⟩ := h; first | (go_simp; done) | (go_simp; omega)) HX.out ?_
  go_frame
  refine takeH 6 30 (str s3) rfl rfl (by kernel_rfl) (by kernel_rfl) (by kernel_rfl) (fun _ _ _ h => h) rfl (fun w' h => by obtain ⟨h0, h1⟩ := h; first | (go_simp; done) | (go_simp; omega)) HX.out ?_
  go_frame
  refine takeH 8 32 (str s4) rfl rfl (by kernel_rfl) (by kernel_rfl) (by kernel_rfl) (fun _ _ _ h => h) rfl (fun w' h => by obtain ⟨h0, h1⟩ := h; first | (go_simp; done) | (go_simp; omega)) HX.out ?_
  go_frame
  refine takeH 9 33 (str s5) rfl rfl (by kernel_rfl) (by kernel_rfl) (by kernel_rfl) (fun _ _ _ h => h) rfl (fun w' h => by obtain ⟨h0, h1⟩ := h; first | (go_simp; done) | (go_simp; omega)) HX.out ?_
  go_frame
  refine takeH 12 36 (str s6) rfl rfl (by kernel_rfl) (by kernel_rfl) (by kernel_rfl) (fun _ _ _ h => h) rfl (fun w' h => by obtain ⟨h0, h1⟩ := h; first | (go_simp; done) | (go_simp; omega)) HX.out ?_
  go_frame
  refine takeH 13 37 (str s7) rfl rfl (by kernel_rfl) (by kernel_rfl) (by kernel_rfl) (fun _ _ _ h => h) rfl (fun w' h => by obtain ⟨h0, h1⟩ := h; first | (go_simp; done) | (go_simp; omega)) HX.out ?_
  go_frame
  refine takeH 14 38 (str s8) rfl rfl (by kernel_rfl) (by kernel_rfl) (by kernel_rfl) (fun _ _ _ h => h) rfl (fun w' h => by obtain ⟨h0, h1⟩ := h; first | (go_simp; done) | (go_simp; omega)) HX.out ?_
  go_frame
  refine takeH 15 39 (str s9) rfl rfl (by kernel_rfl) (by kernel_rfl) (by kernel_rfl) (fun _ _ _ h => h) rfl (fun w' h => by obtain ⟨h0, h1⟩ := h; first | (go_simp; done) | (go_simp; omega)) HX.out ?_
  go_frame
  refine wpAnyH_all (rs := [17]) (by kernel_rfl) (by simp) ?_
  simp only [List.mem_singleton, forall_eq]
  refine wpOp_callD 41 rfl rfl rfl 23 #[.slice A3 h2.length c3] (by go_simp) ?_
  refine (hex_any X1.heap.size _ h2 X1 HO6.out (Nat.le_refl _) (by have := HL2.out; omega)).mono ?_
  rintro e X3 ⟨rfl, hb3⟩
  have HBX3 := Lib.hid (HBX1.out.trans (hb3.mono HBX1.out.size))
  refine ⟨_, rfl, HSX.out X3 HBX3.out, ?_⟩
  go_frame
  obtain ⟨x2, hx2⟩ : ∃ x, x = encH h2 := ⟨_, rfl⟩
  have hxl2 : x2.length = 64 := by rw [hx2, encH_len2, HL2.out]
  rw [← hx2]
  obtain ⟨fin, qf⟩ : ∃ a, a = s9 ++ x2 := ⟨_, rfl⟩
  have df : ByteArray.mk s9.toArray ++ ByteArray.mk x2.toArray = ByteArray.mk fin.toArray := by rw [qf]; exact str_app s9 x2
  have HMF := Lib.hid (show fin.length ≤ 22173 from by rw [qf]; simp; omega)
  have nf : (s9.length : Int) + (x2.length : Int) ≤ 9223372036854775807 := by omega
  have HFIN := Lib.hid (show respT h1 no ct cn h2 = fin from by rw [qf, Q9.out, Q8.out, Q7.out, Q6.out, Q5.out, Q4.out, Q3.out, Q2.out, Q1.out, HX1E.out, hx2]; unfold respT; simp)
  clear hx2 qf hb3 HX
  have HX := Lib.hid (HSX.out X3 HBX3.out)
  refine takeH 18 42 (str fin) rfl rfl (by kernel_rfl) (by kernel_rfl) (by kernel_rfl) (fun _ _ _ h => h) rfl (fun w' h => by obtain ⟨h0, h1⟩ := h; first | (go_simp; done) | (go_simp; omega)) HX.out ?_
  go_frame
  refine takeH 19 11 (str fin) rfl rfl (by kernel_rfl) (by kernel_rfl) (by kernel_rfl) (fun _ _ _ h => h) rfl (fun w' h => by obtain ⟨h0, h1⟩ := h; first | (go_simp; done) | (go_simp; omega)) HX.out ?_
  go_frame
  refine wpAnyH_done (by kernel_rfl) ?_ _
  refine NoPanic.normal ?_
  clear df nf d1 d2 d3 d4 d5 d6 d7 d8 d9 n1 n2 n3 n4 n5 n6 n7 n8 n9 m1 m2 m3 m4 m5 m6 m7 m8 m9
  have HBY := Lib.hid (HB5.out.trans (HBX3.out.mono HB5.out.size))
  obtain ⟨vd, Wd, hcd, hbd, hsd⟩ := conv_tx fin X3 (by have := HMF.out; omega)
  obtain ⟨Ad, cd, rfl, -⟩ := id hsd
  obtain ⟨Y2, hY2⟩ : ∃ X, X = Wd.alloc (.cells #[.slice Ad fin.length cd] 26) := ⟨_, rfl⟩
  have hy2 : Below Wd.heap.size Wd Y2 := by rw [hY2]; exact (Below.refl _ _).alloc (Nat.le_refl _) _
  have HY2 := Lib.hid (HBY.out.trans ((hbd.trans (hy2.mono hbd.size)).mono HBY.out.size))
  have HSY := Lib.hid (show Sls Y2 Y2.heap.size (.slice (some ⟨Wd.heap.size, 0, none⟩) 1 1) [fin] from by rw [hY2, World.size_alloc]; exact Sls.one Wd fin _ _ hsd)
  have HHF := Lib.hid (hash_plain bx cs (.slice (some ⟨Wd.heap.size, 0, none⟩) 1 1) [fin] Y2 (HBX.out.below HY2.out HBX.out.lt) HSY.out (fun l hl => by rw [List.mem_singleton] at hl; rw [hl]; have := HMF.out; omega) (HT.out.below HY2.out hG))
  clear hsd hbd hy2
  go_wp2_with fail
  rw [← hY2]
  refine HHF.out.mono ?_
  rintro e w9 ⟨v9, rfl, hO9, hB9⟩
  rw [List.flatten_cons, List.flatten_nil, List.append_nil] at hO9
  have HO9 := Lib.hid (hO9.lower HY2.out.size)
  have HB9 := Lib.hid (HY2.out.trans (hB9.mono HY2.out.size))
  clear hO9 hB9
  go_wp2_with fail
  go_ret
  exact ⟨_, rfl, by rw [HE2.out, HFIN.out]; exact HO9.out, HB9.out⟩
end Go.Proofs.YteadncmhcbdicaaDoor
set_option maxRecDepth 100000
namespace Go.Proofs.YteadncmhcbdicaaDoor
open Go.RowKit
attribute [local go_sem] Oper.semAt_some
theorem count_one (w : World) : Calls Tryd.prog 22 #[.int .u32 1] w fun e w' => e = .returned (str (encH [0, 0, 0, 1])) ∧ Below w.heap.size w w' := by
  go_enter Tryd.func22, Tryd.ntmps22
  go_wp2_with fail
  obtain ⟨W1, hW1⟩ : ∃ W, W = w.alloc (.cells #[.int .u8 0, .int .u8 0, .int .u8 0, .int .u8 1] 5) := ⟨_, rfl⟩
  have hb1 : Below w.heap.size w W1 := by rw [hW1]; exact (Below.refl _ _).alloc (Nat.le_refl _) _
  have HS := Lib.hid (show Sl W1 W1.heap.size (.slice (some ⟨w.heap.size, 0, none⟩) 4 4) [0, 0, 0, 1] from by rw [hW1]; exact Sl.newA w _ _ [0, 0, 0, 1] rfl rfl rfl (by simp) (by simp))
  have HB1 := Lib.hid hb1
  rw [← hW1]
  clear hW1 hb1
  refine (hex_any W1.heap.size _ [0, 0, 0, 1] W1 HS.out (Nat.le_refl _) (by simp)).mono ?_
  rintro e w2 ⟨rfl, hb⟩
  have HB2 := Lib.hid (HB1.out.trans (hb.mono HB1.out.size))
  clear hb
  go_wp2_with fail
  go_ret
  exact ⟨rfl, HB2.out⟩
set_option maxHeartbeats 4000000 in
theorem awake19 (w : World) (hT : TabA w) : Calls Tryd.prog 4 #[] w fun e w' => e = .returned (.bool true) ∧ Below w.heap.size w w' := by
  have HT := Lib.hid hT
  have hG := tab_lt hT
  clear hT
  go_enter Tryd.func4, Tryd.ntmps4
  go_wp2_with fail
  refine (newBox_p false w).mono ?_
  rintro e w1 ⟨bx, rfl, ⟨cs, hbx⟩, hbb, hb⟩
  have HB1 := Lib.hid hb
  have HBX := Lib.hid hbx
  clear hb hbx
  go_wp2_with fail
  refine wp_region_noPanic ?_
  obtain ⟨no, hno⟩ : ∃ l, l = egN := ⟨_, rfl⟩
  obtain ⟨ur, hur⟩ : ∃ l : List UInt8, l = [47, 100, 105, 114, 47, 105, 110, 100, 101, 120, 46, 104, 116, 109, 108] := ⟨_, rfl⟩
  obtain ⟨cn, hcn⟩ : ∃ l, l = egC := ⟨_, rfl⟩
  have HNO := Lib.hid hno
  have HUR := Lib.hid hur
  have HCN := Lib.hid hcn
  refine wp_region_held (S := fun W' => W'.cell? ⟨w1.heap.size, 0, none⟩ = some (str []) ∧ W'.cell? ⟨w1.heap.size, 1, none⟩ = some (str []) ∧ W'.cell? ⟨w1.heap.size, 2, none⟩ = some (str no) ∧ W'.cell? ⟨w1.heap.size, 3, none⟩ = some (str ur) ∧ W'.cell? ⟨w1.heap.size, 4, none⟩ = some (str cn) ∧ W'.cell? ⟨w1.heap.size, 5, none⟩ = some (str []) ∧ W'.cell? ⟨w1.heap.size, 6, none⟩ = some (.int .u32 1) ∧ W'.cell? ⟨w1.heap.size, 7, none⟩ = some (.slice none 0 0)) (by kernel_rfl) ?_
  change wpAnyH _ _ _ _ _ _ _ _ (World.drew _)
  obtain ⟨X0, hX0⟩ : ∃ X, X = World.drew (w1.alloc (.cells #[str [], str [], str [55, 121, 112, 102, 47, 120, 108, 106, 57, 88, 88, 119, 102, 68, 80, 69, 111, 77, 52, 85, 82, 114, 118, 47, 120, 119, 102, 57, 52, 66, 99, 67, 65, 122, 70, 90, 72, 52, 71, 105, 84, 111, 48, 118], str [47, 100, 105, 114, 47, 105, 110, 100, 101, 120, 46, 104, 116, 109, 108], str [102, 50, 47, 119, 69, 52, 113, 55, 52, 69, 54, 122, 73, 74, 69, 116, 87, 97, 72, 75, 97, 102, 53, 119, 118, 47, 72, 53, 81, 122, 122, 112, 88, 117, 115, 113, 71, 101, 109, 120, 85, 82, 90, 74], str [], .int .u32 1, .slice none 0 0] 40)) := ⟨_, rfl⟩
  have HK := Lib.hid (show Blk X0 w1.heap.size [str [], str [], str no, str ur, str cn, str [], .int .u32 1, .slice none 0 0] from by rw [hX0, hno, hur, hcn]; exact (Blk.new w1 _ _).drew)
  have HB0 := Lib.hid (show Below w.heap.size w X0 from by rw [hX0]; exact (HB1.out.alloc HB1.out.size _).drew)
  have HB0' := Lib.hid (show Below w1.heap.size w1 X0 from by rw [hX0]; exact ((Below.refl _ _).alloc (Nat.le_refl _) _).drew)
  rw [← hX0]
  clear hX0 hno hur hcn
  have HSX := Lib.hid (fun (W' : World) (hb : Below X0.heap.size X0 W') => (show W'.cell? ⟨w1.heap.size, 0, none⟩ = some (str []) ∧ W'.cell? ⟨w1.heap.size, 1, none⟩ = some (str []) ∧ W'.cell? ⟨w1.heap.size, 2, none⟩ = some (str no) ∧ W'.cell? ⟨w1.heap.size, 3, none⟩ = some (str ur) ∧ W'.cell? ⟨w1.heap.size, 4, none⟩ = some (str cn) ∧ W'.cell? ⟨w1.heap.size, 5, none⟩ = some (str []) ∧ W'.cell? ⟨w1.heap.size, 6, none⟩ = some (.int .u32 1) ∧ W'.cell? ⟨w1.heap.size, 7, none⟩ = some (.slice none 0 0) from ⟨(HK.out.below hb HK.out.lt).at (o := 0) rfl, (HK.out.below hb HK.out.lt).at (o := 1) rfl, (HK.out.below hb HK.out.lt).at (o := 2) rfl, (HK.out.below hb HK.out.lt).at (o := 3) rfl, (HK.out.below hb HK.out.lt).at (o := 4) rfl, (HK.out.below hb HK.out.lt).at (o := 5) rfl, (HK.out.below hb HK.out.lt).at (o := 6) rfl, (HK.out.below hb HK.out.lt).at (o := 7) rfl⟩))
  have HX := Lib.hid (HSX.out X0 (Below.refl _ _))
  refine takeH 0 6 (.pointer (some ⟨bx, 0, none⟩)) rfl rfl (by kernel_rfl) (by kernel_rfl) (by kernel_rfl) (fun _ _ _ h => h) rfl (fun w' h => by obtain ⟨h0, h1, h2, h3, h4, h5, h6, h7⟩ := h; go_simp) HX.out ?_
  go_frame
  refine takeH 1 7 (.pointer (some ⟨bx, 0, none⟩)) rfl rfl (by kernel_rfl) (by kernel_rfl) (by kernel_rfl) (fun _ _ _ h => h) rfl (fun w' h => by obtain ⟨h0, h1, h2, h3, h4, h5, h6, h7⟩ := h; go_simp) HX.out ?_
  go_frame
  refine takeH 3 9 (.agg #[str [], str [], str no, str ur, str cn, str [], .int .u32 1, .slice none 0 0]) rfl rfl (by kernel_rfl) (by kernel_rfl) (by kernel_rfl) (fun _ _ _ h => h) rfl (fun w' h => by obtain ⟨h0, h1, h2, h3, h4, h5, h6, h7⟩ := h; go_simp) HX.out ?_
  go_frame
  refine wpAnyH_all (rs := [2]) (by kernel_rfl) (by simp) ?_
  simp only [List.mem_singleton, forall_eq]
  refine wpOp_callD 8 rfl rfl rfl 15 #[.pointer (some ⟨bx, 0, none⟩), str [77, 117, 102, 97, 115, 97], str [104, 116, 116, 112, 45, 97, 117, 116, 104, 64, 101, 120, 97, 109, 112, 108, 101, 46, 111, 114, 103], str [67, 105, 114, 99, 108, 101, 32, 111, 102, 32, 76, 105, 102, 101]] (by go_simp) ?_
  refine (ha1_any bx _ [77, 117, 102, 97, 115, 97] [104, 116, 116, 112, 45, 97, 117, 116, 104, 64, 101, 120, 97, 109, 112, 108, 101, 46, 111, 114, 103] [67, 105, 114, 99, 108, 101, 32, 111, 102, 32, 76, 105, 102, 101] X0 (HBX.out.below HB0'.out HBX.out.lt) (by simp) (by simp) (by simp) (HT.out.below HB0.out hG)).mono ?_
  rintro e X1 ⟨v1, rfl, hO1, hb1⟩
  rw [show [77, 117, 102, 97, 115, 97] ++ 58 :: ([104, 116, 116, 112, 45, 97, 117, 116, 104, 64, 101, 120, 97, 109, 112, 108, 101, 46, 111, 114, 103] ++ 58 :: [67, 105, 114, 99, 108, 101, 32, 111, 102, 32, 76, 105, 102, 101]) = egA from rfl, egA_sum] at hO1
  obtain ⟨q1, hq1⟩ : ∃ q, q = egHA := ⟨_, rfl⟩
  have hl1 : q1.length = 32 := by rw [hq1]; rfl
  rw [← hq1] at hO1
  have HQ1 := Lib.hid hq1
  obtain ⟨A1, c1, rfl, -⟩ := hO1.sl
  have HO1 := Lib.hid hO1.sl
  have HB1X := Lib.hid (HB0'.out.trans (hb1.mono HB0'.out.size))
  have HBW1 := Lib.hid (HB0.out.trans (hb1.mono HB0.out.size))
  have HBS := Lib.hid hb1
  refine ⟨_, rfl, HSX.out X1 hb1, ?_⟩
  go_frame
  clear hO1 hb1 hq1
  refine wpAnyH_all (rs := [4]) (by kernel_rfl) (by simp) ?_
  simp only [List.mem_singleton, forall_eq]
  refine wpOp_callD 10 rfl rfl rfl 14 #[.pointer (some ⟨bx, 0, none⟩), .slice A1 q1.length c1, str [71, 69, 84], .agg #[str [], str [], str no, str ur, str cn, str [], .int .u32 1, .slice none 0 0]] (by go_simp) ?_
  refine (response_any bx _ _ q1 [71, 69, 84] [] [] no ur cn (str []) (.slice none 0 0) 1 (encH [0, 0, 0, 1]) X1 (HBX.out.below HB1X.out HBX.out.lt) HO1.out (by omega) (by simp) (by rw [HNO.out]; decide) (by rw [HUR.out]; simp) (by rw [HCN.out]; decide) (by rw [encH_len2]; simp) (HT.out.below HBW1.out hG) (Lib.hid count_one)).mono ?_
  rintro e X2 ⟨v2, rfl, hO2, hb2⟩
  rw [HQ1.out, HNO.out, HUR.out, HCN.out, show sumL ([71, 69, 84] ++ 58 :: [47, 100, 105, 114, 47, 105, 110, 100, 101, 120, 46, 104, 116, 109, 108]) = egHB from egB_sum] at hO2
  obtain ⟨q2, hq2⟩ : ∃ q, q = sumL egT := ⟨_, rfl⟩
  have hT2 : respT egHA egN (encH [0, 0, 0, 1]) egC egHB = egT := egT_eq
  rw [hT2, ← hq2] at hO2
  have hl2 : q2.length = 32 := by rw [hq2, sumL_length]
  have ht2 : q2.take 4 = [117, 57, 39, 250] := by rw [hq2, egT_sum]
  have HO2 := Lib.hid hO2.sl
  have HBE := Lib.hid (HBW1.out.trans (hb2.mono HBW1.out.size))
  have HXE := Lib.hid (HSX.out X2 (HBS.out.trans (hb2.mono HBS.out.size)))
  obtain ⟨A5, c5, rfl, hc5, hc5b, hc5c, hs5⟩ := hO2.sl.take 4 (by omega)
  rw [ht2] at hs5
  have HS5 := Lib.hid hs5
  rw [hl2] at hc5b
  refine ⟨_, rfl, HXE.out, ?_⟩
  go_frame
  clear hO2 hb2 hq2 hT2 ht2 hs5 HX
  have hr5 : ∀ W, (Instr.slice 26 (.slice A5 q2.length c5) none (some (.int .i64 4)) none).run Tryd.prog W = .ok (.slice A5 4 c5) W := fun W => slice_hB A5 q2.length c5 4 hc5 W
  refine takeH 5 3 (.slice A5 q2.length c5) rfl rfl (by kernel_rfl) (by kernel_rfl) (by kernel_rfl) (fun _ _ _ h => h) rfl (fun w' h => by obtain ⟨h0, h1, h2, h3, h4, h5, h6, h7⟩ := h; go_simp) HXE.out ?_
  go_frame
  refine wpAnyH_done (by kernel_rfl) ?_ _
  refine NoPanic.normal ?_
  rw [hl2] at hr5 ⊢
  clear hl2
  go_wp2_with fail
  obtain ⟨X4, hX4⟩ : ∃ X, X = X2.alloc (.cells #[.int .u8 117, .int .u8 57, .int .u8 39, .int .u8 250] 5) := ⟨_, rfl⟩
  have hb4 : Below X2.heap.size X2 X4 := by rw [hX4]; exact (Below.refl _ _).alloc (Nat.le_refl _) _
  have HS4 := Lib.hid (show Sl X4 X4.heap.size (.slice (some ⟨X2.heap.size, 0, none⟩) 4 4) [117, 57, 39, 250] from by rw [hX4]; exact Sl.newA X2 _ _ [117, 57, 39, 250] rfl rfl rfl (by simp) (by simp))
  have HS6 := Lib.hid (HS5.out.fwd hb4)
  have HB6 := Lib.hid (HBE.out.trans (hb4.mono HBE.out.size))
  rw [← hX4]
  clear hX4 hb4
  refine (same_true _ _ _ _ [117, 57, 39, 250] X4 HS6.out HS4.out).mono ?_
  rintro e w9 ⟨rfl, rfl⟩
  go_wp2_with fail
  go_ret
  exact ⟨rfl, HB6.out⟩
end Go.Proofs.YteadncmhcbdicaaDoor
