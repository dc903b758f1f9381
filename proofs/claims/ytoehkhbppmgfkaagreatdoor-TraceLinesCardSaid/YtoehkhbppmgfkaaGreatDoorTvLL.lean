/- trace: the law TraceLines. -/
import Derived.Test.YtoehkhbppmgfkaaGreatDoorTvRr
import Derived.Test.YtoehkhbppmgfkaaGreatDoorTvBl
import Derived.Test.YtoehkhbppmgfkaaGreatDoorTvLd
import Derived.StillTailTactics
set_option maxRecDepth 100000
namespace Go.Proofs.YtoehkhbppmgfkaaGreatDoor
open Go.RowKit Go.Shelf
attribute [local go_sem] Oper.semAt_some
theorem evLine_len6 {e : EvL} (h : e.Ok) : (evLine e).length ≤ 600 := by
  obtain ⟨h1, h2, h3, h4, h5, h6, h7⟩ := h
  have l1 : (Lib.decDigits e.n).length ≤ 20 := by rw [Lib.decDigits_length]; exact Lib.nDigits_le20 e.n (by omega)
  have l2 : (Lib.decDigits e.tick).length ≤ 20 := by rw [Lib.decDigits_length]; exact Lib.nDigits_le20 e.tick (by omega)
  have l3 := (plain_not h4).2
  obtain ⟨u, hu⟩ : ∃ u : Nat, e.conn = u := ⟨e.conn.toNat, by omega⟩
  have l4 : (Lib.itoa e.conn).length ≤ 20 := by rw [hu, Lib.itoa_nonneg, Lib.decDigits_length]; exact Lib.nDigits_le20 u (by omega)
  have l5 : (textF e.text).length ≤ 400 := by
    unfold textF
    split
    · simp
    · rw [encH_lenL]; omega
  unfold evLine
  simp only [List.length_append, List.length_cons]
  omega
set_option maxHeartbeats 4000000 in
theorem traceLines_law (n tk : Nat) (kd : List UInt8) (cn : Int) (tx s : List UInt8) (w : World) (hkd : kd.length ≤ 9223372036854775807) (htx : tx.length ≤ 9223372036854775807) (hs : s.length ≤ 9223372036854775807) (hT : TabA w) (hE : Env w) :
    Calls Tryz.prog 3 #[.agg #[.int .u64 (n : Int), .int .u64 (tk : Int), str kd, .int .i64 cn, str tx], str s] w fun e w' => e = .returned (.bool true) ∧ Below w.heap.size w w' := by
  obtain ⟨W, hW⟩ : ∃ W, W = w.alloc (.cells #[.int .u64 (n : Int), .int .u64 (tk : Int), str kd, .int .i64 cn, str tx] 24) := ⟨_, rfl⟩
  have hB0 : Below w.heap.size w W := by rw [hW]; exact (Below.refl _ w).alloc (Nat.le_refl _) _
  have HB0 := Lib.hid hB0
  have HEW := Lib.hid hE
  have hE0 := hE.below hB0
  have HK0 := Lib.hid (show Blk W w.heap.size [.int .u64 (n : Int), .int .u64 (tk : Int), str kd, .int .i64 cn, str tx] from by rw [hW]; exact Blk.new w _ _)
  have HAW := Lib.hid (awake23 W (hT.below hB0 (tab_lt hT)) hE0.powE)
  have HE0 := Lib.hid hE0
  have HC1 := Lib.hid (fun W => cutText_any kd 40 W hkd (by omega) (by omega))
  have HC2 := Lib.hid (fun W => cutText_any tx 210 W htx (by omega) (by omega))
  have HC3 := Lib.hid (fun W => cutText_any s 500 W hs (by omega) (by omega))
  clear hB0 hT hE hE0 hkd htx hs
  go_enter Tryz.func3, Tryz.ntmps3
  go_wp2_with fail
  rw [← hW]
  refine HAW.out.mono ?_
  rintro e w1 ⟨rfl, hb⟩
  have HB1 := Lib.hid (HB0.out.trans (hb.mono HB0.out.size))
  have HE1 := Lib.hid (HE0.out.below hb)
  have hk1 := HK0.out.below hb HK0.out.lt
  have HK1 := Lib.hid hk1
  have k2 := hk1.at (o := 2) rfl
  have k4 := hk1.at (o := 4) rfl
  clear hb hk1 HAW HK0 HE0 HB0 hW
  go_wp2_with fail
  refine wp_region_noPanic ?_
  refine wp_region_held (S := fun _ => True) (by kernel_rfl) ?_
  change wpAnyH _ _ _ _ _ _ _ _ (World.drew _)
  obtain ⟨X0, hX0⟩ : ∃ V, V = World.drew w1 := ⟨_, rfl⟩
  have HBX := Lib.hid (show Below w.heap.size w X0 from by rw [hX0]; exact HB1.out.drew)
  have HEX := Lib.hid (show Env X0 from by rw [hX0]; exact HE1.out.below (Below.refl _ _).drew)
  have HKX := Lib.hid (show Blk X0 w.heap.size [.int .u64 (n : Int), .int .u64 (tk : Int), str kd, .int .i64 cn, str tx] from by rw [hX0]; exact HK1.out.drew)
  rw [← hX0]
  clear hX0 k2 k4 HB1 HE1 HK1
  have k2 := HKX.out.at (o := 2) rfl
  have k4 := HKX.out.at (o := 4) rfl
  have f2 := HKX.out.free 2
  have f4 := HKX.out.free 4
  refine takeH 0 17 (.pointer (some ⟨w.heap.size, 2, none⟩)) rfl rfl (by kernel_rfl) (by kernel_rfl) (by kernel_rfl) (fun _ _ _ h => h) rfl (fun w' _ => by go_simp) trivial ?_
  go_frame
  refine takeH 3 20 (.pointer (some ⟨w.heap.size, 4, none⟩)) rfl rfl (by kernel_rfl) (by kernel_rfl) (by kernel_rfl) (fun _ _ _ h => h) rfl (fun w' _ => by go_simp) trivial ?_
  go_frame
  refine takeH 6 23 (str s) rfl rfl (by kernel_rfl) (by kernel_rfl) (by kernel_rfl) (fun _ _ _ h => h) rfl (fun w' _ => by go_simp) trivial ?_
  go_frame
  refine wpAnyH_all (rs := [1, 4]) (by kernel_rfl) (by simp) ?_
  simp only [List.mem_cons, List.not_mem_nil, or_false, forall_eq_or_imp, forall_eq]
  refine ⟨?_, ?_⟩
  rotate_left
  refine wpOp_valueD 21 rfl rfl rfl (str tx) (by go_simp) ⟨trivial, ?_⟩
  go_frame
  refine wpAnyH_all (rs := [1]) (by kernel_rfl) (by simp) ?_
  simp only [List.mem_singleton, forall_eq]
  refine wpOp_valueD 18 rfl rfl rfl (str kd) (by go_simp) ⟨trivial, ?_⟩
  go_frame
  refine wpAnyH_all (rs := [2]) (by kernel_rfl) (by simp) ?_
  simp only [List.mem_singleton, forall_eq]
  refine wpOp_callD 19 rfl rfl rfl 5 #[str kd, .int .i64 40] (by go_simp) ?_
  refine (HC1.out X0).mono ?_
  rintro e V' ⟨rfl, hV'⟩
  subst hV'
  refine ⟨_, rfl, trivial, ?_⟩
  go_frame
  rotate_left
  refine wpOp_valueD 18 rfl rfl rfl (str kd) (by go_simp) ⟨trivial, ?_⟩
  go_frame
  refine wpAnyH_all (rs := [2, 4]) (by kernel_rfl) (by simp) ?_
  simp only [List.mem_cons, List.not_mem_nil, or_false, forall_eq_or_imp, forall_eq]
  refine ⟨?_, ?_⟩
  rotate_left
  refine wpOp_valueD 21 rfl rfl rfl (str tx) (by go_simp) ⟨trivial, ?_⟩
  go_frame
  refine wpAnyH_all (rs := [2]) (by kernel_rfl) (by simp) ?_
  simp only [List.mem_singleton, forall_eq]
  refine wpOp_callD 19 rfl rfl rfl 5 #[str kd, .int .i64 40] (by go_simp) ?_
  refine (HC1.out X0).mono ?_
  rintro e V' ⟨rfl, hV'⟩
  subst hV'
  refine ⟨_, rfl, trivial, ?_⟩
  go_frame
  rotate_left
  rotate_left
  refine wpOp_callD 19 rfl rfl rfl 5 #[str kd, .int .i64 40] (by go_simp) ?_
  refine (HC1.out X0).mono ?_
  rintro e V' ⟨rfl, hV'⟩
  subst hV'
  refine ⟨_, rfl, trivial, ?_⟩
  go_frame
  refine wpAnyH_all (rs := [4]) (by kernel_rfl) (by simp) ?_
  simp only [List.mem_singleton, forall_eq]
  refine wpOp_valueD 21 rfl rfl rfl (str tx) (by go_simp) ⟨trivial, ?_⟩
  go_frame
  all_goals
    obtain ⟨K2, hK2⟩ : ∃ x, x = kd.take (Int.toNat 40) := ⟨_, rfl⟩
    obtain ⟨T2, hT2⟩ : ∃ x, x = tx.take (Int.toNat 210) := ⟨_, rfl⟩
    obtain ⟨S2, hS2⟩ : ∃ x, x = s.take (Int.toNat 500) := ⟨_, rfl⟩
    have hKl : K2.length ≤ 600 := by rw [hK2, List.length_take]; have : Int.toNat 40 = 40 := rfl; omega
    have hSl : S2.length ≤ 600 := by rw [hS2, List.length_take]; have : Int.toNat 500 = 500 := rfl; omega
    have HKL := Lib.hid hKl
    have HSL := Lib.hid hSl
    rw [← hK2] at HC1
    rw [← hT2] at HC2
    rw [← hS2] at HC3
    rw [← hK2]
    clear hKl hSl hK2 hT2 hS2
    refine takeH 8 25 (.pointer (some ⟨w.heap.size, 2, none⟩)) rfl rfl (by kernel_rfl) (by kernel_rfl) (by kernel_rfl) (fun _ _ _ h => h) rfl (fun w' _ => by go_simp) trivial ?_
    go_frame
    refine wpAnyH_all (rs := [5]) (by kernel_rfl) (by simp) ?_
    simp only [List.mem_singleton, forall_eq]
    refine wpOp_callD 22 rfl rfl rfl 5 #[str tx, .int .i64 210] (by go_simp) ?_
    refine (HC2.out X0).mono ?_
    rintro e V' ⟨rfl, hV'⟩
    subst hV'
    refine ⟨_, rfl, trivial, ?_⟩
    go_frame
    refine wpAnyH_all (rs := [7]) (by kernel_rfl) (by simp) ?_
    simp only [List.mem_singleton, forall_eq]
    refine wpOp_callD 24 rfl rfl rfl 5 #[str s, .int .i64 500] (by go_simp) ?_
    refine (HC3.out X0).mono ?_
    rintro e V' ⟨rfl, hV'⟩
    subst hV'
    refine ⟨_, rfl, trivial, ?_⟩
    go_frame
    refine wpAnyH_all (rs := [9]) (by kernel_rfl) (by simp) ?_
    simp only [List.mem_singleton, forall_eq]
    obtain ⟨X1, hX1⟩ : ∃ X1, X1 = X0.setCell ⟨w.heap.size, 2, none⟩ (str K2) := ⟨_, rfl⟩
    refine wpOp_storeV rfl rfl rfl (w' := X0.setCell ⟨w.heap.size, 2, none⟩ (str K2)) (by go_simp) ⟨trivial, ?_⟩
    rw [← hX1]
    have hkx1 : Blk X1 w.heap.size [.int .u64 (n : Int), .int .u64 (tk : Int), str K2, .int .i64 cn, str tx] := by rw [hX1]; exact HKX.out.set 2 _
    have HBX1 := Lib.hid (show Below w.heap.size w X1 from by rw [hX1]; exact HBX.out.setCell (p := ⟨w.heap.size, 2, none⟩) (Nat.le_refl _) _)
    have HGX1 := Lib.hid (show X0.grownBy X1 (some w.heap.size) from by rw [hX1]; exact grown_set X0 ⟨w.heap.size, 2, none⟩ _)
    clear hX1 k2 k4 f2 f4
    have k4 := hkx1.at (o := 4) rfl
    have f4 := hkx1.free 4
    refine takeH 10 26 (.pointer (some ⟨w.heap.size, 4, none⟩)) rfl rfl (by kernel_rfl) (by kernel_rfl) (by kernel_rfl) (fun _ _ _ h => h) rfl (fun w' _ => by go_simp) trivial ?_
    go_frame
    refine wpAnyH_all (rs := [11]) (by kernel_rfl) (by simp) ?_
    simp only [List.mem_singleton, forall_eq]
    obtain ⟨X2, hX2⟩ : ∃ X2, X2 = X1.setCell ⟨w.heap.size, 4, none⟩ (str T2) := ⟨_, rfl⟩
    refine wpOp_storeV rfl rfl rfl (w' := X1.setCell ⟨w.heap.size, 4, none⟩ (str T2)) (by go_simp) ⟨trivial, ?_⟩
    rw [← hX2]
    have hkx2 : Blk X2 w.heap.size [.int .u64 (n : Int), .int .u64 (tk : Int), str K2, .int .i64 cn, str T2] := by rw [hX2]; exact hkx1.set 4 _
    have HBX2 := Lib.hid (show Below w.heap.size w X2 from by rw [hX2]; exact HBX1.out.setCell (p := ⟨w.heap.size, 4, none⟩) (Nat.le_refl _) _)
    have HEX2 := Lib.hid (show Env X2 from HEW.out.below HBX2.out)
    have HKX2 := Lib.hid hkx2
    clear hX2 k4 f4 hkx1 hkx2
    refine takeH 12 1 (str S2) rfl rfl (by kernel_rfl) (by kernel_rfl) (by kernel_rfl) (fun _ _ _ h => h) rfl (fun w' _ => by go_simp) trivial ?_
    go_frame
    refine wpAnyH_done (by kernel_rfl) ?_ _
    refine NoPanic.normal ?_
    obtain ⟨e0, e1, e2, e3, e4⟩ : X2.cell? ⟨w.heap.size, 0, none⟩ = some (.int .u64 (n : Int)) ∧ X2.cell? ⟨w.heap.size, 1, none⟩ = some (.int .u64 (tk : Int)) ∧ X2.cell? ⟨w.heap.size, 2, none⟩ = some (str K2) ∧ X2.cell? ⟨w.heap.size, 3, none⟩ = some (.int .i64 cn) ∧ X2.cell? ⟨w.heap.size, 4, none⟩ = some (str T2) := ⟨HKX2.out.at (o := 0) rfl, HKX2.out.at (o := 1) rfl, HKX2.out.at (o := 2) rfl, HKX2.out.at (o := 3) rfl, HKX2.out.at (o := 4) rfl⟩
    obtain ⟨E, hE2⟩ : ∃ E : EvL, E = ⟨n, tk, K2, cn, T2⟩ := ⟨_, rfl⟩
    have hea : evA E = .agg #[.int .u64 (n : Int), .int .u64 (tk : Int), str K2, .int .i64 cn, str T2] := by rw [hE2]; rfl
    have hkk : E.kind.length ≤ 600 := by rw [hE2]; exact HKL.out
    have HLN : Hid (∃ L z, (∀ X, Env X → Calls Tryz.prog 6 #[evA E] X fun x w' => x = .returned (.tuple #[str L, .int .i64 z]) ∧ Below X.heap.size X w') ∧ (∀ X, Calls Tryz.prog 7 #[evA E] X fun x w' => x = .returned (.tuple #[str L, .int .i64 z]) ∧ Below X.heap.size X w') ∧ L.length ≤ 600 ∧ ((z = 0 ∧ rdL L = (E, 0)) ∨ z = 4)) := Lib.hid (by
      by_cases ho : E.Ok
      · exact ⟨evLine E, 0, fun X h => evLine_ok E ho X h.powE, fun X => refLine_ok E ho X, evLine_len6 ho, .inl ⟨rfl, rdL_line ho⟩⟩
      · exact ⟨[], 4, fun X _ => evLine_bad E hkk ho X, fun X => refLine_bad E hkk ho X, by simp, .inr rfl⟩)
    rw [hea] at HLN
    obtain ⟨L, z, h1, h2, h3, hz⟩ := HLN.out
    have HL1 := Lib.hid h1
    have HL2 := Lib.hid h2
    have HRE := Lib.hid (fun X h => read_any L X h h3)
    have HRS := Lib.hid (fun X h => read_any S2 X h HSL.out)
    have HRR := Lib.hid (fun X => refRead_any S2 X HSL.out)
    have HEA := Lib.hid hea
    clear h1 h2 h3 HLN hkk hE2 hea
    obtain ⟨⟨F, c⟩, hF⟩ : ∃ r, r = rdL S2 := ⟨_, rfl⟩
    obtain ⟨fn, ft, fk, fc, fx⟩ := F
    rw [← hF] at HRS HRR
    unfold evA at HRS HRR
    simp only at HRS HRR
    clear hF
    go_wp2_with fail
    refine (HL1.out X2 HEX2.out).mono ?_
    rintro e X3 ⟨rfl, hb⟩
    have HB3 := Lib.hid (HBX2.out.trans (hb.mono HBX2.out.size))
    have HE3 := Lib.hid (HEX2.out.below hb)
    have HK3 := Lib.hid (HKX2.out.below hb HKX2.out.lt)
    clear hb e0 e1 e2 e3 e4 HL1
    obtain ⟨e0, e1, e2, e3, e4⟩ : X3.cell? ⟨w.heap.size, 0, none⟩ = some (.int .u64 (n : Int)) ∧ X3.cell? ⟨w.heap.size, 1, none⟩ = some (.int .u64 (tk : Int)) ∧ X3.cell? ⟨w.heap.size, 2, none⟩ = some (str K2) ∧ X3.cell? ⟨w.heap.size, 3, none⟩ = some (.int .i64 cn) ∧ X3.cell? ⟨w.heap.size, 4, none⟩ = some (str T2) := ⟨HK3.out.at (o := 0) rfl, HK3.out.at (o := 1) rfl, HK3.out.at (o := 2) rfl, HK3.out.at (o := 3) rfl, HK3.out.at (o := 4) rfl⟩
    go_wp2_with fail
    refine (HL2.out X3).mono ?_
    rintro e X4 ⟨rfl, hb⟩
    have HB4 := Lib.hid (HB3.out.trans (hb.mono HB3.out.size))
    have HE4 := Lib.hid (HE3.out.below hb)
    have HK4 := Lib.hid (HK3.out.below hb HK3.out.lt)
    clear hb e0 e1 e2 e3 e4 HL2
    obtain ⟨e0, e1, e2, e3, e4⟩ : X4.cell? ⟨w.heap.size, 0, none⟩ = some (.int .u64 (n : Int)) ∧ X4.cell? ⟨w.heap.size, 1, none⟩ = some (.int .u64 (tk : Int)) ∧ X4.cell? ⟨w.heap.size, 2, none⟩ = some (str K2) ∧ X4.cell? ⟨w.heap.size, 3, none⟩ = some (.int .i64 cn) ∧ X4.cell? ⟨w.heap.size, 4, none⟩ = some (str T2) := ⟨HK4.out.at (o := 0) rfl, HK4.out.at (o := 1) rfl, HK4.out.at (o := 2) rfl, HK4.out.at (o := 3) rfl, HK4.out.at (o := 4) rfl⟩
    rcases hz with ⟨rfl, hrl⟩ | rfl
    · rw [hrl, HEA.out] at HRE
      simp only at HRE
      clear hrl
      go_wp2_with fail
      refine (HRE.out X4 HE4.out).mono ?_
      rintro e X5 ⟨rfl, hb⟩
      have HB5 := Lib.hid (HB4.out.trans (hb.mono HB4.out.size))
      have HE5 := Lib.hid (HE4.out.below hb)
      have hk5 := HK4.out.below hb HK4.out.lt
      clear hb e0 e1 e2 e3 e4 HRE
      obtain ⟨e0, e1, e2, e3, e4⟩ : X5.cell? ⟨w.heap.size, 0, none⟩ = some (.int .u64 (n : Int)) ∧ X5.cell? ⟨w.heap.size, 1, none⟩ = some (.int .u64 (tk : Int)) ∧ X5.cell? ⟨w.heap.size, 2, none⟩ = some (str K2) ∧ X5.cell? ⟨w.heap.size, 3, none⟩ = some (.int .i64 cn) ∧ X5.cell? ⟨w.heap.size, 4, none⟩ = some (str T2) := ⟨hk5.at (o := 0) rfl, hk5.at (o := 1) rfl, hk5.at (o := 2) rfl, hk5.at (o := 3) rfl, hk5.at (o := 4) rfl⟩
      have hlt5 := hk5.lt
      clear hk5
      go_wp2_with fail
      obtain ⟨Y5, hY5⟩ : ∃ Y5, Y5 = X5.alloc (.cells #[.int .u64 (n : Int), .int .u64 (tk : Int), str K2, .int .i64 cn, str T2] 29) := ⟨_, rfl⟩
      have hyb : Below X5.heap.size X5 Y5 := by rw [hY5]; exact (Below.refl _ _).alloc (Nat.le_refl _) _
      have HBY5 := Lib.hid (HB5.out.trans (hyb.mono HB5.out.size))
      have HEY5 := Lib.hid (HE5.out.below hyb)
      rw [← hY5]
      clear hyb hY5 e0 e1 e2 e3 e4
      refine (HRS.out Y5 HEY5.out).mono ?_
      rintro e X6 ⟨rfl, hb⟩
      have HB6 := Lib.hid (HBY5.out.trans (hb.mono HBY5.out.size))
      clear hb HRS
      go_wp2_with fail
      obtain ⟨Y6, hY6⟩ : ∃ Y6, Y6 = X6.alloc (.cells #[.int .u64 (fn : Int), .int .u64 (ft : Int), str fk, .int .i64 fc, str fx] 29) := ⟨_, rfl⟩
      have hyb : Below X6.heap.size X6 Y6 := by rw [hY6]; exact (Below.refl _ _).alloc (Nat.le_refl _) _
      have HBY := Lib.hid (HB6.out.trans (hyb.mono HB6.out.size))
      have HKY := Lib.hid (show Blk Y6 X6.heap.size [.int .u64 (fn : Int), .int .u64 (ft : Int), str fk, .int .i64 fc, str fx] from by rw [hY6]; exact Blk.new X6 _ _)
      rw [← hY6]
      clear hyb hY6
      refine (HRR.out Y6).mono ?_
      rintro e X7 ⟨rfl, hb⟩
      have HB7 := Lib.hid (HBY.out.trans (hb.mono HBY.out.size))
      have hk7 := HKY.out.below hb HKY.out.lt
      have hlt7 := hk7.lt
      clear hb HRR
      obtain ⟨d0, d1, d2, d3, d4⟩ : X7.cell? ⟨X6.heap.size, 0, none⟩ = some (.int .u64 (fn : Int)) ∧ X7.cell? ⟨X6.heap.size, 1, none⟩ = some (.int .u64 (ft : Int)) ∧ X7.cell? ⟨X6.heap.size, 2, none⟩ = some (str fk) ∧ X7.cell? ⟨X6.heap.size, 3, none⟩ = some (.int .i64 fc) ∧ X7.cell? ⟨X6.heap.size, 4, none⟩ = some (str fx) := ⟨hk7.at (o := 0) rfl, hk7.at (o := 1) rfl, hk7.at (o := 2) rfl, hk7.at (o := 3) rfl, hk7.at (o := 4) rfl⟩
      clear hk7
      go_wp2_with fail
      go_ret
      exact ⟨rfl, HB7.out.alloc HB7.out.size _⟩
    · clear HRE e0 e1 e2 e3 e4
      go_wp2_with fail
      refine (HRS.out X4 HE4.out).mono ?_
      rintro e X6 ⟨rfl, hb⟩
      have HB6 := Lib.hid (HB4.out.trans (hb.mono HB4.out.size))
      clear hb HRS
      go_wp2_with fail
      obtain ⟨Y6, hY6⟩ : ∃ Y6, Y6 = X6.alloc (.cells #[.int .u64 (fn : Int), .int .u64 (ft : Int), str fk, .int .i64 fc, str fx] 29) := ⟨_, rfl⟩
      have hyb : Below X6.heap.size X6 Y6 := by rw [hY6]; exact (Below.refl _ _).alloc (Nat.le_refl _) _
      have HBY := Lib.hid (HB6.out.trans (hyb.mono HB6.out.size))
      have HKY := Lib.hid (show Blk Y6 X6.heap.size [.int .u64 (fn : Int), .int .u64 (ft : Int), str fk, .int .i64 fc, str fx] from by rw [hY6]; exact Blk.new X6 _ _)
      rw [← hY6]
      clear hyb hY6
      refine (HRR.out Y6).mono ?_
      rintro e X7 ⟨rfl, hb⟩
      have HB7 := Lib.hid (HBY.out.trans (hb.mono HBY.out.size))
      have hk7 := HKY.out.below hb HKY.out.lt
      have hlt7 := hk7.lt
      clear hb HRR
      obtain ⟨d0, d1, d2, d3, d4⟩ : X7.cell? ⟨X6.heap.size, 0, none⟩ = some (.int .u64 (fn : Int)) ∧ X7.cell? ⟨X6.heap.size, 1, none⟩ = some (.int .u64 (ft : Int)) ∧ X7.cell? ⟨X6.heap.size, 2, none⟩ = some (str fk) ∧ X7.cell? ⟨X6.heap.size, 3, none⟩ = some (.int .i64 fc) ∧ X7.cell? ⟨X6.heap.size, 4, none⟩ = some (str fx) := ⟨hk7.at (o := 0) rfl, hk7.at (o := 1) rfl, hk7.at (o := 2) rfl, hk7.at (o := 3) rfl, hk7.at (o := 4) rfl⟩
      clear hk7
      go_wp2_with fail
      go_ret
      exact ⟨rfl, HB7.out.alloc HB7.out.size _⟩
end Go.Proofs.YtoehkhbppmgfkaaGreatDoor
