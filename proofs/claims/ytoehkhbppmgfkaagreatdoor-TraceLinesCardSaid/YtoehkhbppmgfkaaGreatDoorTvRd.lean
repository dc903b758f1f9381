/- trace: the program's Read, at every text. -/
import Derived.Test.YtoehkhbppmgfkaaGreatDoorTvLi
import Derived.Test.YtoehkhbppmgfkaaGreatDoorHdEnv
import Derived.Lib.AtoiErrMem
import Derived.Lib.AtoiAllCases
set_option maxRecDepth 100000
namespace Go.Proofs.YtoehkhbppmgfkaaGreatDoor
open Go.RowKit Go.Shelf
attribute [local go_sem] Oper.semAt_some
theorem pu_any (s : List UInt8) (w : World) (hE : Env w) (hs : s.length ≤ 100000) :
    Calls Tryz.prog 23 #[str s, .int .i64 10, .int .i64 64] w fun e w' => (∃ v, e = .returned (.tuple #[.int .u64 (uz s : Int), v])) ∧ Below w.heap.size w w' := by
  unfold uz
  rcases ends (Lib.parseUintB 64 s) with ⟨v, hat⟩ | hat | hat
  · rw [hat]
    refine (Tryz.strconv_ParseUint_10_at64_ok ⟨s.toArray⟩ (by simp [ByteArray.size]; omega) v (by simpa using hat) w).mono ?_
    rintro e w' ⟨rfl, rfl | rfl⟩
    · exact ⟨⟨_, rfl⟩, Below.refl _ _⟩
    · exact ⟨⟨_, rfl⟩, Lib.bytesWorld_below w _ _⟩
  · rw [hat]
    obtain ⟨ev, h1, h2⟩ := hE.syn
    refine (Tryz.strconv_ParseUint_10_at64_syntax ⟨s.toArray⟩ (by simp [ByteArray.size]; omega) (by simpa using hat) ev w h1 h2).mono ?_
    rintro e w' ⟨N, rfl, _, _, hb⟩
    exact ⟨⟨_, rfl⟩, hb⟩
  · rw [hat]
    obtain ⟨ev, h1, h2⟩ := hE.rng
    refine (Tryz.strconv_ParseUint_10_at64_range ⟨s.toArray⟩ (by simp [ByteArray.size]; omega) (by simpa using hat) ev w h1 h2).mono ?_
    rintro e w' ⟨N, rfl, _, _, hb⟩
    exact ⟨⟨_, rfl⟩, hb⟩
theorem at_any (s : List UInt8) (w : World) (hE : Env w) (hs : s.length ≤ 100000) :
    Calls Tryz.prog 24 #[str s] w fun e w' => (∃ v, e = .returned (.tuple #[.int .i64 (az s), v])) ∧ Below w.heap.size w w' := by
  unfold az
  rcases ends (Lib.atoiAll s) with ⟨v, hat⟩ | hat | hat
  · rw [hat]
    refine (Tryz.strconv_Atoi_ok ⟨s.toArray⟩ (by simp [ByteArray.size]; omega) v (by simpa using hat) w).mono ?_
    rintro e w' ⟨rfl, rfl | ⟨t, rfl⟩⟩
    · exact ⟨⟨_, rfl⟩, Below.refl _ _⟩
    · exact ⟨⟨_, rfl⟩, Lib.bytesWorld_below w _ t⟩
  · rw [hat]
    obtain ⟨ev, h1, h2⟩ := hE.syn
    refine (Tryz.strconv_Atoi_syntax ⟨s.toArray⟩ (by simp [ByteArray.size]; omega) (by simpa using hat) ev w h1 h2).mono ?_
    rintro e w' ⟨N, rfl, _, _, hb⟩
    exact ⟨⟨_, rfl⟩, hb⟩
  · rw [hat]
    obtain ⟨ev, h1, h2⟩ := hE.rng
    refine (Tryz.strconv_Atoi_range ⟨s.toArray⟩ (by simp [ByteArray.size]; omega) (by simpa using hat) ev w h1 h2).mono ?_
    rintro e w' ⟨N, rfl, _, _, hb⟩
    exact ⟨⟨_, rfl⟩, hb⟩
/-- The parts of a line: as many as there are, in a new row. -/
theorem splitN_any (s : List UInt8) (w : World) (hE : Env w) (hs : s.length ≤ 100000) :
    Calls Tryz.prog 22 #[str s, str [32], .int .i64 5] w fun e w' => ∃ c, e = .returned (.slice (some ⟨w.heap.size, 0, none⟩) (Lib.splitN s [32] 5).length c) ∧ Below w.heap.size w w' ∧
      (∀ a b x d f, Lib.splitN s [32] 5 = [a, b, x, d, f] → c = 5 ∧ Blk w' w.heap.size [str a, str b, str x, str d, str f]) := by
  obtain ⟨m, hm⟩ := hE.looks
  refine (Tryz.strings_SplitN ⟨s.toArray⟩ ⟨#[32]⟩ 5 m w (by simp [ByteArray.size]; omega) hm (by decide) (by decide) (by decide)).mono ?_
  have hz : (ByteArray.mk s.toArray).size = s.length := by simp [ByteArray.size]
  have hd := Lib.splitB_data ⟨#[32]⟩ 0 (min 5 ((ByteArray.mk s.toArray).size + 1) - 1) ⟨s.toArray⟩
  rw [hz] at hd
  have hd2 : (Lib.splitB ⟨#[32]⟩ 0 (min 5 (s.length + 1) - 1) ⟨s.toArray⟩).map (·.data.toList) = Lib.splitN s [32] 5 := by
    rw [hd]; rfl
  have hle := Lib.splitB_length_le ⟨#[32]⟩ 0 (min 5 (s.length + 1) - 1) ⟨s.toArray⟩
  rintro e w' ⟨rfl, rfl⟩
  rw [hz]
  generalize Lib.splitB ⟨#[32]⟩ 0 (min 5 (s.length + 1) - 1) ⟨s.toArray⟩ = L at hd2 hle ⊢
  refine ⟨min 5 (s.length + 1), ?_, (Below.refl _ w).alloc (Nat.le_refl _) _, ?_⟩
  · rw [← hd2, List.length_map]
  · intro a b x d f h
    rw [h] at hd2
    have hl : L.length = 5 := by have := congrArg List.length hd2; simpa using this
    have h5 : min 5 (s.length + 1) = 5 := by omega
    refine ⟨h5, ?_⟩
    rw [h5]
    have hc : Lib.cellsOf L 5 = #[str a, str b, str x, str d, str f] := by
      rw [← hl, Lib.cellsOf_full]
      obtain ⟨a', b', x', d', f', rfl⟩ := five hl
      simp only [List.map_cons, List.map_nil, List.cons.injEq, and_true] at hd2
      obtain ⟨rfl, rfl, rfl, rfl, rfl⟩ := hd2
      rfl
    rw [hc]
    exact Blk.newA w _ _
theorem splitK_mem (c : UInt8) : ∀ (k : Nat) (s : List UInt8), ∀ p ∈ Lib.splitK [c] 0 k s, p.length ≤ s.length
  | 0, s, p, h => by
    rw [Lib.splitK, List.mem_singleton] at h
    rw [h]; exact Nat.le_refl _
  | k + 1, s, p, h => by
    rw [Lib.splitK] at h
    split at h
    · rw [List.mem_singleton] at h
      rw [h]; exact Nat.le_refl _
    · rcases List.mem_cons.1 h with rfl | h
      · rw [List.length_take]; omega
      · have := splitK_mem c k _ p h
        rw [List.length_drop] at this
        omega
theorem splitN_len (s : List UInt8) (ps : List (List UInt8)) (h : ps = Lib.splitN s [32] 5) : ∀ p ∈ ps, p.length ≤ s.length := by
  rw [h]; exact splitK_mem 32 _ s
abbrev put5 (W : World) (b : Nat) (x0 x1 x2 x3 x4 : Value) : World := ((((W.setCell ⟨b, 0, none⟩ x0).setCell ⟨b, 1, none⟩ x1).setCell ⟨b, 2, none⟩ x2).setCell ⟨b, 3, none⟩ x3).setCell ⟨b, 4, none⟩ x4
theorem put5_below {w W : World} {B b : Nat} (h : Below B w W) (hb : B ≤ b) (x0 x1 x2 x3 x4 : Value) : Below B w (put5 W b x0 x1 x2 x3 x4) :=
  ((((h.setCell (p := ⟨b, 0, none⟩) hb _).setCell (p := ⟨b, 1, none⟩) hb _).setCell (p := ⟨b, 2, none⟩) hb _).setCell (p := ⟨b, 3, none⟩) hb _).setCell (p := ⟨b, 4, none⟩) hb _
theorem Env.powE {w : World} (h : Env w) : PowE w := ⟨h.pow, h.low⟩
theorem rdP_five (a b x d f : List UInt8) : rdP [a, b, x, d, f] = ⟨uz a, uz b, x, az d, (decH f).1⟩ := rfl
set_option maxHeartbeats 4000000 in
theorem read_any (s : List UInt8) (w : World) (hE : Env w) (hs : s.length ≤ 600) :
    Calls Tryz.prog 8 #[str s] w fun e w' => e = .returned (.tuple #[evA (rdL s).1, .int .i64 (rdL s).2]) ∧ Below w.heap.size w w' := by
  obtain ⟨W, hW⟩ : ∃ W, W = w.alloc (.cells #[.int .u64 0, .int .u64 0, str [], .int .i64 0, str []] 29) := ⟨_, rfl⟩
  have hB0 : Below w.heap.size w W := by rw [hW]; exact (Below.refl _ w).alloc (Nat.le_refl _) _
  have HB0 := Lib.hid hB0
  have HE0 := Lib.hid (hE.below hB0)
  have HK0 := Lib.hid (show Blk W w.heap.size [.int .u64 0, .int .u64 0, str [], .int .i64 0, str []] from by rw [hW]; exact Blk.new w _ _)
  have HSP := Lib.hid (splitN_any s W (hE.below hB0) (by omega))
  have hzW : W.heap.size = w.heap.size + 1 := by rw [hW]; simp
  clear hE hB0
  obtain ⟨R, hR⟩ : ∃ R, R = rdL s := ⟨_, rfl⟩
  have HR := Lib.hid hR
  rw [← hR]
  clear hR
  go_enter Tryz.func8, Tryz.ntmps8
  go_wp2_with fail
  rw [← hW]
  refine HSP.out.mono ?_
  rintro e w1 ⟨c, rfl, hb, hcs⟩
  have HB1 := Lib.hid (HB0.out.trans (hb.mono HB0.out.size))
  have HK1 := Lib.hid (HK0.out.below hb HK0.out.lt)
  have HE1 := Lib.hid (HE0.out.below hb)
  obtain ⟨ps, hps⟩ : ∃ ps, ps = Lib.splitN s [32] 5 := ⟨_, rfl⟩
  rw [← hps] at hcs ⊢
  have HPS := Lib.hid hps
  have HCS := Lib.hid hcs
  clear hb hps hcs HSP hW HB0 HK0 HE0
  by_cases hl : ps.length = 5
  · obtain ⟨a, b, x, d, f, rfl⟩ := five hl
    obtain ⟨rfl, hkb⟩ := HCS.out a b x d f rfl
    have HKB1 := Lib.hid hkb
    have HLL := Lib.hid (splitN_len s [a, b, x, d, f] HPS.out)
    have HZ1 := Lib.hid (show W.heap.size = w.heap.size + 1 from hzW)
    have HPA := Lib.hid (fun W h => pu_any a W h (by have := HLL.out a (by simp); omega))
    have HPB := Lib.hid (fun W h => pu_any b W h (by have := HLL.out b (by simp); omega))
    have HPD := Lib.hid (fun W h => at_any d W h (by have := HLL.out d (by simp); omega))
    have HPF := Lib.hid (fun W => unhex_any f W (by have := HLL.out f (by simp); omega))
    have HXL := Lib.hid (show x.length ≤ 600 from by have := HLL.out x (by simp); omega)
    obtain ⟨N0, hN0⟩ : ∃ N0, N0 = uz a := ⟨_, rfl⟩
    obtain ⟨N1, hN1⟩ : ∃ N1, N1 = uz b := ⟨_, rfl⟩
    obtain ⟨C0, hC0⟩ : ∃ C0, C0 = az d := ⟨_, rfl⟩
    obtain ⟨T0, hT0⟩ : ∃ T0, T0 = (decH f).1 := ⟨_, rfl⟩
    have HEV := Lib.hid (show rdP [a, b, x, d, f] = ⟨N0, N1, x, C0, T0⟩ from by rw [hN0, hN1, hC0, hT0]; rfl)
    rw [← hN0] at HPA
    rw [← hN1] at HPB
    rw [← hC0] at HPD
    rw [← hT0] at HPF
    have p0 := hkb.at (o := 0) rfl
    clear hkb hl HCS hN0 hN1 hC0 hT0 HLL hzW
    go_wp2_with fail
    refine (HPA.out w1 HE1.out).mono ?_
    rintro e w2 ⟨⟨v0, rfl⟩, hb⟩
    have HB2 := Lib.hid (HB1.out.trans (hb.mono HB1.out.size))
    have HE2 := Lib.hid (HE1.out.below hb)
    have HK2 := Lib.hid (HK1.out.below hb HK1.out.lt)
    have HKB2 := Lib.hid (HKB1.out.below hb HKB1.out.lt)
    have p1 := HKB2.out.at (o := 1) rfl
    clear hb p0 HB1 HE1 HK1 HKB1 HPA
    go_wp2_with fail
    refine (HPB.out w2 HE2.out).mono ?_
    rintro e w3 ⟨⟨v1, rfl⟩, hb⟩
    have HB3 := Lib.hid (HB2.out.trans (hb.mono HB2.out.size))
    have HE3 := Lib.hid (HE2.out.below hb)
    have HK3 := Lib.hid (HK2.out.below hb HK2.out.lt)
    have HKB3 := Lib.hid (HKB2.out.below hb HKB2.out.lt)
    have p3 := HKB3.out.at (o := 3) rfl
    clear hb p1 HB2 HE2 HK2 HKB2 HPB
    go_wp2_with fail
    refine (HPD.out w3 HE3.out).mono ?_
    rintro e w4 ⟨⟨v3, rfl⟩, hb⟩
    have HB4 := Lib.hid (HB3.out.trans (hb.mono HB3.out.size))
    have HE4 := Lib.hid (HE3.out.below hb)
    have HK4 := Lib.hid (HK3.out.below hb HK3.out.lt)
    have HKB4 := Lib.hid (HKB3.out.below hb HKB3.out.lt)
    have p4 := HKB4.out.at (o := 4) rfl
    clear hb p3 HB3 HE3 HK3 HKB3 HPD
    go_wp2_with fail
    refine (HPF.out w4).mono ?_
    rintro e w5 ⟨vu, rfl, hO, hb⟩
    have hb5 := HB4.out.trans (hb.mono HB4.out.size)
    have he5 := HE4.out.below hb
    have hk5 := HK4.out.below hb HK4.out.lt
    have hkb5 := HKB4.out.below hb HKB4.out.lt
    have hz4 : w.heap.size < w4.heap.size := HK4.out.lt
    have hz5 := hb.size
    clear hb p4 HB4 HE4 HK4 HKB4 HPF
    go_wp2_with fail
    refine wp_region_noPanic ?_
    refine wp_region_held (S := fun W' => W'.cell? ⟨W.heap.size, 2, none⟩ = some (str x) ∧ (convert 49 9 vu).run Tryz.prog W' = .ok (str T0) W') (by kernel_rfl) ?_
    change wpAnyH _ _ _ _ _ _ _ _ (World.drew _)
    obtain ⟨X0, hX0⟩ : ∃ V, V = World.drew w5 := ⟨_, rfl⟩
    have hzX : X0.heap.size = w5.heap.size := by rw [hX0]; rfl
    have HBX := Lib.hid (show Below w.heap.size w X0 from by rw [hX0]; exact hb5.drew)
    have HEX := Lib.hid (show Env X0 from by rw [hX0]; exact he5.below (Below.refl _ _).drew)
    have HKX := Lib.hid (show Blk X0 w.heap.size _ from by rw [hX0]; exact hk5.drew)
    have HKBX := Lib.hid (show Blk X0 W.heap.size _ from by rw [hX0]; exact hkb5.drew)
    have HSX := Lib.hid (show Sl X0 X0.heap.size vu T0 from by rw [hX0]; exact hO.sl.below (Below.refl _ _).drew (Nat.le_refl _))
    rw [← hX0]
    have HZX := Lib.hid (show w.heap.size ≠ X0.heap.size from by omega)
    clear hX0 hb5 he5 hk5 hkb5 hO hzX hz4 hz5
    have HX := Lib.hid (show X0.cell? ⟨W.heap.size, 2, none⟩ = some (str x) ∧ (convert 49 9 vu).run Tryz.prog X0 = .ok (str T0) X0 from ⟨HKBX.out.at (o := 2) rfl, conv_sl HSX.out⟩)
    refine takeH 0 50 (.int .u64 (N0 : Int)) rfl rfl (by kernel_rfl) (by kernel_rfl) (by kernel_rfl) (fun _ _ _ h => h) rfl (fun w' h => by obtain ⟨h0, h1⟩ := h; go_simp) HX.out ?_
    go_frame
    refine takeH 1 51 (.int .u64 (N1 : Int)) rfl rfl (by kernel_rfl) (by kernel_rfl) (by kernel_rfl) (fun _ _ _ h => h) rfl (fun w' h => by obtain ⟨h0, h1⟩ := h; go_simp) HX.out ?_
    go_frame
    refine takeH 2 52 (.slice (some ⟨W.heap.size, 0, none⟩) 5 5) rfl rfl (by kernel_rfl) (by kernel_rfl) (by kernel_rfl) (fun _ _ _ h => h) rfl (fun w' h => by obtain ⟨h0, h1⟩ := h; go_simp) HX.out ?_
    go_frame
    refine takeH 3 53 (.pointer (some ⟨W.heap.size, 2, none⟩)) rfl rfl (by kernel_rfl) (by kernel_rfl) (by kernel_rfl) (fun _ _ _ h => h) rfl (fun w' h => by obtain ⟨h0, h1⟩ := h; go_simp) HX.out ?_
    go_frame
    refine takeH 4 54 (str x) rfl rfl (by kernel_rfl) (by kernel_rfl) (by kernel_rfl) (fun _ _ _ h => h) rfl (fun w' h => by obtain ⟨h0, h1⟩ := h; go_simp) HX.out ?_
    go_frame
    refine takeH 5 55 (.int .i64 C0) rfl rfl (by kernel_rfl) (by kernel_rfl) (by kernel_rfl) (fun _ _ _ h => h) rfl (fun w' h => by obtain ⟨h0, h1⟩ := h; go_simp) HX.out ?_
    go_frame
    refine takeH 6 56 (vu) rfl rfl (by kernel_rfl) (by kernel_rfl) (by kernel_rfl) (fun _ _ _ h => h) rfl (fun w' h => by obtain ⟨h0, h1⟩ := h; go_simp) HX.out ?_
    go_frame
    refine takeH 7 57 (str T0) rfl rfl (by kernel_rfl) (by kernel_rfl) (by kernel_rfl) (fun _ _ _ h => h) rfl (fun w' h => by obtain ⟨h0, h1⟩ := h; go_simp) HX.out ?_
    go_frame
    refine takeH 8 58 (.agg #[.int .u64 (N0 : Int), .int .u64 (N1 : Int), str x, .int .i64 C0, str T0]) rfl rfl (by kernel_rfl) (by kernel_rfl) (by kernel_rfl) (fun _ _ _ h => h) rfl (fun w' h => by obtain ⟨h0, h1⟩ := h; go_simp) HX.out ?_
    go_frame
    obtain ⟨X1, hX1⟩ : ∃ V, V = X0.alloc (.cells #[.int .u64 0, .int .u64 0, str [], .int .i64 0, str []] 29) := ⟨_, rfl⟩
    have hb1 : Below X0.heap.size X0 X1 := by rw [hX1]; exact (Below.refl _ _).alloc (Nat.le_refl _) _
    have HB1 := Lib.hid (HBX.out.trans (hb1.mono HBX.out.size))
    have HE1 := Lib.hid (HEX.out.below hb1)
    have HK1 := Lib.hid (HKX.out.below hb1 HKX.out.lt)
    have HKB1 := Lib.hid (HKBX.out.below hb1 HKBX.out.lt)
    have HN1 := Lib.hid (show Blk X1 X0.heap.size [.int .u64 0, .int .u64 0, str [], .int .i64 0, str []] from by rw [hX1]; exact Blk.new X0 _ _)
    have HX1 := Lib.hid (show X1.cell? ⟨W.heap.size, 2, none⟩ = some (str x) ∧ (convert 49 9 vu).run Tryz.prog X1 = .ok (str T0) X1 from ⟨HKB1.out.at (o := 2) rfl, conv_sl (HSX.out.below hb1 (Nat.le_refl _))⟩)
    have HB01 := Lib.hid hb1
    clear hb1
    refine wpAnyH_all (rs := [9]) (by kernel_rfl) (by simp) ?_
    simp only [List.mem_singleton, forall_eq]
    refine wpOp_valueX 13 rfl rfl rfl (.pointer (some ⟨X0.heap.size, 0, none⟩)) X1 (by rw [hX1]; go_simp) ⟨HX1.out, ?_⟩
    go_frame
    clear hX1
    obtain ⟨X2, hX2⟩ : ∃ V, V = X1.setCells X0.heap.size 0 [.int .u64 (N0 : Int), .int .u64 (N1 : Int), str x, .int .i64 C0, str T0] := ⟨_, rfl⟩
    refine wpAnyH_all (rs := [10]) (by kernel_rfl) (by simp) ?_
    simp only [List.mem_singleton, forall_eq]
    refine wpOp_storeN rfl rfl rfl 29 (.tmp 13) (.tmp 58) rfl X0.heap.size 0 #[.int .u64 (N0 : Int), .int .u64 (N1 : Int), str x, .int .i64 C0, str T0] rfl rfl ?_ (by kernel_rfl) (by kernel_rfl) ?_
    · exact HN1.out.there 0 5 (by decide)
    · have hne := HZX.out
      have HN2 := Lib.hid (show Blk X2 X0.heap.size [.int .u64 (N0 : Int), .int .u64 (N1 : Int), str x, .int .i64 C0, str T0] from by rw [hX2]; exact HN1.out.setAll rfl)
      have hg2 : X1.grownBy X2 (some X0.heap.size) := by rw [hX2]; exact grown_setCells _ _ _ _
      have HB2 := Lib.hid (show Below w.heap.size w X2 from by rw [hX2]; exact below_setCells HBX.out.size _ HB1.out _)
      have HK2 := Lib.hid (HK1.out.grown hg2 (fun e => hne (Option.some.inj e)))
      have hb02 : Below X0.heap.size X0 X2 := by rw [hX2]; exact below_setCells (Nat.le_refl _) _ HB01.out _
      have HE2 := Lib.hid (show Env X2 from HEX.out.below hb02)
      rw [show X1.setCells X0.heap.size 0 (#[Value.int .u64 (N0 : Int), .int .u64 (N1 : Int), str x, .int .i64 C0, str T0] : Array Value).toList = X2 from hX2.symm]
      have HX2 := Lib.hid (show X2.cell? ⟨W.heap.size, 2, none⟩ = some (str x) ∧ (convert 49 9 vu).run Tryz.prog X2 = .ok (str T0) X2 from ⟨(HKBX.out.below hb02 HKBX.out.lt).at (o := 2) rfl, conv_sl (HSX.out.below hb02 (Nat.le_refl _))⟩)
      clear hX2 hg2 hb02
      refine ⟨HX2.out, ?_⟩
      refine wpAnyH_done (by kernel_rfl) ?_ _
      refine NoPanic.normal ?_
      obtain ⟨e0, e1, e2, e3, e4⟩ : X2.cell? ⟨X0.heap.size, 0, none⟩ = some (.int .u64 (N0 : Int)) ∧ X2.cell? ⟨X0.heap.size, 1, none⟩ = some (.int .u64 (N1 : Int)) ∧ X2.cell? ⟨X0.heap.size, 2, none⟩ = some (str x) ∧ X2.cell? ⟨X0.heap.size, 3, none⟩ = some (.int .i64 C0) ∧ X2.cell? ⟨X0.heap.size, 4, none⟩ = some (str T0) := ⟨HN2.out.at (o := 0) rfl, HN2.out.at (o := 1) rfl, HN2.out.at (o := 2) rfl, HN2.out.at (o := 3) rfl, HN2.out.at (o := 4) rfl⟩
      obtain ⟨E, hE⟩ : ∃ E : EvL, E = ⟨N0, N1, x, C0, T0⟩ := ⟨_, rfl⟩
      have hea : evA E = .agg #[.int .u64 (N0 : Int), .int .u64 (N1 : Int), str x, .int .i64 C0, str T0] := by rw [hE]; rfl
      rw [← hE] at HEV
      have hrd : Lib.splitN s [32] 5 = [a, b, x, d, f] := HPS.out.symm
      have hkk : E.kind.length ≤ 600 := by rw [hE]; exact HXL.out
      have hkz : w.heap.size < X2.heap.size := HK2.out.lt
      by_cases ho : E.Ok
      · have HLN := Lib.hid (evLine_ok E ho X2 HE2.out.powE)
        rw [hea] at HLN
        obtain ⟨L, hL⟩ : ∃ L, L = evLine E := ⟨_, rfl⟩
        rw [← hL] at HLN
        by_cases hq : L = s
        · have hz : R = (E, 0) := by
            rw [HR.out, rdL_ok ⟨by rw [hrd]; rfl, by rw [hrd, HEV.out]; exact ho, by rw [hrd, HEV.out, ← hL]; exact hq⟩, hrd, HEV.out]
          subst hz
          subst hq
          have HEA := Lib.hid hea
          clear hL hE hea HEV HR ho hkk hrd
          go_wp2_with fail
          refine HLN.out.mono ?_
          rintro e X3 ⟨rfl, hb⟩
          have HB3 := Lib.hid (HB2.out.trans (hb.mono HB2.out.size))
          have hk3 := HK2.out.below hb hkz
          have hn3 := HN2.out.below hb HN2.out.lt
          obtain ⟨g0, g1, g2, g3, g4⟩ : X3.cell? ⟨X0.heap.size, 0, none⟩ = some (.int .u64 (N0 : Int)) ∧ X3.cell? ⟨X0.heap.size, 1, none⟩ = some (.int .u64 (N1 : Int)) ∧ X3.cell? ⟨X0.heap.size, 2, none⟩ = some (str x) ∧ X3.cell? ⟨X0.heap.size, 3, none⟩ = some (.int .i64 C0) ∧ X3.cell? ⟨X0.heap.size, 4, none⟩ = some (str T0) := ⟨hn3.at (o := 0) rfl, hn3.at (o := 1) rfl, hn3.at (o := 2) rfl, hn3.at (o := 3) rfl, hn3.at (o := 4) rfl⟩
          obtain ⟨k0, k1, k2, k3, k4⟩ : X3.cell? ⟨w.heap.size, 0, none⟩ = some (.int .u64 0) ∧ X3.cell? ⟨w.heap.size, 1, none⟩ = some (.int .u64 0) ∧ X3.cell? ⟨w.heap.size, 2, none⟩ = some (str []) ∧ X3.cell? ⟨w.heap.size, 3, none⟩ = some (.int .i64 0) ∧ X3.cell? ⟨w.heap.size, 4, none⟩ = some (str []) := ⟨hk3.at (o := 0) rfl, hk3.at (o := 1) rfl, hk3.at (o := 2) rfl, hk3.at (o := 3) rfl, hk3.at (o := 4) rfl⟩
          have f0 := hk3.free 0
          have f1 := hk3.free 1
          have f2 := hk3.free 2
          have f3 := hk3.free 3
          have f4 := hk3.free 4
          have hlt := hk3.lt
          clear hb e0 e1 e2 e3 e4 HLN hk3 hn3 HK2 HN2 HE2 HX2 hkz
          go_wp2_with fail
          exact bodyPost_ret (v := .tuple #[.agg #[.int .u64 (N0 : Int), .int .u64 (N1 : Int), str x, .int .i64 C0, str T0], .int .i64 0]) (by simp [results, Tryz.results8, go_sem, k0, k1, k2, k3, k4]) rfl
            ⟨by rw [HEA.out], put5_below HB3.out (Nat.le_refl _) _ _ _ _ _⟩
        · have hz : R = (⟨0, 0, [], 0, []⟩, 4) := by
            rw [HR.out]
            exact rdL_no (fun q => hq (by have := q.2.2; rw [hrd, HEV.out, ← hL] at this; exact this))
          subst hz
          have dq : (L == s) = false := beq_eq_false_iff_ne.2 hq
          clear hL hE hea HEV HR ho hkk hrd hq
          go_wp2_with fail
          refine HLN.out.mono ?_
          rintro e X3 ⟨rfl, hb⟩
          have HB3 := Lib.hid (HB2.out.trans (hb.mono HB2.out.size))
          have hk3 := HK2.out.below hb hkz
          obtain ⟨k0, k1, k2, k3, k4⟩ : X3.cell? ⟨w.heap.size, 0, none⟩ = some (.int .u64 0) ∧ X3.cell? ⟨w.heap.size, 1, none⟩ = some (.int .u64 0) ∧ X3.cell? ⟨w.heap.size, 2, none⟩ = some (str []) ∧ X3.cell? ⟨w.heap.size, 3, none⟩ = some (.int .i64 0) ∧ X3.cell? ⟨w.heap.size, 4, none⟩ = some (str []) := ⟨hk3.at (o := 0) rfl, hk3.at (o := 1) rfl, hk3.at (o := 2) rfl, hk3.at (o := 3) rfl, hk3.at (o := 4) rfl⟩
          have f0 := hk3.free 0
          have f1 := hk3.free 1
          have f2 := hk3.free 2
          have f3 := hk3.free 3
          have f4 := hk3.free 4
          have hlt := hk3.lt
          clear hb e0 e1 e2 e3 e4 HLN hk3 HK2 HN2 HE2 HX2 hkz
          go_wp2_with fail
          exact bodyPost_ret (v := .tuple #[.agg #[.int .u64 0, .int .u64 0, str [], .int .i64 0, str []], .int .i64 4]) (by simp [results, Tryz.results8, go_sem, k0, k1, k2, k3, k4]) rfl
            ⟨rfl, put5_below HB3.out (Nat.le_refl _) _ _ _ _ _⟩
      · have hz : R = (⟨0, 0, [], 0, []⟩, 4) := by
          rw [HR.out]
          exact rdL_no (fun q => ho (by have := q.2.1; rw [hrd, HEV.out] at this; exact this))
        subst hz
        have HLN := Lib.hid (evLine_bad E hkk ho X2)
        rw [hea] at HLN
        clear hE hea HEV HR ho hkk hrd
        go_wp2_with fail
        refine HLN.out.mono ?_
        rintro e X3 ⟨rfl, hb⟩
        have HB3 := Lib.hid (HB2.out.trans (hb.mono HB2.out.size))
        have hk3 := HK2.out.below hb hkz
        obtain ⟨k0, k1, k2, k3, k4⟩ : X3.cell? ⟨w.heap.size, 0, none⟩ = some (.int .u64 0) ∧ X3.cell? ⟨w.heap.size, 1, none⟩ = some (.int .u64 0) ∧ X3.cell? ⟨w.heap.size, 2, none⟩ = some (str []) ∧ X3.cell? ⟨w.heap.size, 3, none⟩ = some (.int .i64 0) ∧ X3.cell? ⟨w.heap.size, 4, none⟩ = some (str []) := ⟨hk3.at (o := 0) rfl, hk3.at (o := 1) rfl, hk3.at (o := 2) rfl, hk3.at (o := 3) rfl, hk3.at (o := 4) rfl⟩
        have f0 := hk3.free 0
        have f1 := hk3.free 1
        have f2 := hk3.free 2
        have f3 := hk3.free 3
        have f4 := hk3.free 4
        have hlt := hk3.lt
        clear hb e0 e1 e2 e3 e4 HLN hk3 HK2 HN2 HE2 HX2 hkz
        go_wp2_with fail
        exact bodyPost_ret (v := .tuple #[.agg #[.int .u64 0, .int .u64 0, str [], .int .i64 0, str []], .int .i64 4]) (by simp [results, Tryz.results8, go_sem, k0, k1, k2, k3, k4]) rfl
          ⟨rfl, put5_below HB3.out (Nat.le_refl _) _ _ _ _ _⟩
  · have hz : R = (⟨0, 0, [], 0, []⟩, 4) := by
      rw [HR.out]
      exact rdL_no (fun q => hl (by have := q.1; rw [← HPS.out] at this; exact this))
    subst hz
    have hne : ((ps.length : Int) == 5) = false := by rw [beq_eq_false_iff_ne]; omega
    have hne2 : ((ps.length : Int) != 5) = true := by rw [bne_iff_ne]; omega
    obtain ⟨k0, k1, k2, k3, k4⟩ : w1.cell? ⟨w.heap.size, 0, none⟩ = some (.int .u64 0) ∧ w1.cell? ⟨w.heap.size, 1, none⟩ = some (.int .u64 0) ∧ w1.cell? ⟨w.heap.size, 2, none⟩ = some (str []) ∧ w1.cell? ⟨w.heap.size, 3, none⟩ = some (.int .i64 0) ∧ w1.cell? ⟨w.heap.size, 4, none⟩ = some (str []) := ⟨HK1.out.at (o := 0) rfl, HK1.out.at (o := 1) rfl, HK1.out.at (o := 2) rfl, HK1.out.at (o := 3) rfl, HK1.out.at (o := 4) rfl⟩
    have f0 := HK1.out.free 0
    have f1 := HK1.out.free 1
    have f2 := HK1.out.free 2
    have f3 := HK1.out.free 3
    have f4 := HK1.out.free 4
    have hlt := HK1.out.lt
    go_wp2_with fail
    exact bodyPost_ret (v := .tuple #[.agg #[.int .u64 0, .int .u64 0, str [], .int .i64 0, str []], .int .i64 4]) (by simp [results, Tryz.results8, go_sem, k0, k1, k2, k3, k4]) rfl
      ⟨rfl, put5_below HB1.out (Nat.le_refl _) _ _ _ _ _⟩
end Go.Proofs.YtoehkhbppmgfkaaGreatDoor
