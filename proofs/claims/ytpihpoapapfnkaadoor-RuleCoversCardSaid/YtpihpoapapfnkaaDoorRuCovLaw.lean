/- RuleCovers' walk. -/
import Derived.Test.YtpihpoapapfnkaaDoorRuCoR
import Derived.Test.YtpihpoapapfnkaaDoorRuCo
import Derived.Test.YtpihpoapapfnkaaDoorRuFe
import Derived.Test.YtpihpoapapfnkaaDoorRuAwk
import Derived.Test.YtpihpoapapfnkaaDoorReg
set_option maxRecDepth 100000
namespace Go.Proofs.YtpihpoapapfnkaaDoor
open Go.RowKit Go.Shelf
attribute [local go_sem] Oper.semAt_some
set_option maxHeartbeats 4000000 in
theorem covers_law (r o : RuL) (role ten host : List UInt8) (port : Int) (w : World) (hg1 : GoodR r) (hg2 : GoodR o) (hh : host.length ≤ 9223372036854775807) (hE : Env w) :
    Calls Tryd.prog 4 #[ragg r, ragg o, str role, str ten, str host, .int .i64 port] w fun e w' => e = .returned (.bool true) ∧ Below w.heap.size w w' := by
  have hf1 := fewR_smallR r
  have hf2 := fewR_smallR o
  have HA := Lib.hid (fun W h => awake16 W h)
  have HF1 := Lib.hid (fun W => refFew_any r W hg1)
  have HF2 := Lib.hid (fun W => refFew_any o W hg2)
  have HCT := Lib.hid (fun W => cutText_any host 40 W hh (by omega) (by omega))
  have e40 : ∀ s : List UInt8, s.take (40 : Int).toNat = s.take 40 := fun _ => rfl
  rw [e40] at HCT
  have lh : (host.take 40).length ≤ 40 := by rw [List.length_take]; omega
  have lo : (fewR o).host.length ≤ 1000 := by have := (fewR_small o).2.2; omega
  obtain ⟨h', hh'⟩ : ∃ h', h' = host.take 40 := ⟨_, rfl⟩
  rw [← hh'] at HCT lh
  have HE := Lib.hid hE
  obtain ⟨a, ha⟩ : ∃ a, a = fewR r := ⟨_, rfl⟩
  obtain ⟨b, hb⟩ : ∃ b, b = fewR o := ⟨_, rfl⟩
  rw [← ha] at HF1 hf1
  rw [← hb] at HF2 hf2 lo
  have HCV := Lib.hid (fun W (h : Env W) => covers_any a b W h hf1 hf2)
  have HRC := Lib.hid (fun W => refCovers_any a b W hf1 hf2)
  have HHO := Lib.hid (fun x (W : World) (h : Env W) (hx : x.length ≤ 1000) => And.intro (holds_any a role ten x port W h hf1 hx) (holds_any b role ten x port W h hf2 hx))
  have HSO := Lib.hid (fun x (hc : coversB a b = true) (hx : holdsB b role ten x port = true) => covers_sound hc hx)
  have hho : b.host = b.host := rfl
  obtain ⟨c, hc⟩ : ∃ c, c = coversB a b := ⟨_, rfl⟩
  rw [← hc] at HCV HRC HSO
  clear hE e40 hh' ha hb hc hho hg1 hg2 hh hf1 hf2
  obtain ⟨al1, ro1, te1, ho1, fr1, ti1⟩ := r
  obtain ⟨al2, ro2, te2, ho2, fr2, ti2⟩ := o
  obtain ⟨al3, ro3, te3, ho3, fr3, ti3⟩ := a
  obtain ⟨al4, ro4, te4, ho4, fr4, ti4⟩ := b
  obtain ⟨q, hq⟩ : ∃ q, q = w.heap.size := ⟨_, rfl⟩
  obtain ⟨W, hW⟩ : ∃ W, W = (w.alloc (.cells #[.bool al1, str ro1, str te1, str ho1, .int .i64 fr1, .int .i64 ti1] 26)).alloc (.cells #[.bool al2, str ro2, str te2, str ho2, .int .i64 fr2, .int .i64 ti2] 26) := ⟨_, rfl⟩
  have HB0 := Lib.hid (show Below w.heap.size w W from by rw [hW]; exact ((Below.refl _ w).alloc (Nat.le_refl _) _).alloc (by simp) _)
  have HE0 := Lib.hid (HE.out.below HB0.out)
  have hk0 : Blk W q [.bool al1, str ro1, str te1, str ho1, .int .i64 fr1, .int .i64 ti1] := by rw [hW, hq]; exact (Blk.new w _ _).alloc _
  have hl0 : Blk W (q + 1) [.bool al2, str ro2, str te2, str ho2, .int .i64 fr2, .int .i64 ti2] := by
    rw [hW, hq]
    have := Blk.new (w.alloc (.cells #[.bool al1, str ro1, str te1, str ho1, .int .i64 fr1, .int .i64 ti1] 26)) [.bool al2, str ro2, str te2, str ho2, .int .i64 fr2, .int .i64 ti2] 26
    rwa [World.size_alloc] at this
  have HK0 := Lib.hid hk0
  have HL0 := Lib.hid hl0
  have HQ := Lib.hid hq
  clear hk0 hl0
  go_enter Tryd.func4, Tryd.ntmps4
  go_wp2_with fail
  rw [← hW, ← hq]
  clear hW hq
  refine (HA.out _ HE0.out).mono ?_
  rintro e W1 ⟨rfl, hB⟩
  have hqw : q + 1 < W.heap.size := HL0.out.lt
  have HK1 := Lib.hid (HK0.out.below hB HK0.out.lt)
  have HL1 := Lib.hid (HL0.out.below hB HL0.out.lt)
  have HB1 := Lib.hid (HB0.out.trans (hB.mono HB0.out.size))
  have HE1 := Lib.hid (HE0.out.below hB)
  clear hB hqw
  go_wp2_with fail
  have HK1 := Lib.hid HK1.out.drew; have HL1 := Lib.hid HL1.out.drew; have HB1 := Lib.hid HB1.out.drew; have HE1 := Lib.hid (HE.out.below HB1.out)
  refine wp_region_any (by kernel_rfl) ?_
  change wpAny _ _ _ _ _ _ _ W1.drew
  obtain ⟨V1, hV1⟩ : ∃ V, V = W1.drew := ⟨_, rfl⟩
  rw [← hV1] at HK1 HL1 HB1 HE1 ⊢
  clear hV1

  refine wpAny_all (rs := [0, 2]) (by kernel_rfl) (by simp) ?_
  intro i hi
  simp only [List.mem_cons, List.mem_nil_iff, or_false] at hi
  rcases hi with rfl | rfl
  · skip
    have hkk := HK1.out
    have f0 := hkk.at (o := 0) rfl
    have f1 := hkk.at (o := 1) rfl
    have f2 := hkk.at (o := 2) rfl
    have f3 := hkk.at (o := 3) rfl
    have f4 := hkk.at (o := 4) rfl
    have f5 := hkk.at (o := 5) rfl
    refine wpOp_valueD 18 rfl rfl rfl (.agg #[.bool al1, str ro1, str te1, str ho1, .int .i64 fr1, .int .i64 ti1]) (by go_simp) ?_
    go_frame
    clear hkk f0 f1 f2 f3 f4 f5
    refine wpAny_all (rs := [1, 2]) (by kernel_rfl) (by simp) ?_
    intro i hi
    simp only [List.mem_cons, List.mem_nil_iff, or_false] at hi
    rcases hi with rfl | rfl
    · skip
      refine wpOp_callD 19 rfl rfl rfl 9 #[.agg #[.bool al1, str ro1, str te1, str ho1, .int .i64 fr1, .int .i64 ti1]] (by go_simp) ?_
      refine (HF1.out V1).mono ?_
      rintro e W2 ⟨rfl, hB⟩
      have HK2 := Lib.hid (HK1.out.below hB HK1.out.lt)
      have HL2 := Lib.hid (HL1.out.below hB HL1.out.lt)
      have HB2 := Lib.hid (HB1.out.trans (hB.mono HB1.out.size))
      have HE2 := Lib.hid (HE1.out.below hB)
      clear hB
      refine ⟨_, rfl, ?_⟩
      go_frame
      refine wpAny_all (rs := [2]) (by kernel_rfl) (by simp) ?_
      simp only [List.mem_singleton, forall_eq]
      have hkk := HL2.out
      have f0 := hkk.at (o := 0) rfl
      have f1 := hkk.at (o := 1) rfl
      have f2 := hkk.at (o := 2) rfl
      have f3 := hkk.at (o := 3) rfl
      have f4 := hkk.at (o := 4) rfl
      have f5 := hkk.at (o := 5) rfl
      refine wpOp_valueD 20 rfl rfl rfl (.agg #[.bool al2, str ro2, str te2, str ho2, .int .i64 fr2, .int .i64 ti2]) (by go_simp) ?_
      go_frame
      clear hkk f0 f1 f2 f3 f4 f5
      refine wpAny_all (rs := [3]) (by kernel_rfl) (by simp) ?_
      simp only [List.mem_singleton, forall_eq]
      refine wpOp_callD 21 rfl rfl rfl 9 #[.agg #[.bool al2, str ro2, str te2, str ho2, .int .i64 fr2, .int .i64 ti2]] (by go_simp) ?_
      refine (HF2.out W2).mono ?_
      rintro e W3 ⟨rfl, hB⟩
      have HK3 := Lib.hid (HK2.out.below hB HK2.out.lt)
      have HL3 := Lib.hid (HL2.out.below hB HL2.out.lt)
      have HB3 := Lib.hid (HB2.out.trans (hB.mono HB2.out.size))
      have HE3 := Lib.hid (HE2.out.below hB)
      clear hB
      refine ⟨_, rfl, ?_⟩
      go_frame
      refine wpAny_all (rs := [4]) (by kernel_rfl) (by simp) ?_
      simp only [List.mem_singleton, forall_eq]
      obtain ⟨Y, hY⟩ : ∃ Y, Y = W3.setCells q 0 [.bool al3, str ro3, str te3, str ho3, .int .i64 fr3, .int .i64 ti3] := ⟨_, rfl⟩
      have hky : Blk Y q [.bool al3, str ro3, str te3, str ho3, .int .i64 fr3, .int .i64 ti3] := by rw [hY]; exact HK3.out.setAll rfl
      have hly : Blk Y (q + 1) [.bool al2, str ro2, str te2, str ho2, .int .i64 fr2, .int .i64 ti2] := by rw [hY]; exact HL3.out.grown (grown_setCells _ _ _ _) (by simp)
      have hby : Below w.heap.size w Y := by rw [hY]; exact below_setCells (by have := HQ.out; omega) _ HB3.out 0
      refine wpOp_storeN rfl rfl rfl 26 (.tmp 6) (.tmp 19) rfl q 0 #[.bool al3, str ro3, str te3, str ho3, .int .i64 fr3, .int .i64 ti3] rfl rfl (HK3.out.there 0 6 (Nat.le_refl _)) (by kernel_rfl) (by simp [Value.oneCell']) ?_
      rw [show (#[.bool al3, str ro3, str te3, str ho3, .int .i64 fr3, .int .i64 ti3] : Array Value).toList = [.bool al3, str ro3, str te3, str ho3, .int .i64 fr3, .int .i64 ti3] from rfl, ← hY]
      refine wpAny_all (rs := [5]) (by kernel_rfl) (by simp) ?_
      simp only [List.mem_singleton, forall_eq]
      obtain ⟨Z, hZ⟩ : ∃ Z, Z = Y.setCells (q + 1) 0 [.bool al4, str ro4, str te4, str ho4, .int .i64 fr4, .int .i64 ti4] := ⟨_, rfl⟩
      have hkz : Blk Z q [.bool al3, str ro3, str te3, str ho3, .int .i64 fr3, .int .i64 ti3] := by rw [hZ]; exact hky.grown (grown_setCells _ _ _ _) (by simp)
      have hlz : Blk Z (q + 1) [.bool al4, str ro4, str te4, str ho4, .int .i64 fr4, .int .i64 ti4] := by rw [hZ]; exact hly.setAll rfl
      have hbz : Below w.heap.size w Z := by rw [hZ]; exact below_setCells (by have := HQ.out; omega) _ hby 0
      refine wpOp_storeN rfl rfl rfl 26 (.tmp 7) (.tmp 21) rfl (q + 1) 0 #[.bool al4, str ro4, str te4, str ho4, .int .i64 fr4, .int .i64 ti4] rfl rfl (hly.there 0 6 (Nat.le_refl _)) (by kernel_rfl) (by simp [Value.oneCell']) ?_
      rw [show (#[.bool al4, str ro4, str te4, str ho4, .int .i64 fr4, .int .i64 ti4] : Array Value).toList = [.bool al4, str ro4, str te4, str ho4, .int .i64 fr4, .int .i64 ti4] from rfl, ← hZ]
      refine wpAny_done (by kernel_rfl) ?_ _
      have HK4 := Lib.hid hkz; have HL4 := Lib.hid hlz; have HB4 := Lib.hid hbz; have HE4 := Lib.hid (HE.out.below hbz)
      clear hY hky hly hby hZ hkz hlz hbz HK3 HL3 HB3 HE3 HF1 HF2
      have hk := HK4.out
      have hl := HL4.out
      have d0 := hk.at (o := 0) rfl
      have d1 := hk.at (o := 1) rfl
      have d2 := hk.at (o := 2) rfl
      have d3 := hk.at (o := 3) rfl
      have d4 := hk.at (o := 4) rfl
      have d5 := hk.at (o := 5) rfl
      have g0 := hl.at (o := 0) rfl
      have g1 := hl.at (o := 1) rfl
      have g2 := hl.at (o := 2) rfl
      have g3 := hl.at (o := 3) rfl
      have g4 := hl.at (o := 4) rfl
      have g5 := hl.at (o := 5) rfl
      clear hk hl
      cases c
      · skip
        go_wp2_with fail
        refine (HCT.out _).mono ?_
        rintro e W4 ⟨rfl, rfl⟩
        go_wp2_with fail
        refine (HCV.out _ HE4.out).mono ?_
        rintro e W5 ⟨rfl, hB⟩
        clear d0 d1 d2 d3 d4 d5 g0 g1 g2 g3 g4 g5
        have HK5 := Lib.hid (HK4.out.below hB HK4.out.lt)
        have HL5 := Lib.hid (HL4.out.below hB HL4.out.lt)
        have HB5 := Lib.hid (HB4.out.trans (hB.mono HB4.out.size))
        have HE5 := Lib.hid (HE4.out.below hB)
        clear hB
        have hk := HK5.out
        have hl := HL5.out
        have d0 := hk.at (o := 0) rfl
        have d1 := hk.at (o := 1) rfl
        have d2 := hk.at (o := 2) rfl
        have d3 := hk.at (o := 3) rfl
        have d4 := hk.at (o := 4) rfl
        have d5 := hk.at (o := 5) rfl
        have g0 := hl.at (o := 0) rfl
        have g1 := hl.at (o := 1) rfl
        have g2 := hl.at (o := 2) rfl
        have g3 := hl.at (o := 3) rfl
        have g4 := hl.at (o := 4) rfl
        have g5 := hl.at (o := 5) rfl
        clear hk hl
        go_wp2_with fail
        refine (HRC.out _).mono ?_
        rintro e W6 ⟨rfl, hB⟩
        clear d0 d1 d2 d3 d4 d5 g0 g1 g2 g3 g4 g5
        have HK6 := Lib.hid (HK5.out.below hB HK5.out.lt)
        have HL6 := Lib.hid (HL5.out.below hB HL5.out.lt)
        have HB6 := Lib.hid (HB5.out.trans (hB.mono HB5.out.size))
        have HE6 := Lib.hid (HE5.out.below hB)
        clear hB
        have hk := HK6.out
        have hl := HL6.out
        have d0 := hk.at (o := 0) rfl
        have d1 := hk.at (o := 1) rfl
        have d2 := hk.at (o := 2) rfl
        have d3 := hk.at (o := 3) rfl
        have d4 := hk.at (o := 4) rfl
        have d5 := hk.at (o := 5) rfl
        have g0 := hl.at (o := 0) rfl
        have g1 := hl.at (o := 1) rfl
        have g2 := hl.at (o := 2) rfl
        have g3 := hl.at (o := 3) rfl
        have g4 := hl.at (o := 4) rfl
        have g5 := hl.at (o := 5) rfl
        clear hk hl
        go_wp2_with fail
        obtain ⟨g, hg⟩ : ∃ g, g = W6.heap.size := ⟨_, rfl⟩
        obtain ⟨W7, hW7⟩ : ∃ W7, W7 = W6.alloc (.cells #[str h', str ho4] 9) := ⟨_, rfl⟩
        have HG7 := Lib.hid (show Blk W7 g [str h', str ho4] from by rw [hW7, hg]; exact Blk.new W6 _ _)
        have HK7 := Lib.hid (show Blk W7 q [.bool al3, str ro3, str te3, str ho3, .int .i64 fr3, .int .i64 ti3] from by rw [hW7]; exact HK6.out.alloc _)
        have HL7 := Lib.hid (show Blk W7 (q + 1) [.bool al4, str ro4, str te4, str ho4, .int .i64 fr4, .int .i64 ti4] from by rw [hW7]; exact HL6.out.alloc _)
        have HB7 := Lib.hid (show Below w.heap.size w W7 from by rw [hW7]; exact HB6.out.alloc HB6.out.size _)
        rw [← hW7, ← hg]
        clear hW7 hg d0 d1 d2 d3 d4 d5 g0 g1 g2 g3 g4 g5
        go_loopw [15, 37] (fun _ i wr => ∃ k : Nat, k ≤ 2 ∧ i = .int .i64 (k : Int) ∧ Blk wr g [str h', str ho4] ∧ Blk wr q [.bool al3, str ro3, str te3, str ho3, .int .i64 fr3, .int .i64 ti3] ∧ Blk wr (q + 1) [.bool al4, str ro4, str te4, str ho4, .int .i64 fr4, .int .i64 ti4] ∧ Below w.heap.size w wr) (fun _ i _ => 2 - (intOf i).toNat)
        case atStart => exact ⟨0, by omega, rfl, HG7.out, HK7.out, HL7.out, HB7.out⟩
        case round =>
          obtain ⟨k, hk, rfl, hgr, hkr, hlr, hbr⟩ := hrel
          have HGR := Lib.hid hgr; have HKR := Lib.hid hkr; have HLR := Lib.hid hlr; have HBR := Lib.hid hbr; have HER := Lib.hid (HE.out.below hbr)
          by_cases hk2 : k < 2
          · obtain ⟨x, hx, hlx⟩ : ∃ x, wr.cell? ⟨g, k, none⟩ = some (str x) ∧ x.length ≤ 1000 := by
              rcases (show k = 0 ∨ k = 1 by omega) with rfl | rfl
              · exact ⟨h', hgr.at (o := 0) rfl, by omega⟩
              · exact ⟨ho4, hgr.at (o := 1) rfl, lo⟩
            have d0 := hkr.at (o := 0) rfl
            have d1 := hkr.at (o := 1) rfl
            have d2 := hkr.at (o := 2) rfl
            have d3 := hkr.at (o := 3) rfl
            have d4 := hkr.at (o := 4) rfl
            have d5 := hkr.at (o := 5) rfl
            have g0 := hlr.at (o := 0) rfl
            have g1 := hlr.at (o := 1) rfl
            have g2 := hlr.at (o := 2) rfl
            have g3 := hlr.at (o := 3) rfl
            have g4 := hlr.at (o := 4) rfl
            have g5 := hlr.at (o := 5) rfl
            clear hgr hkr hlr hbr
            go_wp2_with fail
            go_roundw
            case rel => exact ⟨k + 1, by omega, by go_num, HGR.out, HKR.out, HLR.out, HBR.out⟩
            case measure => simp [intOf]; omega
          · have : k = 2 := by omega
            subst this
            clear hgr hkr hlr hbr
            go_wp2_with fail
            go_ret
            exact ⟨rfl, HBR.out⟩
      · skip
        go_wp2_with fail
        refine (HCT.out _).mono ?_
        rintro e W4 ⟨rfl, rfl⟩
        go_wp2_with fail
        refine (HCV.out _ HE4.out).mono ?_
        rintro e W5 ⟨rfl, hB⟩
        clear d0 d1 d2 d3 d4 d5 g0 g1 g2 g3 g4 g5
        have HK5 := Lib.hid (HK4.out.below hB HK4.out.lt)
        have HL5 := Lib.hid (HL4.out.below hB HL4.out.lt)
        have HB5 := Lib.hid (HB4.out.trans (hB.mono HB4.out.size))
        have HE5 := Lib.hid (HE4.out.below hB)
        clear hB
        have hk := HK5.out
        have hl := HL5.out
        have d0 := hk.at (o := 0) rfl
        have d1 := hk.at (o := 1) rfl
        have d2 := hk.at (o := 2) rfl
        have d3 := hk.at (o := 3) rfl
        have d4 := hk.at (o := 4) rfl
        have d5 := hk.at (o := 5) rfl
        have g0 := hl.at (o := 0) rfl
        have g1 := hl.at (o := 1) rfl
        have g2 := hl.at (o := 2) rfl
        have g3 := hl.at (o := 3) rfl
        have g4 := hl.at (o := 4) rfl
        have g5 := hl.at (o := 5) rfl
        clear hk hl
        go_wp2_with fail
        refine (HRC.out _).mono ?_
        rintro e W6 ⟨rfl, hB⟩
        clear d0 d1 d2 d3 d4 d5 g0 g1 g2 g3 g4 g5
        have HK6 := Lib.hid (HK5.out.below hB HK5.out.lt)
        have HL6 := Lib.hid (HL5.out.below hB HL5.out.lt)
        have HB6 := Lib.hid (HB5.out.trans (hB.mono HB5.out.size))
        have HE6 := Lib.hid (HE5.out.below hB)
        clear hB
        have hk := HK6.out
        have hl := HL6.out
        have d0 := hk.at (o := 0) rfl
        have d1 := hk.at (o := 1) rfl
        have d2 := hk.at (o := 2) rfl
        have d3 := hk.at (o := 3) rfl
        have d4 := hk.at (o := 4) rfl
        have d5 := hk.at (o := 5) rfl
        have g0 := hl.at (o := 0) rfl
        have g1 := hl.at (o := 1) rfl
        have g2 := hl.at (o := 2) rfl
        have g3 := hl.at (o := 3) rfl
        have g4 := hl.at (o := 4) rfl
        have g5 := hl.at (o := 5) rfl
        clear hk hl
        go_wp2_with fail
        obtain ⟨g, hg⟩ : ∃ g, g = W6.heap.size := ⟨_, rfl⟩
        obtain ⟨W7, hW7⟩ : ∃ W7, W7 = W6.alloc (.cells #[str h', str ho4] 9) := ⟨_, rfl⟩
        have HG7 := Lib.hid (show Blk W7 g [str h', str ho4] from by rw [hW7, hg]; exact Blk.new W6 _ _)
        have HK7 := Lib.hid (show Blk W7 q [.bool al3, str ro3, str te3, str ho3, .int .i64 fr3, .int .i64 ti3] from by rw [hW7]; exact HK6.out.alloc _)
        have HL7 := Lib.hid (show Blk W7 (q + 1) [.bool al4, str ro4, str te4, str ho4, .int .i64 fr4, .int .i64 ti4] from by rw [hW7]; exact HL6.out.alloc _)
        have HB7 := Lib.hid (show Below w.heap.size w W7 from by rw [hW7]; exact HB6.out.alloc HB6.out.size _)
        rw [← hW7, ← hg]
        clear hW7 hg d0 d1 d2 d3 d4 d5 g0 g1 g2 g3 g4 g5
        go_loopw [15, 37] (fun _ i wr => ∃ k : Nat, k ≤ 2 ∧ i = .int .i64 (k : Int) ∧ Blk wr g [str h', str ho4] ∧ Blk wr q [.bool al3, str ro3, str te3, str ho3, .int .i64 fr3, .int .i64 ti3] ∧ Blk wr (q + 1) [.bool al4, str ro4, str te4, str ho4, .int .i64 fr4, .int .i64 ti4] ∧ Below w.heap.size w wr) (fun _ i _ => 2 - (intOf i).toNat)
        case atStart => exact ⟨0, by omega, rfl, HG7.out, HK7.out, HL7.out, HB7.out⟩
        case round =>
          obtain ⟨k, hk, rfl, hgr, hkr, hlr, hbr⟩ := hrel
          have HGR := Lib.hid hgr; have HKR := Lib.hid hkr; have HLR := Lib.hid hlr; have HBR := Lib.hid hbr; have HER := Lib.hid (HE.out.below hbr)
          by_cases hk2 : k < 2
          · obtain ⟨x, hx, hlx⟩ : ∃ x, wr.cell? ⟨g, k, none⟩ = some (str x) ∧ x.length ≤ 1000 := by
              rcases (show k = 0 ∨ k = 1 by omega) with rfl | rfl
              · exact ⟨h', hgr.at (o := 0) rfl, by omega⟩
              · exact ⟨ho4, hgr.at (o := 1) rfl, lo⟩
            have d0 := hkr.at (o := 0) rfl
            have d1 := hkr.at (o := 1) rfl
            have d2 := hkr.at (o := 2) rfl
            have d3 := hkr.at (o := 3) rfl
            have d4 := hkr.at (o := 4) rfl
            have d5 := hkr.at (o := 5) rfl
            have g0 := hlr.at (o := 0) rfl
            have g1 := hlr.at (o := 1) rfl
            have g2 := hlr.at (o := 2) rfl
            have g3 := hlr.at (o := 3) rfl
            have g4 := hlr.at (o := 4) rfl
            have g5 := hlr.at (o := 5) rfl
            clear hgr hkr hlr hbr
            have HH := Lib.hid (fun W h => HHO.out x W h hlx)
            have HS := Lib.hid (HSO.out x (by first | rfl | trivial))
            obtain ⟨u, hu⟩ : ∃ u, u = holdsB ⟨al4, ro4, te4, ho4, fr4, ti4⟩ role ten x port := ⟨_, rfl⟩
            obtain ⟨v, hv⟩ : ∃ v, v = holdsB ⟨al3, ro3, te3, ho3, fr3, ti3⟩ role ten x port := ⟨_, rfl⟩
            rw [← hu, ← hv] at HH HS
            clear hu hv
            go_wp2_with fail
            refine ((HH.out wr HER.out).2).mono ?_
            rintro e W8 ⟨rfl, hB⟩
            clear d0 d1 d2 d3 d4 d5 g0 g1 g2 g3 g4 g5
            have HG8 := Lib.hid (HGR.out.below hB HGR.out.lt)
            have HK8 := Lib.hid (HKR.out.below hB HKR.out.lt)
            have HL8 := Lib.hid (HLR.out.below hB HLR.out.lt)
            have HB8 := Lib.hid (HBR.out.trans (hB.mono HBR.out.size))
            have HE8 := Lib.hid (HER.out.below hB)
            clear hB
            have hk_ := HK8.out
            have hl_ := HL8.out
            have d0 := hk_.at (o := 0) rfl
            have d1 := hk_.at (o := 1) rfl
            have d2 := hk_.at (o := 2) rfl
            have d3 := hk_.at (o := 3) rfl
            have d4 := hk_.at (o := 4) rfl
            have d5 := hk_.at (o := 5) rfl
            have g0 := hl_.at (o := 0) rfl
            have g1 := hl_.at (o := 1) rfl
            have g2 := hl_.at (o := 2) rfl
            have g3 := hl_.at (o := 3) rfl
            have g4 := hl_.at (o := 4) rfl
            have g5 := hl_.at (o := 5) rfl
            clear hk_ hl_
            cases u
            · go_wp2_with fail
              go_roundw
              case rel => exact ⟨k + 1, by omega, by go_num, HG8.out, HK8.out, HL8.out, HB8.out⟩
              case measure => simp [intOf]; omega
            · obtain rfl := HS.out (by first | rfl | trivial)
              go_wp2_with fail
              refine ((HH.out W8 HE8.out).1).mono ?_
              rintro e W9 ⟨rfl, hB⟩
              clear d0 d1 d2 d3 d4 d5 g0 g1 g2 g3 g4 g5
              have HG9 := Lib.hid (HG8.out.below hB HG8.out.lt)
              have HK9 := Lib.hid (HK8.out.below hB HK8.out.lt)
              have HL9 := Lib.hid (HL8.out.below hB HL8.out.lt)
              have HB9 := Lib.hid (HB8.out.trans (hB.mono HB8.out.size))
              have HE9 := Lib.hid (HE8.out.below hB)
              clear hB
              have hk_ := HK9.out
              have hl_ := HL9.out
              have d0 := hk_.at (o := 0) rfl
              have d1 := hk_.at (o := 1) rfl
              have d2 := hk_.at (o := 2) rfl
              have d3 := hk_.at (o := 3) rfl
              have d4 := hk_.at (o := 4) rfl
              have d5 := hk_.at (o := 5) rfl
              have g0 := hl_.at (o := 0) rfl
              have g1 := hl_.at (o := 1) rfl
              have g2 := hl_.at (o := 2) rfl
              have g3 := hl_.at (o := 3) rfl
              have g4 := hl_.at (o := 4) rfl
              have g5 := hl_.at (o := 5) rfl
              clear hk_ hl_
              go_wp2_with fail
              go_roundw
              case rel => exact ⟨k + 1, by omega, by go_num, HG9.out, HK9.out, HL9.out, HB9.out⟩
              case measure => simp [intOf]; omega
          · have : k = 2 := by omega
            subst this
            clear hgr hkr hlr hbr
            go_wp2_with fail
            go_ret
            exact ⟨rfl, HBR.out⟩
    · skip
      have hkk := HL1.out
      have f0 := hkk.at (o := 0) rfl
      have f1 := hkk.at (o := 1) rfl
      have f2 := hkk.at (o := 2) rfl
      have f3 := hkk.at (o := 3) rfl
      have f4 := hkk.at (o := 4) rfl
      have f5 := hkk.at (o := 5) rfl
      refine wpOp_valueD 20 rfl rfl rfl (.agg #[.bool al2, str ro2, str te2, str ho2, .int .i64 fr2, .int .i64 ti2]) (by go_simp) ?_
      go_frame
      clear hkk f0 f1 f2 f3 f4 f5
      refine wpAny_all (rs := [1]) (by kernel_rfl) (by simp) ?_
      simp only [List.mem_singleton, forall_eq]
      refine wpOp_callD 19 rfl rfl rfl 9 #[.agg #[.bool al1, str ro1, str te1, str ho1, .int .i64 fr1, .int .i64 ti1]] (by go_simp) ?_
      refine (HF1.out V1).mono ?_
      rintro e W2 ⟨rfl, hB⟩
      have HK2 := Lib.hid (HK1.out.below hB HK1.out.lt)
      have HL2 := Lib.hid (HL1.out.below hB HL1.out.lt)
      have HB2 := Lib.hid (HB1.out.trans (hB.mono HB1.out.size))
      have HE2 := Lib.hid (HE1.out.below hB)
      clear hB
      refine ⟨_, rfl, ?_⟩
      go_frame
      refine wpAny_all (rs := [3]) (by kernel_rfl) (by simp) ?_
      simp only [List.mem_singleton, forall_eq]
      refine wpOp_callD 21 rfl rfl rfl 9 #[.agg #[.bool al2, str ro2, str te2, str ho2, .int .i64 fr2, .int .i64 ti2]] (by go_simp) ?_
      refine (HF2.out W2).mono ?_
      rintro e W3 ⟨rfl, hB⟩
      have HK3 := Lib.hid (HK2.out.below hB HK2.out.lt)
      have HL3 := Lib.hid (HL2.out.below hB HL2.out.lt)
      have HB3 := Lib.hid (HB2.out.trans (hB.mono HB2.out.size))
      have HE3 := Lib.hid (HE2.out.below hB)
      clear hB
      refine ⟨_, rfl, ?_⟩
      go_frame
      refine wpAny_all (rs := [4]) (by kernel_rfl) (by simp) ?_
      simp only [List.mem_singleton, forall_eq]
      obtain ⟨Y, hY⟩ : ∃ Y, Y = W3.setCells q 0 [.bool al3, str ro3, str te3, str ho3, .int .i64 fr3, .int .i64 ti3] := ⟨_, rfl⟩
      have hky : Blk Y q [.bool al3, str ro3, str te3, str ho3, .int .i64 fr3, .int .i64 ti3] := by rw [hY]; exact HK3.out.setAll rfl
      have hly : Blk Y (q + 1) [.bool al2, str ro2, str te2, str ho2, .int .i64 fr2, .int .i64 ti2] := by rw [hY]; exact HL3.out.grown (grown_setCells _ _ _ _) (by simp)
      have hby : Below w.heap.size w Y := by rw [hY]; exact below_setCells (by have := HQ.out; omega) _ HB3.out 0
      refine wpOp_storeN rfl rfl rfl 26 (.tmp 6) (.tmp 19) rfl q 0 #[.bool al3, str ro3, str te3, str ho3, .int .i64 fr3, .int .i64 ti3] rfl rfl (HK3.out.there 0 6 (Nat.le_refl _)) (by kernel_rfl) (by simp [Value.oneCell']) ?_
      rw [show (#[.bool al3, str ro3, str te3, str ho3, .int .i64 fr3, .int .i64 ti3] : Array Value).toList = [.bool al3, str ro3, str te3, str ho3, .int .i64 fr3, .int .i64 ti3] from rfl, ← hY]
      refine wpAny_all (rs := [5]) (by kernel_rfl) (by simp) ?_
      simp only [List.mem_singleton, forall_eq]
      obtain ⟨Z, hZ⟩ : ∃ Z, Z = Y.setCells (q + 1) 0 [.bool al4, str ro4, str te4, str ho4, .int .i64 fr4, .int .i64 ti4] := ⟨_, rfl⟩
      have hkz : Blk Z q [.bool al3, str ro3, str te3, str ho3, .int .i64 fr3, .int .i64 ti3] := by rw [hZ]; exact hky.grown (grown_setCells _ _ _ _) (by simp)
      have hlz : Blk Z (q + 1) [.bool al4, str ro4, str te4, str ho4, .int .i64 fr4, .int .i64 ti4] := by rw [hZ]; exact hly.setAll rfl
      have hbz : Below w.heap.size w Z := by rw [hZ]; exact below_setCells (by have := HQ.out; omega) _ hby 0
      refine wpOp_storeN rfl rfl rfl 26 (.tmp 7) (.tmp 21) rfl (q + 1) 0 #[.bool al4, str ro4, str te4, str ho4, .int .i64 fr4, .int .i64 ti4] rfl rfl (hly.there 0 6 (Nat.le_refl _)) (by kernel_rfl) (by simp [Value.oneCell']) ?_
      rw [show (#[.bool al4, str ro4, str te4, str ho4, .int .i64 fr4, .int .i64 ti4] : Array Value).toList = [.bool al4, str ro4, str te4, str ho4, .int .i64 fr4, .int .i64 ti4] from rfl, ← hZ]
      refine wpAny_done (by kernel_rfl) ?_ _
      have HK4 := Lib.hid hkz; have HL4 := Lib.hid hlz; have HB4 := Lib.hid hbz; have HE4 := Lib.hid (HE.out.below hbz)
      clear hY hky hly hby hZ hkz hlz hbz HK3 HL3 HB3 HE3 HF1 HF2
      have hk := HK4.out
      have hl := HL4.out
      have d0 := hk.at (o := 0) rfl
      have d1 := hk.at (o := 1) rfl
      have d2 := hk.at (o := 2) rfl
      have d3 := hk.at (o := 3) rfl
      have d4 := hk.at (o := 4) rfl
      have d5 := hk.at (o := 5) rfl
      have g0 := hl.at (o := 0) rfl
      have g1 := hl.at (o := 1) rfl
      have g2 := hl.at (o := 2) rfl
      have g3 := hl.at (o := 3) rfl
      have g4 := hl.at (o := 4) rfl
      have g5 := hl.at (o := 5) rfl
      clear hk hl
      cases c
      · skip
        go_wp2_with fail
        refine (HCT.out _).mono ?_
        rintro e W4 ⟨rfl, rfl⟩
        go_wp2_with fail
        refine (HCV.out _ HE4.out).mono ?_
        rintro e W5 ⟨rfl, hB⟩
        clear d0 d1 d2 d3 d4 d5 g0 g1 g2 g3 g4 g5
        have HK5 := Lib.hid (HK4.out.below hB HK4.out.lt)
        have HL5 := Lib.hid (HL4.out.below hB HL4.out.lt)
        have HB5 := Lib.hid (HB4.out.trans (hB.mono HB4.out.size))
        have HE5 := Lib.hid (HE4.out.below hB)
        clear hB
        have hk := HK5.out
        have hl := HL5.out
        have d0 := hk.at (o := 0) rfl
        have d1 := hk.at (o := 1) rfl
        have d2 := hk.at (o := 2) rfl
        have d3 := hk.at (o := 3) rfl
        have d4 := hk.at (o := 4) rfl
        have d5 := hk.at (o := 5) rfl
        have g0 := hl.at (o := 0) rfl
        have g1 := hl.at (o := 1) rfl
        have g2 := hl.at (o := 2) rfl
        have g3 := hl.at (o := 3) rfl
        have g4 := hl.at (o := 4) rfl
        have g5 := hl.at (o := 5) rfl
        clear hk hl
        go_wp2_with fail
        refine (HRC.out _).mono ?_
        rintro e W6 ⟨rfl, hB⟩
        clear d0 d1 d2 d3 d4 d5 g0 g1 g2 g3 g4 g5
        have HK6 := Lib.hid (HK5.out.below hB HK5.out.lt)
        have HL6 := Lib.hid (HL5.out.below hB HL5.out.lt)
        have HB6 := Lib.hid (HB5.out.trans (hB.mono HB5.out.size))
        have HE6 := Lib.hid (HE5.out.below hB)
        clear hB
        have hk := HK6.out
        have hl := HL6.out
        have d0 := hk.at (o := 0) rfl
        have d1 := hk.at (o := 1) rfl
        have d2 := hk.at (o := 2) rfl
        have d3 := hk.at (o := 3) rfl
        have d4 := hk.at (o := 4) rfl
        have d5 := hk.at (o := 5) rfl
        have g0 := hl.at (o := 0) rfl
        have g1 := hl.at (o := 1) rfl
        have g2 := hl.at (o := 2) rfl
        have g3 := hl.at (o := 3) rfl
        have g4 := hl.at (o := 4) rfl
        have g5 := hl.at (o := 5) rfl
        clear hk hl
        go_wp2_with fail
        obtain ⟨g, hg⟩ : ∃ g, g = W6.heap.size := ⟨_, rfl⟩
        obtain ⟨W7, hW7⟩ : ∃ W7, W7 = W6.alloc (.cells #[str h', str ho4] 9) := ⟨_, rfl⟩
        have HG7 := Lib.hid (show Blk W7 g [str h', str ho4] from by rw [hW7, hg]; exact Blk.new W6 _ _)
        have HK7 := Lib.hid (show Blk W7 q [.bool al3, str ro3, str te3, str ho3, .int .i64 fr3, .int .i64 ti3] from by rw [hW7]; exact HK6.out.alloc _)
        have HL7 := Lib.hid (show Blk W7 (q + 1) [.bool al4, str ro4, str te4, str ho4, .int .i64 fr4, .int .i64 ti4] from by rw [hW7]; exact HL6.out.alloc _)
        have HB7 := Lib.hid (show Below w.heap.size w W7 from by rw [hW7]; exact HB6.out.alloc HB6.out.size _)
        rw [← hW7, ← hg]
        clear hW7 hg d0 d1 d2 d3 d4 d5 g0 g1 g2 g3 g4 g5
        go_loopw [15, 37] (fun _ i wr => ∃ k : Nat, k ≤ 2 ∧ i = .int .i64 (k : Int) ∧ Blk wr g [str h', str ho4] ∧ Blk wr q [.bool al3, str ro3, str te3, str ho3, .int .i64 fr3, .int .i64 ti3] ∧ Blk wr (q + 1) [.bool al4, str ro4, str te4, str ho4, .int .i64 fr4, .int .i64 ti4] ∧ Below w.heap.size w wr) (fun _ i _ => 2 - (intOf i).toNat)
        case atStart => exact ⟨0, by omega, rfl, HG7.out, HK7.out, HL7.out, HB7.out⟩
        case round =>
          obtain ⟨k, hk, rfl, hgr, hkr, hlr, hbr⟩ := hrel
          have HGR := Lib.hid hgr; have HKR := Lib.hid hkr; have HLR := Lib.hid hlr; have HBR := Lib.hid hbr; have HER := Lib.hid (HE.out.below hbr)
          by_cases hk2 : k < 2
          · obtain ⟨x, hx, hlx⟩ : ∃ x, wr.cell? ⟨g, k, none⟩ = some (str x) ∧ x.length ≤ 1000 := by
              rcases (show k = 0 ∨ k = 1 by omega) with rfl | rfl
              · exact ⟨h', hgr.at (o := 0) rfl, by omega⟩
              · exact ⟨ho4, hgr.at (o := 1) rfl, lo⟩
            have d0 := hkr.at (o := 0) rfl
            have d1 := hkr.at (o := 1) rfl
            have d2 := hkr.at (o := 2) rfl
            have d3 := hkr.at (o := 3) rfl
            have d4 := hkr.at (o := 4) rfl
            have d5 := hkr.at (o := 5) rfl
            have g0 := hlr.at (o := 0) rfl
            have g1 := hlr.at (o := 1) rfl
            have g2 := hlr.at (o := 2) rfl
            have g3 := hlr.at (o := 3) rfl
            have g4 := hlr.at (o := 4) rfl
            have g5 := hlr.at (o := 5) rfl
            clear hgr hkr hlr hbr
            go_wp2_with fail
            go_roundw
            case rel => exact ⟨k + 1, by omega, by go_num, HGR.out, HKR.out, HLR.out, HBR.out⟩
            case measure => simp [intOf]; omega
          · have : k = 2 := by omega
            subst this
            clear hgr hkr hlr hbr
            go_wp2_with fail
            go_ret
            exact ⟨rfl, HBR.out⟩
      · skip
        go_wp2_with fail
        refine (HCT.out _).mono ?_
        rintro e W4 ⟨rfl, rfl⟩
        go_wp2_with fail
        refine (HCV.out _ HE4.out).mono ?_
        rintro e W5 ⟨rfl, hB⟩
        clear d0 d1 d2 d3 d4 d5 g0 g1 g2 g3 g4 g5
        have HK5 := Lib.hid (HK4.out.below hB HK4.out.lt)
        have HL5 := Lib.hid (HL4.out.below hB HL4.out.lt)
        have HB5 := Lib.hid (HB4.out.trans (hB.mono HB4.out.size))
        have HE5 := Lib.hid (HE4.out.below hB)
        clear hB
        have hk := HK5.out
        have hl := HL5.out
        have d0 := hk.at (o := 0) rfl
        have d1 := hk.at (o := 1) rfl
        have d2 := hk.at (o := 2) rfl
        have d3 := hk.at (o := 3) rfl
        have d4 := hk.at (o := 4) rfl
        have d5 := hk.at (o := 5) rfl
        have g0 := hl.at (o := 0) rfl
        have g1 := hl.at (o := 1) rfl
        have g2 := hl.at (o := 2) rfl
        have g3 := hl.at (o := 3) rfl
        have g4 := hl.at (o := 4) rfl
        have g5 := hl.at (o := 5) rfl
        clear hk hl
        go_wp2_with fail
        refine (HRC.out _).mono ?_
        rintro e W6 ⟨rfl, hB⟩
        clear d0 d1 d2 d3 d4 d5 g0 g1 g2 g3 g4 g5
        have HK6 := Lib.hid (HK5.out.below hB HK5.out.lt)
        have HL6 := Lib.hid (HL5.out.below hB HL5.out.lt)
        have HB6 := Lib.hid (HB5.out.trans (hB.mono HB5.out.size))
        have HE6 := Lib.hid (HE5.out.below hB)
        clear hB
        have hk := HK6.out
        have hl := HL6.out
        have d0 := hk.at (o := 0) rfl
        have d1 := hk.at (o := 1) rfl
        have d2 := hk.at (o := 2) rfl
        have d3 := hk.at (o := 3) rfl
        have d4 := hk.at (o := 4) rfl
        have d5 := hk.at (o := 5) rfl
        have g0 := hl.at (o := 0) rfl
        have g1 := hl.at (o := 1) rfl
        have g2 := hl.at (o := 2) rfl
        have g3 := hl.at (o := 3) rfl
        have g4 := hl.at (o := 4) rfl
        have g5 := hl.at (o := 5) rfl
        clear hk hl
        go_wp2_with fail
        obtain ⟨g, hg⟩ : ∃ g, g = W6.heap.size := ⟨_, rfl⟩
        obtain ⟨W7, hW7⟩ : ∃ W7, W7 = W6.alloc (.cells #[str h', str ho4] 9) := ⟨_, rfl⟩
        have HG7 := Lib.hid (show Blk W7 g [str h', str ho4] from by rw [hW7, hg]; exact Blk.new W6 _ _)
        have HK7 := Lib.hid (show Blk W7 q [.bool al3, str ro3, str te3, str ho3, .int .i64 fr3, .int .i64 ti3] from by rw [hW7]; exact HK6.out.alloc _)
        have HL7 := Lib.hid (show Blk W7 (q + 1) [.bool al4, str ro4, str te4, str ho4, .int .i64 fr4, .int .i64 ti4] from by rw [hW7]; exact HL6.out.alloc _)
        have HB7 := Lib.hid (show Below w.heap.size w W7 from by rw [hW7]; exact HB6.out.alloc HB6.out.size _)
        rw [← hW7, ← hg]
        clear hW7 hg d0 d1 d2 d3 d4 d5 g0 g1 g2 g3 g4 g5
        go_loopw [15, 37] (fun _ i wr => ∃ k : Nat, k ≤ 2 ∧ i = .int .i64 (k : Int) ∧ Blk wr g [str h', str ho4] ∧ Blk wr q [.bool al3, str ro3, str te3, str ho3, .int .i64 fr3, .int .i64 ti3] ∧ Blk wr (q + 1) [.bool al4, str ro4, str te4, str ho4, .int .i64 fr4, .int .i64 ti4] ∧ Below w.heap.size w wr) (fun _ i _ => 2 - (intOf i).toNat)
        case atStart => exact ⟨0, by omega, rfl, HG7.out, HK7.out, HL7.out, HB7.out⟩
        case round =>
          obtain ⟨k, hk, rfl, hgr, hkr, hlr, hbr⟩ := hrel
          have HGR := Lib.hid hgr; have HKR := Lib.hid hkr; have HLR := Lib.hid hlr; have HBR := Lib.hid hbr; have HER := Lib.hid (HE.out.below hbr)
          by_cases hk2 : k < 2
          · obtain ⟨x, hx, hlx⟩ : ∃ x, wr.cell? ⟨g, k, none⟩ = some (str x) ∧ x.length ≤ 1000 := by
              rcases (show k = 0 ∨ k = 1 by omega) with rfl | rfl
              · exact ⟨h', hgr.at (o := 0) rfl, by omega⟩
              · exact ⟨ho4, hgr.at (o := 1) rfl, lo⟩
            have d0 := hkr.at (o := 0) rfl
            have d1 := hkr.at (o := 1) rfl
            have d2 := hkr.at (o := 2) rfl
            have d3 := hkr.at (o := 3) rfl
            have d4 := hkr.at (o := 4) rfl
            have d5 := hkr.at (o := 5) rfl
            have g0 := hlr.at (o := 0) rfl
            have g1 := hlr.at (o := 1) rfl
            have g2 := hlr.at (o := 2) rfl
            have g3 := hlr.at (o := 3) rfl
            have g4 := hlr.at (o := 4) rfl
            have g5 := hlr.at (o := 5) rfl
            clear hgr hkr hlr hbr
            have HH := Lib.hid (fun W h => HHO.out x W h hlx)
            have HS := Lib.hid (HSO.out x (by first | rfl | trivial))
            obtain ⟨u, hu⟩ : ∃ u, u = holdsB ⟨al4, ro4, te4, ho4, fr4, ti4⟩ role ten x port := ⟨_, rfl⟩
            obtain ⟨v, hv⟩ : ∃ v, v = holdsB ⟨al3, ro3, te3, ho3, fr3, ti3⟩ role ten x port := ⟨_, rfl⟩
            rw [← hu, ← hv] at HH HS
            clear hu hv
            go_wp2_with fail
            refine ((HH.out wr HER.out).2).mono ?_
            rintro e W8 ⟨rfl, hB⟩
            clear d0 d1 d2 d3 d4 d5 g0 g1 g2 g3 g4 g5
            have HG8 := Lib.hid (HGR.out.below hB HGR.out.lt)
            have HK8 := Lib.hid (HKR.out.below hB HKR.out.lt)
            have HL8 := Lib.hid (HLR.out.below hB HLR.out.lt)
            have HB8 := Lib.hid (HBR.out.trans (hB.mono HBR.out.size))
            have HE8 := Lib.hid (HER.out.below hB)
            clear hB
            have hk_ := HK8.out
            have hl_ := HL8.out
            have d0 := hk_.at (o := 0) rfl
            have d1 := hk_.at (o := 1) rfl
            have d2 := hk_.at (o := 2) rfl
            have d3 := hk_.at (o := 3) rfl
            have d4 := hk_.at (o := 4) rfl
            have d5 := hk_.at (o := 5) rfl
            have g0 := hl_.at (o := 0) rfl
            have g1 := hl_.at (o := 1) rfl
            have g2 := hl_.at (o := 2) rfl
            have g3 := hl_.at (o := 3) rfl
            have g4 := hl_.at (o := 4) rfl
            have g5 := hl_.at (o := 5) rfl
            clear hk_ hl_
            cases u
            · go_wp2_with fail
              go_roundw
              case rel => exact ⟨k + 1, by omega, by go_num, HG8.out, HK8.out, HL8.out, HB8.out⟩
              case measure => simp [intOf]; omega
            · obtain rfl := HS.out (by first | rfl | trivial)
              go_wp2_with fail
              refine ((HH.out W8 HE8.out).1).mono ?_
              rintro e W9 ⟨rfl, hB⟩
              clear d0 d1 d2 d3 d4 d5 g0 g1 g2 g3 g4 g5
              have HG9 := Lib.hid (HG8.out.below hB HG8.out.lt)
              have HK9 := Lib.hid (HK8.out.below hB HK8.out.lt)
              have HL9 := Lib.hid (HL8.out.below hB HL8.out.lt)
              have HB9 := Lib.hid (HB8.out.trans (hB.mono HB8.out.size))
              have HE9 := Lib.hid (HE8.out.below hB)
              clear hB
              have hk_ := HK9.out
              have hl_ := HL9.out
              have d0 := hk_.at (o := 0) rfl
              have d1 := hk_.at (o := 1) rfl
              have d2 := hk_.at (o := 2) rfl
              have d3 := hk_.at (o := 3) rfl
              have d4 := hk_.at (o := 4) rfl
              have d5 := hk_.at (o := 5) rfl
              have g0 := hl_.at (o := 0) rfl
              have g1 := hl_.at (o := 1) rfl
              have g2 := hl_.at (o := 2) rfl
              have g3 := hl_.at (o := 3) rfl
              have g4 := hl_.at (o := 4) rfl
              have g5 := hl_.at (o := 5) rfl
              clear hk_ hl_
              go_wp2_with fail
              go_roundw
              case rel => exact ⟨k + 1, by omega, by go_num, HG9.out, HK9.out, HL9.out, HB9.out⟩
              case measure => simp [intOf]; omega
          · have : k = 2 := by omega
            subst this
            clear hgr hkr hlr hbr
            go_wp2_with fail
            go_ret
            exact ⟨rfl, HBR.out⟩
  · skip
    have hkk := HL1.out
    have f0 := hkk.at (o := 0) rfl
    have f1 := hkk.at (o := 1) rfl
    have f2 := hkk.at (o := 2) rfl
    have f3 := hkk.at (o := 3) rfl
    have f4 := hkk.at (o := 4) rfl
    have f5 := hkk.at (o := 5) rfl
    refine wpOp_valueD 20 rfl rfl rfl (.agg #[.bool al2, str ro2, str te2, str ho2, .int .i64 fr2, .int .i64 ti2]) (by go_simp) ?_
    go_frame
    clear hkk f0 f1 f2 f3 f4 f5
    refine wpAny_all (rs := [0]) (by kernel_rfl) (by simp) ?_
    simp only [List.mem_singleton, forall_eq]
    have hkk := HK1.out
    have f0 := hkk.at (o := 0) rfl
    have f1 := hkk.at (o := 1) rfl
    have f2 := hkk.at (o := 2) rfl
    have f3 := hkk.at (o := 3) rfl
    have f4 := hkk.at (o := 4) rfl
    have f5 := hkk.at (o := 5) rfl
    refine wpOp_valueD 18 rfl rfl rfl (.agg #[.bool al1, str ro1, str te1, str ho1, .int .i64 fr1, .int .i64 ti1]) (by go_simp) ?_
    go_frame
    clear hkk f0 f1 f2 f3 f4 f5
    refine wpAny_all (rs := [1]) (by kernel_rfl) (by simp) ?_
    simp only [List.mem_singleton, forall_eq]
    refine wpOp_callD 19 rfl rfl rfl 9 #[.agg #[.bool al1, str ro1, str te1, str ho1, .int .i64 fr1, .int .i64 ti1]] (by go_simp) ?_
    refine (HF1.out V1).mono ?_
    rintro e W2 ⟨rfl, hB⟩
    have HK2 := Lib.hid (HK1.out.below hB HK1.out.lt)
    have HL2 := Lib.hid (HL1.out.below hB HL1.out.lt)
    have HB2 := Lib.hid (HB1.out.trans (hB.mono HB1.out.size))
    have HE2 := Lib.hid (HE1.out.below hB)
    clear hB
    refine ⟨_, rfl, ?_⟩
    go_frame
    refine wpAny_all (rs := [3]) (by kernel_rfl) (by simp) ?_
    simp only [List.mem_singleton, forall_eq]
    refine wpOp_callD 21 rfl rfl rfl 9 #[.agg #[.bool al2, str ro2, str te2, str ho2, .int .i64 fr2, .int .i64 ti2]] (by go_simp) ?_
    refine (HF2.out W2).mono ?_
    rintro e W3 ⟨rfl, hB⟩
    have HK3 := Lib.hid (HK2.out.below hB HK2.out.lt)
    have HL3 := Lib.hid (HL2.out.below hB HL2.out.lt)
    have HB3 := Lib.hid (HB2.out.trans (hB.mono HB2.out.size))
    have HE3 := Lib.hid (HE2.out.below hB)
    clear hB
    refine ⟨_, rfl, ?_⟩
    go_frame
    refine wpAny_all (rs := [4]) (by kernel_rfl) (by simp) ?_
    simp only [List.mem_singleton, forall_eq]
    obtain ⟨Y, hY⟩ : ∃ Y, Y = W3.setCells q 0 [.bool al3, str ro3, str te3, str ho3, .int .i64 fr3, .int .i64 ti3] := ⟨_, rfl⟩
    have hky : Blk Y q [.bool al3, str ro3, str te3, str ho3, .int .i64 fr3, .int .i64 ti3] := by rw [hY]; exact HK3.out.setAll rfl
    have hly : Blk Y (q + 1) [.bool al2, str ro2, str te2, str ho2, .int .i64 fr2, .int .i64 ti2] := by rw [hY]; exact HL3.out.grown (grown_setCells _ _ _ _) (by simp)
    have hby : Below w.heap.size w Y := by rw [hY]; exact below_setCells (by have := HQ.out; omega) _ HB3.out 0
    refine wpOp_storeN rfl rfl rfl 26 (.tmp 6) (.tmp 19) rfl q 0 #[.bool al3, str ro3, str te3, str ho3, .int .i64 fr3, .int .i64 ti3] rfl rfl (HK3.out.there 0 6 (Nat.le_refl _)) (by kernel_rfl) (by simp [Value.oneCell']) ?_
    rw [show (#[.bool al3, str ro3, str te3, str ho3, .int .i64 fr3, .int .i64 ti3] : Array Value).toList = [.bool al3, str ro3, str te3, str ho3, .int .i64 fr3, .int .i64 ti3] from rfl, ← hY]
    refine wpAny_all (rs := [5]) (by kernel_rfl) (by simp) ?_
    simp only [List.mem_singleton, forall_eq]
    obtain ⟨Z, hZ⟩ : ∃ Z, Z = Y.setCells (q + 1) 0 [.bool al4, str ro4, str te4, str ho4, .int .i64 fr4, .int .i64 ti4] := ⟨_, rfl⟩
    have hkz : Blk Z q [.bool al3, str ro3, str te3, str ho3, .int .i64 fr3, .int .i64 ti3] := by rw [hZ]; exact hky.grown (grown_setCells _ _ _ _) (by simp)
    have hlz : Blk Z (q + 1) [.bool al4, str ro4, str te4, str ho4, .int .i64 fr4, .int .i64 ti4] := by rw [hZ]; exact hly.setAll rfl
    have hbz : Below w.heap.size w Z := by rw [hZ]; exact below_setCells (by have := HQ.out; omega) _ hby 0
    refine wpOp_storeN rfl rfl rfl 26 (.tmp 7) (.tmp 21) rfl (q + 1) 0 #[.bool al4, str ro4, str te4, str ho4, .int .i64 fr4, .int .i64 ti4] rfl rfl (hly.there 0 6 (Nat.le_refl _)) (by kernel_rfl) (by simp [Value.oneCell']) ?_
    rw [show (#[.bool al4, str ro4, str te4, str ho4, .int .i64 fr4, .int .i64 ti4] : Array Value).toList = [.bool al4, str ro4, str te4, str ho4, .int .i64 fr4, .int .i64 ti4] from rfl, ← hZ]
    refine wpAny_done (by kernel_rfl) ?_ _
    have HK4 := Lib.hid hkz; have HL4 := Lib.hid hlz; have HB4 := Lib.hid hbz; have HE4 := Lib.hid (HE.out.below hbz)
    clear hY hky hly hby hZ hkz hlz hbz HK3 HL3 HB3 HE3 HF1 HF2
    have hk := HK4.out
    have hl := HL4.out
    have d0 := hk.at (o := 0) rfl
    have d1 := hk.at (o := 1) rfl
    have d2 := hk.at (o := 2) rfl
    have d3 := hk.at (o := 3) rfl
    have d4 := hk.at (o := 4) rfl
    have d5 := hk.at (o := 5) rfl
    have g0 := hl.at (o := 0) rfl
    have g1 := hl.at (o := 1) rfl
    have g2 := hl.at (o := 2) rfl
    have g3 := hl.at (o := 3) rfl
    have g4 := hl.at (o := 4) rfl
    have g5 := hl.at (o := 5) rfl
    clear hk hl
    cases c
    · skip
      go_wp2_with fail
      refine (HCT.out _).mono ?_
      rintro e W4 ⟨rfl, rfl⟩
      go_wp2_with fail
      refine (HCV.out _ HE4.out).mono ?_
      rintro e W5 ⟨rfl, hB⟩
      clear d0 d1 d2 d3 d4 d5 g0 g1 g2 g3 g4 g5
      have HK5 := Lib.hid (HK4.out.below hB HK4.out.lt)
      have HL5 := Lib.hid (HL4.out.below hB HL4.out.lt)
      have HB5 := Lib.hid (HB4.out.trans (hB.mono HB4.out.size))
      have HE5 := Lib.hid (HE4.out.below hB)
      clear hB
      have hk := HK5.out
      have hl := HL5.out
      have d0 := hk.at (o := 0) rfl
      have d1 := hk.at (o := 1) rfl
      have d2 := hk.at (o := 2) rfl
      have d3 := hk.at (o := 3) rfl
      have d4 := hk.at (o := 4) rfl
      have d5 := hk.at (o := 5) rfl
      have g0 := hl.at (o := 0) rfl
      have g1 := hl.at (o := 1) rfl
      have g2 := hl.at (o := 2) rfl
      have g3 := hl.at (o := 3) rfl
      have g4 := hl.at (o := 4) rfl
      have g5 := hl.at (o := 5) rfl
      clear hk hl
      go_wp2_with fail
      refine (HRC.out _).mono ?_
      rintro e W6 ⟨rfl, hB⟩
      clear d0 d1 d2 d3 d4 d5 g0 g1 g2 g3 g4 g5
      have HK6 := Lib.hid (HK5.out.below hB HK5.out.lt)
      have HL6 := Lib.hid (HL5.out.below hB HL5.out.lt)
      have HB6 := Lib.hid (HB5.out.trans (hB.mono HB5.out.size))
      have HE6 := Lib.hid (HE5.out.below hB)
      clear hB
      have hk := HK6.out
      have hl := HL6.out
      have d0 := hk.at (o := 0) rfl
      have d1 := hk.at (o := 1) rfl
      have d2 := hk.at (o := 2) rfl
      have d3 := hk.at (o := 3) rfl
      have d4 := hk.at (o := 4) rfl
      have d5 := hk.at (o := 5) rfl
      have g0 := hl.at (o := 0) rfl
      have g1 := hl.at (o := 1) rfl
      have g2 := hl.at (o := 2) rfl
      have g3 := hl.at (o := 3) rfl
      have g4 := hl.at (o := 4) rfl
      have g5 := hl.at (o := 5) rfl
      clear hk hl
      go_wp2_with fail
      obtain ⟨g, hg⟩ : ∃ g, g = W6.heap.size := ⟨_, rfl⟩
      obtain ⟨W7, hW7⟩ : ∃ W7, W7 = W6.alloc (.cells #[str h', str ho4] 9) := ⟨_, rfl⟩
      have HG7 := Lib.hid (show Blk W7 g [str h', str ho4] from by rw [hW7, hg]; exact Blk.new W6 _ _)
      have HK7 := Lib.hid (show Blk W7 q [.bool al3, str ro3, str te3, str ho3, .int .i64 fr3, .int .i64 ti3] from by rw [hW7]; exact HK6.out.alloc _)
      have HL7 := Lib.hid (show Blk W7 (q + 1) [.bool al4, str ro4, str te4, str ho4, .int .i64 fr4, .int .i64 ti4] from by rw [hW7]; exact HL6.out.alloc _)
      have HB7 := Lib.hid (show Below w.heap.size w W7 from by rw [hW7]; exact HB6.out.alloc HB6.out.size _)
      rw [← hW7, ← hg]
      clear hW7 hg d0 d1 d2 d3 d4 d5 g0 g1 g2 g3 g4 g5
      go_loopw [15, 37] (fun _ i wr => ∃ k : Nat, k ≤ 2 ∧ i = .int .i64 (k : Int) ∧ Blk wr g [str h', str ho4] ∧ Blk wr q [.bool al3, str ro3, str te3, str ho3, .int .i64 fr3, .int .i64 ti3] ∧ Blk wr (q + 1) [.bool al4, str ro4, str te4, str ho4, .int .i64 fr4, .int .i64 ti4] ∧ Below w.heap.size w wr) (fun _ i _ => 2 - (intOf i).toNat)
      case atStart => exact ⟨0, by omega, rfl, HG7.out, HK7.out, HL7.out, HB7.out⟩
      case round =>
        obtain ⟨k, hk, rfl, hgr, hkr, hlr, hbr⟩ := hrel
        have HGR := Lib.hid hgr; have HKR := Lib.hid hkr; have HLR := Lib.hid hlr; have HBR := Lib.hid hbr; have HER := Lib.hid (HE.out.below hbr)
        by_cases hk2 : k < 2
        · obtain ⟨x, hx, hlx⟩ : ∃ x, wr.cell? ⟨g, k, none⟩ = some (str x) ∧ x.length ≤ 1000 := by
            rcases (show k = 0 ∨ k = 1 by omega) with rfl | rfl
            · exact ⟨h', hgr.at (o := 0) rfl, by omega⟩
            · exact ⟨ho4, hgr.at (o := 1) rfl, lo⟩
          have d0 := hkr.at (o := 0) rfl
          have d1 := hkr.at (o := 1) rfl
          have d2 := hkr.at (o := 2) rfl
          have d3 := hkr.at (o := 3) rfl
          have d4 := hkr.at (o := 4) rfl
          have d5 := hkr.at (o := 5) rfl
          have g0 := hlr.at (o := 0) rfl
          have g1 := hlr.at (o := 1) rfl
          have g2 := hlr.at (o := 2) rfl
          have g3 := hlr.at (o := 3) rfl
          have g4 := hlr.at (o := 4) rfl
          have g5 := hlr.at (o := 5) rfl
          clear hgr hkr hlr hbr
          go_wp2_with fail
          go_roundw
          case rel => exact ⟨k + 1, by omega, by go_num, HGR.out, HKR.out, HLR.out, HBR.out⟩
          case measure => simp [intOf]; omega
        · have : k = 2 := by omega
          subst this
          clear hgr hkr hlr hbr
          go_wp2_with fail
          go_ret
          exact ⟨rfl, HBR.out⟩
    · skip
      go_wp2_with fail
      refine (HCT.out _).mono ?_
      rintro e W4 ⟨rfl, rfl⟩
      go_wp2_with fail
      refine (HCV.out _ HE4.out).mono ?_
      rintro e W5 ⟨rfl, hB⟩
      clear d0 d1 d2 d3 d4 d5 g0 g1 g2 g3 g4 g5
      have HK5 := Lib.hid (HK4.out.below hB HK4.out.lt)
      have HL5 := Lib.hid (HL4.out.below hB HL4.out.lt)
      have HB5 := Lib.hid (HB4.out.trans (hB.mono HB4.out.size))
      have HE5 := Lib.hid (HE4.out.below hB)
      clear hB
      have hk := HK5.out
      have hl := HL5.out
      have d0 := hk.at (o := 0) rfl
      have d1 := hk.at (o := 1) rfl
      have d2 := hk.at (o := 2) rfl
      have d3 := hk.at (o := 3) rfl
      have d4 := hk.at (o := 4) rfl
      have d5 := hk.at (o := 5) rfl
      have g0 := hl.at (o := 0) rfl
      have g1 := hl.at (o := 1) rfl
      have g2 := hl.at (o := 2) rfl
      have g3 := hl.at (o := 3) rfl
      have g4 := hl.at (o := 4) rfl
      have g5 := hl.at (o := 5) rfl
      clear hk hl
      go_wp2_with fail
      refine (HRC.out _).mono ?_
      rintro e W6 ⟨rfl, hB⟩
      clear d0 d1 d2 d3 d4 d5 g0 g1 g2 g3 g4 g5
      have HK6 := Lib.hid (HK5.out.below hB HK5.out.lt)
      have HL6 := Lib.hid (HL5.out.below hB HL5.out.lt)
      have HB6 := Lib.hid (HB5.out.trans (hB.mono HB5.out.size))
      have HE6 := Lib.hid (HE5.out.below hB)
      clear hB
      have hk := HK6.out
      have hl := HL6.out
      have d0 := hk.at (o := 0) rfl
      have d1 := hk.at (o := 1) rfl
      have d2 := hk.at (o := 2) rfl
      have d3 := hk.at (o := 3) rfl
      have d4 := hk.at (o := 4) rfl
      have d5 := hk.at (o := 5) rfl
      have g0 := hl.at (o := 0) rfl
      have g1 := hl.at (o := 1) rfl
      have g2 := hl.at (o := 2) rfl
      have g3 := hl.at (o := 3) rfl
      have g4 := hl.at (o := 4) rfl
      have g5 := hl.at (o := 5) rfl
      clear hk hl
      go_wp2_with fail
      obtain ⟨g, hg⟩ : ∃ g, g = W6.heap.size := ⟨_, rfl⟩
      obtain ⟨W7, hW7⟩ : ∃ W7, W7 = W6.alloc (.cells #[str h', str ho4] 9) := ⟨_, rfl⟩
      have HG7 := Lib.hid (show Blk W7 g [str h', str ho4] from by rw [hW7, hg]; exact Blk.new W6 _ _)
      have HK7 := Lib.hid (show Blk W7 q [.bool al3, str ro3, str te3, str ho3, .int .i64 fr3, .int .i64 ti3] from by rw [hW7]; exact HK6.out.alloc _)
      have HL7 := Lib.hid (show Blk W7 (q + 1) [.bool al4, str ro4, str te4, str ho4, .int .i64 fr4, .int .i64 ti4] from by rw [hW7]; exact HL6.out.alloc _)
      have HB7 := Lib.hid (show Below w.heap.size w W7 from by rw [hW7]; exact HB6.out.alloc HB6.out.size _)
      rw [← hW7, ← hg]
      clear hW7 hg d0 d1 d2 d3 d4 d5 g0 g1 g2 g3 g4 g5
      go_loopw [15, 37] (fun _ i wr => ∃ k : Nat, k ≤ 2 ∧ i = .int .i64 (k : Int) ∧ Blk wr g [str h', str ho4] ∧ Blk wr q [.bool al3, str ro3, str te3, str ho3, .int .i64 fr3, .int .i64 ti3] ∧ Blk wr (q + 1) [.bool al4, str ro4, str te4, str ho4, .int .i64 fr4, .int .i64 ti4] ∧ Below w.heap.size w wr) (fun _ i _ => 2 - (intOf i).toNat)
      case atStart => exact ⟨0, by omega, rfl, HG7.out, HK7.out, HL7.out, HB7.out⟩
      case round =>
        obtain ⟨k, hk, rfl, hgr, hkr, hlr, hbr⟩ := hrel
        have HGR := Lib.hid hgr; have HKR := Lib.hid hkr; have HLR := Lib.hid hlr; have HBR := Lib.hid hbr; have HER := Lib.hid (HE.out.below hbr)
        by_cases hk2 : k < 2
        · obtain ⟨x, hx, hlx⟩ : ∃ x, wr.cell? ⟨g, k, none⟩ = some (str x) ∧ x.length ≤ 1000 := by
            rcases (show k = 0 ∨ k = 1 by omega) with rfl | rfl
            · exact ⟨h', hgr.at (o := 0) rfl, by omega⟩
            · exact ⟨ho4, hgr.at (o := 1) rfl, lo⟩
          have d0 := hkr.at (o := 0) rfl
          have d1 := hkr.at (o := 1) rfl
          have d2 := hkr.at (o := 2) rfl
          have d3 := hkr.at (o := 3) rfl
          have d4 := hkr.at (o := 4) rfl
          have d5 := hkr.at (o := 5) rfl
          have g0 := hlr.at (o := 0) rfl
          have g1 := hlr.at (o := 1) rfl
          have g2 := hlr.at (o := 2) rfl
          have g3 := hlr.at (o := 3) rfl
          have g4 := hlr.at (o := 4) rfl
          have g5 := hlr.at (o := 5) rfl
          clear hgr hkr hlr hbr
          have HH := Lib.hid (fun W h => HHO.out x W h hlx)
          have HS := Lib.hid (HSO.out x (by first | rfl | trivial))
          obtain ⟨u, hu⟩ : ∃ u, u = holdsB ⟨al4, ro4, te4, ho4, fr4, ti4⟩ role ten x port := ⟨_, rfl⟩
          obtain ⟨v, hv⟩ : ∃ v, v = holdsB ⟨al3, ro3, te3, ho3, fr3, ti3⟩ role ten x port := ⟨_, rfl⟩
          rw [← hu, ← hv] at HH HS
          clear hu hv
          go_wp2_with fail
          refine ((HH.out wr HER.out).2).mono ?_
          rintro e W8 ⟨rfl, hB⟩
          clear d0 d1 d2 d3 d4 d5 g0 g1 g2 g3 g4 g5
          have HG8 := Lib.hid (HGR.out.below hB HGR.out.lt)
          have HK8 := Lib.hid (HKR.out.below hB HKR.out.lt)
          have HL8 := Lib.hid (HLR.out.below hB HLR.out.lt)
          have HB8 := Lib.hid (HBR.out.trans (hB.mono HBR.out.size))
          have HE8 := Lib.hid (HER.out.below hB)
          clear hB
          have hk_ := HK8.out
          have hl_ := HL8.out
          have d0 := hk_.at (o := 0) rfl
          have d1 := hk_.at (o := 1) rfl
          have d2 := hk_.at (o := 2) rfl
          have d3 := hk_.at (o := 3) rfl
          have d4 := hk_.at (o := 4) rfl
          have d5 := hk_.at (o := 5) rfl
          have g0 := hl_.at (o := 0) rfl
          have g1 := hl_.at (o := 1) rfl
          have g2 := hl_.at (o := 2) rfl
          have g3 := hl_.at (o := 3) rfl
          have g4 := hl_.at (o := 4) rfl
          have g5 := hl_.at (o := 5) rfl
          clear hk_ hl_
          cases u
          · go_wp2_with fail
            go_roundw
            case rel => exact ⟨k + 1, by omega, by go_num, HG8.out, HK8.out, HL8.out, HB8.out⟩
            case measure => simp [intOf]; omega
          · obtain rfl := HS.out (by first | rfl | trivial)
            go_wp2_with fail
            refine ((HH.out W8 HE8.out).1).mono ?_
            rintro e W9 ⟨rfl, hB⟩
            clear d0 d1 d2 d3 d4 d5 g0 g1 g2 g3 g4 g5
            have HG9 := Lib.hid (HG8.out.below hB HG8.out.lt)
            have HK9 := Lib.hid (HK8.out.below hB HK8.out.lt)
            have HL9 := Lib.hid (HL8.out.below hB HL8.out.lt)
            have HB9 := Lib.hid (HB8.out.trans (hB.mono HB8.out.size))
            have HE9 := Lib.hid (HE8.out.below hB)
            clear hB
            have hk_ := HK9.out
            have hl_ := HL9.out
            have d0 := hk_.at (o := 0) rfl
            have d1 := hk_.at (o := 1) rfl
            have d2 := hk_.at (o := 2) rfl
            have d3 := hk_.at (o := 3) rfl
            have d4 := hk_.at (o := 4) rfl
            have d5 := hk_.at (o := 5) rfl
            have g0 := hl_.at (o := 0) rfl
            have g1 := hl_.at (o := 1) rfl
            have g2 := hl_.at (o := 2) rfl
            have g3 := hl_.at (o := 3) rfl
            have g4 := hl_.at (o := 4) rfl
            have g5 := hl_.at (o := 5) rfl
            clear hk_ hl_
            go_wp2_with fail
            go_roundw
            case rel => exact ⟨k + 1, by omega, by go_num, HG9.out, HK9.out, HL9.out, HB9.out⟩
            case measure => simp [intOf]; omega
        · have : k = 2 := by omega
          subst this
          clear hgr hkr hlr hbr
          go_wp2_with fail
          go_ret
          exact ⟨rfl, HBR.out⟩
end Go.Proofs.YtpihpoapapfnkaaDoor
