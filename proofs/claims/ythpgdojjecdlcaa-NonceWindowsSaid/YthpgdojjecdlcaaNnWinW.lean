/- The statement NonceWindows' own text, walked. -/
import Derived.Test.YthpgdojjecdlcaaNnGv
import Derived.Deep.DeepCutAuto
import Derived.Deep.CutBlock
set_option maxRecDepth 100000
namespace Go.Proofs.Ythpgdojjecdlcaa
open Go.RowKit Go.Shelf
theorem Sl.one (W : World) (c : UInt8) (cs : Array Value) (t : TypeId) (h : cs.toList = [vb c]) {B b : Nat} (hb : b = W.heap.size) (hB : W.heap.size < B) : Sl (W.alloc (.cells cs t)) B (.slice (some ⟨b, 0, none⟩) 1 1) [c] := by
  subst hb
  refine ⟨_, _, rfl, (fun h => by cases h), Nat.le_refl _, by omega, fun _ => ⟨_, 0, rfl, hB, ?_⟩⟩
  refine Bs.of_blk (Blk.newA W cs t) 0 fun j hj => ?_
  rw [h]
  obtain rfl : j = 0 := by simp at hj; omega
  rfl
theorem bn_small (j : Nat) (h : j < 256) : bn (UInt8.ofNat j) = (j : Int) := by unfold bn; rw [UInt8.toNat_ofNat']; omega
theorem WI.chk {K : Nat} {wd now now2 : Int} {f : NF} {l G : PLn} (h : WI K wd f l G now) (hn : now ≤ now2) (hw : 1 ≤ wd) (hG : G.length ≤ 20) (i : Nat) (hi : i < G.length) :
    ∃ s a, (gv G)[i * 2]? = some (strT s) ∧ (gv G)[i * 2 + 1]? = some (u64v a) ∧ 0 ≤ a ∧ a ≤ now ∧ s.length ≤ 100000 ∧
    ((fiN f l s now2).2 = 0 → now2 - a ≤ wd ∧ ¬ (f.md = true ∧ a ≤ f.mr) ∧ G.length ≤ i + K) ∧
    ((fiN f l s now2).2 = 0 ∨ (fiN f l s now2).2 = 6 ∨ (fiN f l s now2).2 = 9) ∧
    (i + 1 = G.length → now2 - a ≤ wd → ¬ (f.md = true ∧ a ≤ f.mr) → (fiN f l s now2).2 = 0) :=
  ⟨_, _, (gv_at G i hi).1, (gv_at G i hi).2, (h.tm _ (List.getElem_mem hi)).1, (h.tm _ (List.getElem_mem hi)).2, by
    rw [(h.key i hi).2, nonL_len, (dw_ok i (by omega)).2]; omega, h.check hn hw hG i hi⟩
/-- Between the rounds of the first loop. -/
def WA (w : World) (B0 S T m K : Nat) (wd : Int) (G : PLn) (N : Int) (v : Value) (wr : World) : Prop :=
  ∃ f l, WI K wd f l G N ∧ NS wr B0 S T m K f l ∧ wr.ownsRow B0 tGv 2 v G.length (gv G) ∧ Below w.heap.size w wr
set_option maxHeartbeats 8000000 in
theorem nonceWindows_law (u1 u2 u4 : Int) (B : Nat) (v : Value) (gs : List UInt8) (w : World) (h1 : 0 ≤ u1 ∧ u1 ≤ 255) (h2 : 0 ≤ u2 ∧ u2 ≤ 65535) (hv : Sl w B v gs) (hB : B ≤ w.heap.size) (h4 : 0 ≤ u4 ∧ u4 ≤ 65535) :
    Calls Try.prog 5 #[.int .u8 u1, .int .u16 u2, v, .int .u16 u4] w fun e w' => e = .returned (.bool true) ∧ Below w.heap.size w w' := by
  obtain ⟨K, hK⟩ : ∃ K : Nat, (K : Int) = 1 + u1 % 6 := ⟨(1 + u1 % 6).toNat, by omega⟩
  obtain ⟨wd, hwd⟩ : ∃ wd : Int, wd = 1 + u2 % 300 := ⟨_, rfl⟩
  have hK1 : 1 ≤ K := by omega
  have hK2 : K ≤ 6 := by omega
  have hw1 : 1 ≤ wd := by omega
  have hw2 : wd ≤ 300 := by omega
  have hm1 : 0 ≤ u1 % 6 ∧ u1 % 6 < 6 := by omega
  have hm2 : 0 ≤ u2 % 300 ∧ u2 % 300 < 300 := by omega
  have hm4 : 0 ≤ u4 % 400 ∧ u4 % 400 < 400 := by omega
  have HK := Lib.hid hK; clear hK
  have HWD := Lib.hid hwd; clear hwd
  have HV := Lib.hid hv
  obtain ⟨A, c, rfl, _, hc1, hc2, _⟩ := hv
  go_enter Try.func5, Try.ntmps5
  go_wp2_with fail
  refine (awake12 w).mono ?_
  rintro e w1 ⟨rfl, hB1⟩
  have HB1 := Lib.hid hB1; clear hB1
  go_wp2_with fail
  rw [← HK.out, ← HWD.out]
  refine (new_ns K wd w1 hK1 (by omega) hw1 (by omega)).mono ?_
  rintro e w2 ⟨S, T, m, rfl, h2, hb2⟩
  have HA0 : Hid (WA w w1.heap.size S T m K wd [] 0 (.slice none 0 0) w2) := Lib.hid ⟨_, _, WI.start K wd, h2, World.ownsRow_nil _ _ _ _, HB1.out.trans (hb2.mono HB1.out.size)⟩
  obtain ⟨B0, hB0⟩ : ∃ B0, B0 = w1.heap.size := ⟨_, rfl⟩
  rw [← hB0] at HA0
  have HB0 : Hid (w.heap.size ≤ B0) := Lib.hid (by rw [hB0]; exact HB1.out.size)
  clear h2 hb2 hB0
  go_upto_block 0 with fail
  go_cut [13, 14] (fun s13 s14 wx => ∃ (G : PLn) (N : Int), s14 = u64v N ∧ 0 ≤ N ∧ N ≤ 1000 ∧ G.length ≤ 20 ∧ WA w B0 S T m K wd G N s13 wx)
  case first =>
    go_wp2_with fail
    go_loopw [13, 14, 45] (fun s13 s14 i wr => ∃ (G : PLn) (N : Int), s14 = u64v N ∧ 0 ≤ N ∧ N ≤ 50 * (G.length : Int) ∧ G.length ≤ 20 ∧ G.length ≤ gs.length ∧ i = .int .i64 (G.length : Int) ∧ WA w B0 S T m K wd G N s13 wr) (fun _ _ i _ => gs.length - (intOf i).toNat)
    case atStart => exact ⟨[], 0, rfl, by omega, by simp, by simp, by simp, rfl, HA0.out⟩
    case round =>
      obtain ⟨G, N, rfl, hN0, hN1, hG20, hGs, rfl, hWA⟩ := hrel
      have HWA := Lib.hid hWA; clear hWA
      obtain ⟨j, hj⟩ : ∃ j, j = G.length := ⟨_, rfl⟩
      rw [← hj] at hN1 hG20 hGs ⊢
      have HJ := Lib.hid hj; clear hj
      by_cases hlt : j < gs.length
      · obtain ⟨f, l, hWI, hNS, hrow, hB⟩ := HWA.out
        obtain ⟨b, o, rfl, hb, hbs⟩ : ∃ b o, A = some ⟨b, o, none⟩ ∧ b < B ∧ Bs w b o gs := by
          obtain ⟨A', c', e, _, _, _, h3⟩ := HV.out
          obtain ⟨b, o, rfl, hb, hbs⟩ := h3 (by omega)
          cases e
          exact ⟨b, o, rfl, hb, hbs⟩
        obtain ⟨x, hx⟩ : ∃ x, x = gs.getD j 0 := ⟨_, rfl⟩
        have hc : wr.cell? ⟨b, o + j, none⟩ = some (vb x) := by rw [hx]; exact (hbs.below hB (by omega)).getD hlt
        have hxr := bn_range x
        clear hx hbs
        by_cases h20 : j < 20
        · have HWI := Lib.hid hWI; have HNS := Lib.hid hNS; have HROW := Lib.hid hrow; have HB := Lib.hid hB
          clear hWI hNS hrow hB
          have hbj := bn_small j (by omega)
          have HBJ := Lib.hid hbj; clear hbj
          obtain ⟨N2, hN2⟩ : ∃ N2, N2 = N + bn x % 50 := ⟨_, rfl⟩
          have hN20 : 0 ≤ N2 ∧ N ≤ N2 ∧ N2 ≤ 50 * ((j : Int) + 1) := by omega
          obtain ⟨f2, l2, hi, hWI2⟩ := (HWI.out.later hN20.2.1).issue hK1 (by rw [← HJ.out]; exact h20)
          rw [← HJ.out] at hi hWI2
          obtain ⟨nn, hnn⟩ : ∃ nn, nn = nonL (dw j) ((j : Int) + 1) := ⟨_, rfl⟩
          rw [← hnn] at hi hWI2
          have HI := Lib.hid hi; have HWI2 := Lib.hid hWI2
          have HN2 := Lib.hid hN2
          clear hnn hi hWI2 hN2
          obtain ⟨eh, heh⟩ : ∃ eh, eh = encH [UInt8.ofNat j] := ⟨_, rfl⟩
          have hel : eh.length ≤ 2 := by rw [heh, encH_len]; simp
          have hcat : (ByteArray.mk #[100]) ++ (ByteArray.mk eh.toArray) = ByteArray.mk (dw j).toArray := by rw [heh]; exact str_app [100] _
          have HEH := Lib.hid heh
          have HCAT := Lib.hid hcat
          have hjl := (dw_ok j h20).2
          obtain ⟨dj, hdj⟩ : ∃ dj, dj = dw j := ⟨_, rfl⟩
          rw [← hdj] at HCAT HI HWI2 hjl
          have hdl : dj.length ≤ 100000 := by omega
          clear hdj heh hcat hjl
          go_wp2_with fail
          obtain ⟨W1, hW1⟩ : ∃ W1, W1 = wr.alloc (.cells #[.int .u8 (j : Int)] 5) := ⟨_, rfl⟩
          have hBW : Below wr.heap.size wr W1 := by rw [hW1]; exact (Below.refl _ wr).alloc (Nat.le_refl _) _
          have hsl : Sl W1 (wr.heap.size + 1) (.slice (some ⟨wr.heap.size, 0, none⟩) 1 1) [UInt8.ofNat j] := by rw [hW1]; exact Sl.one wr _ _ _ (by rw [vb, HBJ.out]) rfl (by omega)
          have hsz : wr.heap.size + 1 ≤ W1.heap.size := by rw [hW1]; simp
          rw [← hW1]
          have HX := Lib.hid (refHex_any (wr.heap.size + 1) _ _ W1 hsl hsz (by simp))
          rw [← HEH.out] at HX
          clear hsl hW1 hsz hc
          refine HX.out.mono ?_
          rintro e w3 ⟨rfl, hb3⟩
          have hB3 := hBW.trans (hb3.mono hBW.size)
          have H3 := Lib.hid (HNS.out.keep hB3)
          have HR3 := Lib.hid (enRow_below HROW.out hB3)
          have HB3 := Lib.hid (HB.out.trans (hB3.mono HB.out.size))
          have hcat := HCAT.out
          clear hBW hb3 hB3 HX HNS HROW HB
          go_wp2_with fail
          rw [← HN2.out]
          clear hcat
          refine (issue_eq H3.out N2 HI.out hdl (by omega) (by omega) (HWI.out.ok (by omega)) hK1 (by rw [HWI.out.se]; omega) (by rw [HWI.out.se, ← HJ.out]; omega)).mono ?_
          rintro e w4 ⟨rfl, h4, f4⟩
          have HR4 := Lib.hid (f4.row H3.out HR3.out (by decide))
          have H4 := Lib.hid h4
          have HB4 := Lib.hid (HB3.out.trans (f4.low.mono HB0.out))
          clear h4 f4 H3 HR3 HB3
          have HNW := Lib.hid (heap_alloc_new w4 (.cells #[strT nn, u64v N2] tGv))
          have hBA : Below w4.heap.size w4 (w4.alloc (.cells #[strT nn, u64v N2] tGv)) := (Below.refl _ _).alloc (Nat.le_refl _) _
          have HRA := Lib.hid (enRow_below HR4.out hBA)
          have HNA := Lib.hid (H4.out.keep hBA)
          have HBA := Lib.hid (HB4.out.trans (hBA.mono HB4.out.size))
          have HSZ : Hid (B0 ≤ (w4.alloc (.cells #[strT nn, u64v N2] tGv)).heap.size) := Lib.hid (by have := H4.out.tb.base_le; have := hBA.size; omega)
          have HPL : Hid (G.length ≤ 100000) := Lib.hid (by rw [← HJ.out]; omega)
          clear hBA HR4 H4 HB4
          obtain ⟨Ag, cg, rfl, _, _⟩ := enRow_form HRA.out
          go_wp2_with (at_builtin; go_loud ((with_reducible refine wpList_appG ?g1 (.tmp 70) (.tmp 74) ?g2 B0 (.slice Ag G.length cg) G.length (gv G) ?g3 ?g4 w4.heap.size nn N2 ?g5 ?g6 ?g7 ?g8 ?_); (case g1 => rfl); (case g2 => rfl); (case g3 => rfl); (case g4 => exact HRA.out); (case g5 => rfl); (case g6 => exact HNW.out); (case g7 => exact HPL.out); (case g8 => exact HSZ.out); intro v' w5 hv hg; have HR5 := Lib.hid hv; have H5 := Lib.hid (HNA.out.grown hg (row_cells HRA.out (by decide))); have HB5 := Lib.hid (HBA.out.grown hg (by have := HSZ.out; have := HB0.out; omega) (fun k hk => by have := (World.ownsRow.lt HRA.out k hk).1; have := HB0.out; omega)); clear hv hg))
          have hGl : (G ++ [(dj, (⟨nn, N2, false, 0⟩ : VT))]).length = j + 1 := by rw [List.length_append, ← HJ.out]; rfl
          refine ⟨⟨G ++ [(dj, ⟨nn, N2, false, 0⟩)], N2, rfl, by omega, by rw [hGl]; omega, by rw [hGl]; omega, by rw [hGl]; omega, by rw [hGl]; go_num, ⟨f2, l2, HWI2.out, H5.out, by rw [List.length_append, gv_snoc]; exact HR5.out, HB5.out⟩⟩, by simp [intOf]; omega⟩
        · clear hWI hNS hrow hB
          go_wp2_with fail
          go_meet
          exact ⟨G, N, rfl, hN0, by omega, by rw [← HJ.out]; exact hG20, HWA.out⟩
      · go_wp2_with fail
        go_meet
        exact ⟨G, N, rfl, hN0, by omega, by rw [← HJ.out]; exact hG20, HWA.out⟩
  case rest =>
    clear HA0
    obtain ⟨G, N, rfl, hN0, hN1, hG20, f, l, hWI, hNS, hrow, hB⟩ := hcut
    obtain ⟨Ag, cg, rfl, hcg1, hcg2⟩ := enRow_form hrow
    unfold maxLen at hcg2
    obtain ⟨n, hn⟩ : ∃ n, n = G.length := ⟨_, rfl⟩
    have HG := Lib.hid hn
    rw [← hn] at hrow hG20 hcg1 ⊢
    have HWI := Lib.hid hWI; have HNS := Lib.hid hNS; have HROW := Lib.hid hrow; have HB := Lib.hid hB
    obtain ⟨N2, hN2⟩ : ∃ N2, N2 = N + u4 % 400 := ⟨_, rfl⟩
    have hN20 : N ≤ N2 ∧ N2 ≤ 1400 := by omega
    have HN2 := Lib.hid hN2
    clear hWI hNS hrow hB hn hN2
    go_wp2_with fail
    rw [← HN2.out]
    refine (mark_any HNS.out).mono ?_
    rintro e w3 ⟨rfl, hb3⟩
    have H3 := Lib.hid (HNS.out.keep hb3)
    have HR3 := Lib.hid (enRow_below HROW.out hb3)
    have HB3 := Lib.hid (HB.out.trans (hb3.mono HB.out.size))
    clear hb3 HNS HROW HB
    obtain ⟨mr, hmr⟩ : ∃ mr, mr = f.mr := ⟨_, rfl⟩
    obtain ⟨md, hmd⟩ : ∃ md, md = f.md := ⟨_, rfl⟩
    have HMR := Lib.hid hmr; have HMD := Lib.hid hmd
    rw [← hmr, ← hmd]
    clear hmr hmd
    go_wp2_with fail
    go_loopw [89] (fun i wr => ∃ j : Nat, j ≤ n ∧ i = .int .i64 (j : Int) ∧ NS wr B0 S T m K f l ∧ wr.ownsRow B0 tGv 2 (.slice Ag n cg) n (gv G) ∧ Below w.heap.size w wr) (fun i _ => n - (intOf i).toNat)
    case atStart => exact ⟨0, by omega, rfl, H3.out, HR3.out, HB3.out⟩
    case round =>
      clear H3 HR3 HB3
      obtain ⟨j, hj, rfl, hNS, hrow, hB⟩ := hrel
      have H3 := Lib.hid hNS
      have HB3 := Lib.hid hB
      have HR3 := Lib.hid hrow
      by_cases hlt : j < n
      · obtain ⟨s, a, g1, g2, a0, a1, hs, k1, k2, k3⟩ := HWI.out.chk hN20.1 hw1 (by rw [← HG.out]; exact hG20) j (by rw [← HG.out]; exact hlt)
        obtain ⟨g, hAg⟩ : ∃ g, Ag = some ⟨g, 0, none⟩ := by
          rcases hrow.2 with ⟨e, _⟩ | ⟨g, cap', cur, e, _⟩
          · injection e with _ e2 _; omega
          · injection e with e1 _ _; exact ⟨g, e1⟩
        subst hAg
        have c0 : wr.cell? ⟨g, j * 2, none⟩ = some (strT s) := (World.ownsRow.cellAt hrow (j * 2) (by omega)).trans g1
        have c1 : wr.cell? ⟨g, j * 2 + 1, none⟩ = some (u64v a) := (World.ownsRow.cellAt hrow (j * 2 + 1) (by omega)).trans g2
        obtain ⟨c, hc⟩ : ∃ c, c = (fiN f l s N2).2 := ⟨_, rfl⟩
        rw [← hc, ← HMR.out, ← HMD.out, ← HG.out] at k1
        rw [← hc] at k2
        rw [← hc, ← HMR.out, ← HMD.out, ← HG.out] at k3
        obtain ⟨W, hW⟩ : ∃ W, W = wr.alloc (.cells #[strT s, u64v a] tGv) := ⟨_, rfl⟩
        have hBW : Below wr.heap.size wr W := by rw [hW]; exact (Below.refl _ wr).alloc (Nat.le_refl _) _
        have hP : BlkT W wr.heap.size tGv [strT s, u64v a] := by rw [hW]; exact heap_alloc_new wr _
        have d0 : (wr.alloc (.cells #[strT s, u64v a] tGv)).cell? ⟨wr.heap.size, 0, none⟩ = some (strT s) := by rw [← hW]; exact hP.at rfl
        have HCK := Lib.hid (check_ns (hNS.keep hBW) s N2 hs (by omega) (by omega) (HWI.out.ok (by omega)))
        rw [← hc] at HCK
        have HBW := Lib.hid hBW
        have HP := Lib.hid hP
        clear hc hP hBW g1 g2 hNS hrow hB
        go_wp2_with fail
        rw [← hW]
        refine HCK.out.mono ?_
        rintro e w4 ⟨rfl, hb4⟩
        have hb5 := HBW.out.trans (hb4.mono HBW.out.size)
        have hp4 := HP.out.below hb4 HP.out.lt
        have H4 := Lib.hid (H3.out.keep hb5)
        have HR4 := Lib.hid (enRow_below HR3.out hb5)
        have HB4 := Lib.hid (HB3.out.trans (hb5.mono HB3.out.size))
        have p0 : w4.cell? ⟨wr.heap.size, 0, none⟩ = some (strT s) := hp4.at rfl
        have p1 : w4.cell? ⟨wr.heap.size, 1, none⟩ = some (u64v a) := hp4.at rfl
        have hsub : 0 ≤ N2 - a ∧ N2 - a < 18446744073709551616 := by omega
        clear hb4 hb5 hp4 HCK HBW HP H3 HR3 HB3 hW d0 c0 c1
        have FIN : Hid (NS w4 B0 S T m K f l ∧ w4.ownsRow B0 tGv 2 (.slice (some ⟨g, 0, none⟩) n cg) n (gv G) ∧ Below w.heap.size w w4) := Lib.hid ⟨H4.out, HR4.out, HB4.out⟩
        clear H4 HR4 HB4
        have K1 := Lib.hid k1; have K3 := Lib.hid k3
        clear k1 k3
        rcases k2 with rfl | rfl | rfl
        · obtain ⟨q1, q2, q3⟩ := K1.out rfl
          have d1 : decide (wd < N2 - a) = false := decide_eq_false (by omega)
          have d1' : decide (N2 - a ≤ wd) = true := decide_eq_true (by omega)
          have d3 : decide ((j : Int) < (n : Int) - (K : Int)) = false := decide_eq_false (by omega)
          cases md with
          | false =>
            clear q2
            by_cases hl : j + 1 = n
            · have d4 : ((j : Int) == (n : Int) - 1) = true := beq_iff_eq.2 (by omega)
              have HL := Lib.hid hl
              clear hl K1 K3
              go_wp2_with fail
              go_roundw
              case rel => exact ⟨j + 1, by omega, by go_num, FIN.out.1, FIN.out.2.1, FIN.out.2.2⟩
              case measure => simp [intOf]; omega
            · have d4 : ((j : Int) == (n : Int) - 1) = false := beq_eq_false_iff_ne.2 (by omega)
              clear hl K1 K3
              go_wp2_with fail
              go_roundw
              case rel => exact ⟨j + 1, by omega, by go_num, FIN.out.1, FIN.out.2.1, FIN.out.2.2⟩
              case measure => simp [intOf]; omega
          | true =>
            have d2 : decide (a ≤ mr) = false := decide_eq_false (fun h => q2 ⟨rfl, h⟩)
            clear q2
            by_cases hl : j + 1 = n
            · have d4 : ((j : Int) == (n : Int) - 1) = true := beq_iff_eq.2 (by omega)
              have HL := Lib.hid hl
              clear hl K1 K3
              go_wp2_with fail
              go_roundw
              case rel => exact ⟨j + 1, by omega, by go_num, FIN.out.1, FIN.out.2.1, FIN.out.2.2⟩
              case measure => simp [intOf]; omega
            · have d4 : ((j : Int) == (n : Int) - 1) = false := beq_eq_false_iff_ne.2 (by omega)
              clear hl K1 K3
              go_wp2_with fail
              go_roundw
              case rel => exact ⟨j + 1, by omega, by go_num, FIN.out.1, FIN.out.2.1, FIN.out.2.2⟩
              case measure => simp [intOf]; omega
        all_goals
          by_cases hl : j + 1 = n
          · have d4 : ((j : Int) == (n : Int) - 1) = true := beq_iff_eq.2 (by omega)
            by_cases q1 : N2 - a ≤ wd
            · have d1' : decide (N2 - a ≤ wd) = true := decide_eq_true q1
              cases md with
              | false => exact absurd (K3.out hl q1 (by simp)) (by decide)
              | true =>
                by_cases q2 : a ≤ mr
                · have d2 : decide (a ≤ mr) = true := decide_eq_true q2
                  have HL := Lib.hid hl
                  clear hl K1 K3
                  go_wp2_with fail
                  go_roundw
                  case rel => exact ⟨j + 1, by omega, by go_num, FIN.out.1, FIN.out.2.1, FIN.out.2.2⟩
                  case measure => simp [intOf]; omega
                · exact absurd (K3.out hl q1 (fun h => q2 h.2)) (by decide)
            · have d1' : decide (N2 - a ≤ wd) = false := decide_eq_false q1
              have HL := Lib.hid hl
              clear hl K1 K3
              go_wp2_with fail
              go_roundw
              case rel => exact ⟨j + 1, by omega, by go_num, FIN.out.1, FIN.out.2.1, FIN.out.2.2⟩
              case measure => simp [intOf]; omega
          · have d4 : ((j : Int) == (n : Int) - 1) = false := beq_eq_false_iff_ne.2 (by omega)
            clear hl K1 K3
            go_wp2_with fail
            go_roundw
            case rel => exact ⟨j + 1, by omega, by go_num, FIN.out.1, FIN.out.2.1, FIN.out.2.2⟩
            case measure => simp [intOf]; omega
      · obtain rfl : j = n := by omega
        have hle : ((l.length : Nat) : Int) ≤ (K : Int) := by have := HWI.out.cnt; omega
        clear hNS hrow hB
        go_wp2_with fail
        refine (nlen_any H3.out).mono ?_
        rintro e w5 ⟨rfl, rfl⟩
        go_wp2_with fail
        go_ret
        exact ⟨rfl, HB3.out⟩
end Go.Proofs.Ythpgdojjecdlcaa
