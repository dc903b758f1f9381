/- The reference's Stretch and Expand. -/
import Derived.Test.YtjaclccjccjljaaDoorHmC
import Derived.Test.YtjaclccjccjljaaDoorRefBytes
import Derived.Test.YtjaclccjccjljaaDoorHmAwake
namespace Go.Proofs.YtjaclccjccjljaaDoor
open Go.RowKit
theorem be_small (k : Nat) (h : k ≤ 4) : be k 4 = [0, 0, 0, UInt8.ofNat k] := by
  match k, h with
  | 0, _ => decide
  | 1, _ => decide
  | 2, _ => decide
  | 3, _ => decide
  | 4, _ => decide
theorem keyS_cut (pass salt : List UInt8) (r size j : Nat) (hj : j ≤ 4) (h : size ≤ 32 * j) : (catN (pieceS pass salt r) j).take size = keyS pass salt r size := by
  have := catN_take (pieceS pass salt r) (fun n => pieceS_len _ _ _ _) j (4 - j) size h
  unfold keyS
  rw [← this, show j + (4 - j) = 4 by omega]
theorem keyE_cut (key info : List UInt8) (size j : Nat) (hj : j ≤ 4) (h : size ≤ 32 * j) : (catN (pieceE key info) j).take size = keyE key info size := by
  have := catN_take (pieceE key info) (fun n => pieceE_len _ _ _) j (4 - j) size h
  unfold keyE
  rw [← this, show j + (4 - j) = 4 by omega]
theorem meas2 (r k : Nat) (h : k < r) : r + 1 - (intOf (.int .i64 ((k : Int) + 1 + 1))).toNat < r + 1 - (intOf (.int .i64 ((k : Int) + 1))).toNat := by
  show r + 1 - ((k : Int) + 1 + 1).toNat < r + 1 - ((k : Int) + 1).toNat
  omega
theorem meas3 (j : Nat) (h : j < 4) : 5 - (intOf (.int .u64 ((j : Int) + 1 + 1))).toNat < 5 - (intOf (.int .u64 ((j : Int) + 1))).toNat := by
  show 5 - ((j : Int) + 1 + 1).toNat < 5 - ((j : Int) + 1).toNat
  omega
theorem meas4 (j : Nat) (h : j < 4) : 5 - (intOf (.int .u8 ((j : Int) + 1 + 1))).toNat < 5 - (intOf (.int .u8 ((j : Int) + 1))).toNat := by
  show 5 - ((j : Int) + 1 + 1).toNat < 5 - ((j : Int) + 1).toNat
  omega
/-- A slice of the call's own that was made later lies elsewhere. -/
theorem OwnB.apart {w w' : World} {b1 b2 : Nat} {v1 v2 : Value} {l1 l2 : List UInt8} (h1 : OwnB w b1 v1 l1) (h2 : OwnB w' b2 v2 l2) (hb : w'.heap.size ≤ b1) : v1.ownBlock = none ∨ v1.ownBlock ≠ v2.ownBlock := by
  cases h : v1.ownBlock with
  | none => exact .inl rfl
  | some k =>
    refine .inr fun e => ?_
    have := (h1.lt k h).1
    have := (h2.lt k e.symm).2
    omega
set_option maxRecDepth 100000 in
set_option maxHeartbeats 4000000 in
theorem refStretch_any (B : Nat) (vp vs : Value) (pass salt : List UInt8) (r size : Nat) (R S : Int) (w : World) (sp : Sl w B vp pass) (ss : Sl w B vs salt) (hB : B ≤ w.heap.size) (lp : pass.length ≤ 1000) (ls : salt.length ≤ 1000) (hT : TabB w) (hG : 1 < w.heap.size) (hR : R = (r : Int)) (hS : S = (size : Int)) (hr1 : 1 ≤ r) (hr2 : r ≤ 64) (h1 : 1 ≤ size) (h2 : size ≤ 128) :
    Calls Tryd.prog 20 #[vp, vs, .int .i64 R, .int .i64 S] w fun e w' => ∃ v', e = .returned v' ∧ Sl w' w'.heap.size v' (keyS pass salt r size) ∧ Below w.heap.size w w' := by
  have hr : 1 ≤ R ∧ R ≤ 64 := by omega
  have hs : 1 ≤ S ∧ S ≤ 128 := by omega
  have HSP := Lib.hid sp; clear sp
  have HSS := Lib.hid ss; clear ss
  have HT := Lib.hid hT; clear hT
  have HR := Lib.hid hR; clear hR
  have HS := Lib.hid hS; clear hS
  obtain ⟨p, hp⟩ : ∃ p, p = pieceS pass salt r := ⟨_, rfl⟩
  have hcl := fun k => catN_len p (by rw [hp]; exact fun n => pieceS_len _ _ _ _) k
  have HCL := Lib.hid hcl; clear hcl
  have HCUT : Hid (∀ j, j ≤ 4 → size ≤ 32 * j → (catN p j).take size = keyS pass salt r size) := Lib.hid fun j h3 h4 => by rw [hp]; exact keyS_cut pass salt r size j h3 h4
  have HPE : Hid (∀ n, p n = (pbr pass (hm pass (salt ++ [0, 0, 0, UInt8.ofNat n])) (r - 1)).2) := Lib.hid fun n => by rw [hp]; unfold pieceS; rfl
  clear hp
  go_enter Tryd.func20, Tryd.ntmps20
  go_wp2_with fail
  go_loopw [9, 10, 11, 12, 13] (fun o n _ _ _ wr => ∃ j : Nat, j ≤ 4 ∧ n = .int .u64 ((j : Int) + 1) ∧ OwnB wr w.heap.size o (catN p j) ∧ Below w.heap.size w wr) (fun _ n _ _ _ _ => 5 - (intOf n).toNat)
  case atStart => exact ⟨0, by omega, by simp, by rw [catN_zero]; exact OwnB.nil _ _, Below.refl _ _⟩
  case round =>
    obtain ⟨j, hj, rfl, hO, hb⟩ := hrel
    have hlen := HCL.out j
    have hsucc := catN_succ p j
    obtain ⟨C, hC⟩ : ∃ C, C = catN p j := ⟨_, rfl⟩
    rw [← hC] at hO hlen hsucc
    obtain ⟨Ao, co, rfl, _⟩ := hO.sl
    rw [hlen] at hO ⊢
    have HO := Lib.hid hO; clear hO
    have HB := Lib.hid hb; clear hb
    have HSU := Lib.hid hsucc; clear hsucc
    have HCE := Lib.hid hC; clear hC
    have HLE := Lib.hid hlen; clear hlen
    have hzr := HB.out.size
    by_cases hlt : 32 * j < size
    · have hlt2 : ((32 * j : Nat) : Int) < S := by have := HS.out; omega
      go_wp2_with fail
      refine (copy_any B vs salt wr (HSS.out.below HB.out hB) (by omega) (by omega)).mono ?_
      rintro e w1 ⟨v1, rfl, hO1, hB1⟩
      have HO1 := Lib.hid hO1; clear hO1
      have HB1 := Lib.hid hB1; clear hB1
      have hz1 := HB1.out.size
      have hby := refBytes_any (j + 1) 4 w1 (by omega) (by omega)
      rw [be_small _ (by omega), Int.natCast_succ] at hby
      have HBY := Lib.hid hby; clear hby
      go_wp2_with fail
      refine HBY.out.mono ?_
      rintro e w2 ⟨v2, rfl, hO2, hB2⟩
      have HO12 := Lib.hid (HO1.out.below hB2)
      have HO2 := Lib.hid hO2.sl; clear hO2
      have HB2 := Lib.hid (HB1.out.trans (hB2.mono hz1)); clear hB2
      have hz2 := HB2.out.size
      go_wp2_with (at_builtin; ((with_reducible refine wpList_app_sl ?g1 (.tmp 36) (.tmp 38) ?g2 wr.heap.size v1 salt [0, 0, 0, UInt8.ofNat (j + 1)] ?g3 ?g4 w2.heap.size v2 ?g5 ?g6 ?g7 ?g8 ?_); (case g1 => rfl); (case g2 => rfl); (case g3 => rfl); (case g4 => exact HO12.out); (case g5 => rfl); (case g6 => exact HO2.out); (case g7 => simp; omega); (case g8 => exact hz2); intro v3 w3 hv hg; have Hg := Lib.hid (HB2.out.trans (HO12.out.belowBase hg hz2)); clear hg; have Hv := Lib.hid hv; clear hv))
      have hz3 := Hg.out.size
      have HB3 := Lib.hid (HB.out.trans (Hg.out.mono hzr))
      refine (refHm_any w3.heap.size vp v3 pass (salt ++ [0, 0, 0, UInt8.ofNat (j + 1)]) w3 (HT.out.below HB3.out hG) (by show _ < w3.heap.size; omega) ((HSP.out.below HB3.out hB).more (by omega)) Hv.out.sl (Nat.le_refl _) (by omega) (by simp; omega)).mono ?_
      rintro e w4 ⟨v4, rfl, hO4, hB4⟩
      obtain ⟨u, hu⟩ : ∃ u, u = hm pass (salt ++ [0, 0, 0, UInt8.ofNat (j + 1)]) := ⟨_, rfl⟩
      have hul : u.length = 32 := by rw [hu, hm_length]
      have hpe := HPE.out (j + 1)
      rw [← hu] at hO4 hpe
      have HPJ := Lib.hid hpe; clear hpe
      have hlen := fun k => pbr_len pass u hul k
      have HLEN := Lib.hid hlen; clear hlen hul
      have HO4 := Lib.hid (hO4.lower hz3); clear hO4
      have HB4 := Lib.hid (Hg.out.trans (hB4.mono hz3)); clear hB4
      clear hu
      go_wp2_with fail
      obtain ⟨wo, hwo⟩ : ∃ wo, wo = wr := ⟨_, rfl⟩
      subst hwo
      go_loopw [11, 12, 13] (fun la pc i wq => ∃ k : Nat, k ≤ r - 1 ∧ i = .int .i64 ((k : Int) + 1) ∧ OwnB wq wo.heap.size la (pbr pass u k).1 ∧ OwnB wq wo.heap.size pc (pbr pass u k).2 ∧ Below wo.heap.size wo wq) (fun _ _ i _ => r + 1 - (intOf i).toNat)
      case atStart => exact ⟨0, by omega, by simp, by rw [pbr_zero]; exact HO4.out, by rw [pbr_zero]; exact HO4.out, HB4.out⟩
      case round =>
        obtain ⟨k, hk, rfl, hla, hpc, hbk⟩ := hrel
        obtain ⟨L, hL⟩ : ∃ L, L = (pbr pass u k).1 := ⟨_, rfl⟩
        obtain ⟨Pq, hPc⟩ : ∃ L, L = (pbr pass u k).2 := ⟨_, rfl⟩
        have HLl : Hid (L.length = 32) := Lib.hid (by rw [hL]; exact (HLEN.out k).1)
        have HPl : Hid (Pq.length = 32) := Lib.hid (by rw [hPc]; exact (HLEN.out k).2)
        have hsucc := pbr_succ pass u k
        rw [← hL, ← hPc] at hsucc
        rw [← hL] at hla
        rw [← hPc] at hpc
        have HLA := Lib.hid hla; clear hla
        have HPC := Lib.hid hpc; clear hpc
        have HBK := Lib.hid hbk; clear hbk
        have HSC := Lib.hid hsucc; clear hsucc
        have HPq := Lib.hid hPc; clear hPc hL
        have hzk := HBK.out.size
        by_cases hlk : k < r - 1
        · have hlt3 : (k : Int) + 1 < R := by have := HR.out; omega
          have HBw := Lib.hid (HB.out.trans (HBK.out.mono hzr))
          have hzw := HBw.out.size
          go_wp2_with fail
          refine (refHm_any wr.heap.size vp _ pass L wr (HT.out.below HBw.out hG) (by show _ < wr.heap.size; omega) ((HSP.out.below HBw.out hB).more (by omega)) HLA.out.sl (Nat.le_refl _) (by omega) (by have := HLl.out; omega)).mono ?_
          rintro e w5 ⟨v5, rfl, hO5, hB5⟩
          have hml := hm_length pass L
          obtain ⟨M, hM⟩ : ∃ M, M = hm pass L := ⟨_, rfl⟩
          rw [← hM] at hml hO5 HSC
          have HML := Lib.hid hml; clear hml hM
          have HPC5 := Lib.hid (HPC.out.below hB5)
          have HO5 := Lib.hid hO5; clear hO5
          have HB5 := Lib.hid (HBK.out.trans (hB5.mono hzk))
          have hz5 := hB5.size
          clear hB5
          go_wp2_with fail
          refine (refXor_any w5.heap.size _ v5 Pq M w5 HPC5.out.sl HO5.out.sl (Nat.le_refl _) (by have := HPl.out; omega) (by have := HML.out; omega)).mono ?_
          rintro e w6 ⟨v6, rfl, hO6, hB6⟩
          have HO6 := Lib.hid hO6; clear hO6
          have HO56 := Lib.hid (HO5.out.below hB6)
          have HB6 := Lib.hid (HB5.out.trans (hB6.mono (by omega))); clear hB6
          go_wp2_with fail
          go_roundw
          case rel => exact ⟨k + 1, by omega, by go_num, by rw [HSC.out]; exact HO56.out.lower (by omega), by rw [HSC.out]; exact HO6.out.lower (by omega), HB6.out⟩
          case measure => exact meas2 r k (by omega)
        · obtain rfl : k = r - 1 := by omega
          have hge : ¬ ((r - 1 : Nat) : Int) + 1 < R := by have := HR.out; omega
          rw [HPq.out, ← HPJ.out] at HPC
          have hpl : (p (j + 1)).length = 32 := by rw [HPJ.out]; exact (HLEN.out _).2
          have HPJL := Lib.hid hpl; clear hpl
          have HOq := Lib.hid (HO.out.below HBK.out)
          have HBw := Lib.hid (HB.out.trans (HBK.out.mono hzr))
          have hcl : C.length + (p (j + 1)).length ≤ 1099511627776 := by have := HLE.out; have := HPJL.out; omega
          have HCLN := Lib.hid hcl; clear hcl
          have HOq2 : Hid (OwnB wr w.heap.size (.slice Ao (32 * j) co) C) := HOq
          go_wp2_with (at_builtin; ((with_reducible refine wpList_app_sl ?f1 (.tmp 53) (.tmp 54) ?f2 w.heap.size (.slice Ao (32 * j) co) C (p (j + 1)) ?f3 ?f4 wr.heap.size _ ?f5 HPC.out.sl ?f7 ?f8 ?_); (case f1 => rfl); (case f2 => rfl); (case f3 => rfl); (case f4 => exact HOq2.out); (case f5 => rfl); (case f7 => exact HCLN.out); (case f8 => exact HBw.out.size); intro v7 w7 hv7 hg7; have Hg7 := Lib.hid (HBw.out.trans (HOq2.out.belowBase hg7 HBw.out.size)); clear hg7; have Hv7 := Lib.hid hv7; clear hv7))
          go_roundw
          case rel => exact ⟨j + 1, by omega, by go_num, by rw [HSU.out]; exact Hv7.out, Hg7.out⟩
          case measure => exact meas3 j (by omega)
    · have hge : ¬ ((32 * j : Nat) : Int) < S := by have := HS.out; omega
      have hcut := HCUT.out j hj (by omega)
      have hsl := HO.out.sl
      have hnl : size ≤ C.length := by have := HLE.out; omega
      obtain ⟨A', c', e', hkc, _, _, hst⟩ := hsl.take size hnl
      rw [HLE.out] at e'
      obtain ⟨rfl, rfl⟩ : Ao = A' ∧ co = c' := by injection e' with a b c; exact ⟨a, c⟩
      have hr5 : ∀ W, (Instr.slice 22 (.slice Ao (32 * j) co) none (some (.int .i64 S)) none).run Tryd.prog W = .ok (.slice Ao size co) W := fun W => by rw [HS.out]; exact slice_hB Ao (32 * j) co size hkc W
      have hst2 := hst
      rw [HCE.out, hcut] at hst2
      have HST := Lib.hid hst2; clear hst hst2 e' hcut hsl hnl
      go_wp2_with fail
      go_ret
      exact ⟨_, rfl, HST.out, HB.out⟩
set_option maxRecDepth 100000 in
set_option maxHeartbeats 4000000 in
theorem refExpand_any (B : Nat) (vp vs : Value) (key info : List UInt8) (size : Nat) (S : Int) (w : World) (sp : Sl w B vp key) (ss : Sl w B vs info) (hB : B ≤ w.heap.size) (lp : key.length ≤ 1000) (ls : info.length ≤ 1000) (hT : TabB w) (hG : 1 < w.heap.size) (hS : S = (size : Int)) (h1 : 1 ≤ size) (h2 : size ≤ 128) :
    Calls Tryd.prog 23 #[vp, vs, .int .i64 S] w fun e w' => ∃ v', e = .returned v' ∧ Sl w' w'.heap.size v' (keyE key info size) ∧ Below w.heap.size w w' := by
  have hs : 1 ≤ S ∧ S ≤ 128 := by omega
  have HSP := Lib.hid sp; clear sp
  have HSS := Lib.hid ss; clear ss
  have HT := Lib.hid hT; clear hT
  have HS := Lib.hid hS; clear hS
  obtain ⟨p, hp⟩ : ∃ p, p = pieceE key info := ⟨_, rfl⟩
  have hcl := fun k => catN_len p (by rw [hp]; exact fun n => pieceE_len _ _ _) k
  have HCL := Lib.hid hcl; clear hcl
  have HCUT : Hid (∀ j, j ≤ 4 → size ≤ 32 * j → (catN p j).take size = keyE key info size) := Lib.hid fun j h3 h4 => by rw [hp]; exact keyE_cut key info size j h3 h4
  have HP0 : Hid (p 0 = []) := Lib.hid (by rw [hp, pieceE_zero])
  have HP1 : Hid (∀ n, p (n + 1) = hm key (p n ++ info ++ [UInt8.ofNat (n + 1)]) ∧ (p (n + 1)).length = 32 ∧ (p n).length ≤ 32) := Lib.hid fun n => by
    rw [hp]
    refine ⟨pieceE_succ _ _ _, pieceE_len _ _ _, ?_⟩
    match n with
    | 0 => rw [pieceE_zero]; simp
    | n + 1 => rw [pieceE_len]; omega
  clear hp
  go_enter Tryd.func23, Tryd.ntmps23
  go_wp2_with fail
  go_loopw [7, 8, 9] (fun o t n wr => ∃ j : Nat, j ≤ 4 ∧ n = .int .u8 ((j : Int) + 1) ∧ OwnB wr w.heap.size o (catN p j) ∧ OwnB wr w.heap.size t (p j) ∧ Below w.heap.size w wr) (fun _ _ n _ => 5 - (intOf n).toNat)
  case atStart => exact ⟨0, by omega, by simp, by rw [catN_zero]; exact OwnB.nil _ _, by rw [HP0.out]; exact OwnB.nil _ _, Below.refl _ _⟩
  case round =>
    obtain ⟨j, hj, rfl, hO, hT0, hb⟩ := hrel
    have hlen := HCL.out j
    have hsucc := catN_succ p j
    obtain ⟨C, hC⟩ : ∃ C, C = catN p j := ⟨_, rfl⟩
    rw [← hC] at hO hlen hsucc
    obtain ⟨Ao, co, rfl, _⟩ := hO.sl
    rw [hlen] at hO ⊢
    obtain ⟨hq1, hq2, hq3⟩ := HP1.out j
    have HO := Lib.hid hO; clear hO
    have HT0 := Lib.hid hT0; clear hT0
    have HB := Lib.hid hb; clear hb
    have HSU := Lib.hid hsucc; clear hsucc
    have HCE := Lib.hid hC; clear hC
    have HLE := Lib.hid hlen; clear hlen
    have HQ1 := Lib.hid hq1; clear hq1
    have HQ2 := Lib.hid hq2; clear hq2
    have HQ3 := Lib.hid hq3; clear hq3
    have hzr := HB.out.size
    by_cases hlt : 32 * j < size
    · have hlt2 : ((32 * j : Nat) : Int) < S := by have := HS.out; omega
      obtain ⟨x, hx⟩ : ∃ x, x = UInt8.ofNat (j + 1) := ⟨_, rfl⟩
      have hxv : vb x = .int .u8 ((j : Int) + 1) := by rw [hx, vb_num (j + 1) (by omega), Int.natCast_succ]
      have hq1 := HQ1.out
      rw [← hx] at hq1
      have HQX := Lib.hid hq1; clear hq1 hx
      have HXV := Lib.hid hxv; clear hxv
      obtain ⟨T, hTT⟩ : ∃ T, T = p j := ⟨_, rfl⟩
      have hq3 := HQ3.out
      rw [← hTT] at hq3
      have HTT := Lib.hid hTT; clear hTT
      have hT1 : OwnB wr w.heap.size u8 T := by rw [HTT.out]; exact HT0.out
      have HT1 := Lib.hid hT1; clear hT1
      have hti : T.length + info.length ≤ 2000 := by omega
      go_wp2_with fail
      refine (copy_any wr.heap.size u8 T wr HT1.out.sl (Nat.le_refl _) (by omega)).mono ?_
      rintro e w1 ⟨v1, rfl, hO1, hB1⟩
      have HO1 := Lib.hid hO1; clear hO1
      have HB1 := Lib.hid hB1; clear hB1
      have hz1 := HB1.out.size
      have HB1w := Lib.hid (HB.out.trans (HB1.out.mono hzr))
      have hn1 : ∀ W : World, Sl (W.alloc (.cells #[.int .u8 ((j : Int) + 1)] 5)) (W.heap.size + 1) (.slice (some ⟨W.heap.size, 0, none⟩) 1 1) [x] := fun W => by
        rw [← HXV.out]; exact Sl.of_new W [x] #[vb x] rfl (0, 0) 1 rfl (by decide)
      have HN1 := Lib.hid hn1; clear hn1
      go_wp2_with (first
        | (at_builtin; ((with_reducible refine wpList_app_sl ?g1 (.tmp 24) (.tmp 25) ?g2 wr.heap.size v1 T info ?g3 ?g4 B vs ?g5 ?g6 ?g7 ?g8 ?_); (case g1 => rfl); (case g2 => rfl); (case g3 => rfl); (case g4 => exact HO1.out); (case g5 => rfl); (case g6 => exact HSS.out.below HB1w.out hB); (case g7 => omega); (case g8 => exact hz1); intro v2 w2 hv2 hg2; have Hg2 := Lib.hid (HB1.out.trans (HO1.out.belowBase hg2 hz1)); clear hg2; have Hv2 := Lib.hid hv2; clear hv2; have hz2 := Hg2.out.size))
        | (at_builtin; ((with_reducible refine wpList_app_sl ?k1 (.tmp 26) (.tmp 28) ?k2 wr.heap.size v2 (T ++ info) [x] ?k3 ?k4 (w2.heap.size + 1) (.slice (some ⟨w2.heap.size, 0, none⟩) 1 1) ?k5 ?k6 ?k7 ?k8 ?_); (case k1 => rfl); (case k2 => rfl); (case k3 => rfl); (case k4 => exact Hv2.out.below ((Below.refl _ _).alloc (Nat.le_refl _) _)); (case k5 => rfl); (case k6 => exact HN1.out w2); (case k7 => rw [List.length_append, List.length_singleton]; omega); (case k8 => simp; omega); intro v3 w3 hv3 hg3; have Hg3 := Lib.hid ((Hg2.out.alloc hz2 _).trans ((Hv2.out.below ((Below.refl _ _).alloc (Nat.le_refl _) _)).belowBase hg3 (by simp; omega))); clear hg3; have Hv3 := Lib.hid hv3; clear hv3)))
      have hz3 := Hg3.out.size
      have HBw3 := Lib.hid (HB.out.trans (Hg3.out.mono hzr))
      have hz3w := HBw3.out.size
      refine (refHm_any w3.heap.size vp v3 key (T ++ info ++ [x]) w3 (HT.out.below HBw3.out hG) (by show _ < w3.heap.size; omega) ((HSP.out.below HBw3.out hB).more (by omega)) Hv3.out.sl (Nat.le_refl _) (by omega) (by rw [List.length_append, List.length_append, List.length_singleton]; omega)).mono ?_
      rintro e w4 ⟨v4, rfl, hO4, hB4⟩
      have hqq := HQX.out
      rw [← HTT.out] at hqq
      rw [← hqq] at hO4
      have hne4 := OwnB.apart hO4 (HO.out.below Hg3.out) (Nat.le_refl _)
      have HNE := Lib.hid hne4; clear hne4
      have HO4 := Lib.hid (hO4.lower (show w.heap.size ≤ w3.heap.size by omega)); clear hO4 hqq
      have HB4 := Lib.hid (HBw3.out.trans (hB4.mono (by omega)))
      have HOo : Hid (OwnB w4 w.heap.size (.slice Ao (32 * j) co) C) := Lib.hid ((HO.out.below Hg3.out).below hB4)
      have hcl : C.length + (p (j + 1)).length ≤ 1099511627776 := by have := HLE.out; have := HQ2.out; omega
      have HCLN := Lib.hid hcl; clear hcl hB4
      go_wp2_with (at_builtin; ((with_reducible refine wpList_app_sl ?f1 (.tmp 31) (.tmp 32) ?f2 w.heap.size (.slice Ao (32 * j) co) C (p (j + 1)) ?f3 ?f4 w4.heap.size v4 ?f5 HO4.out.sl ?f7 ?f8 ?_); (case f1 => rfl); (case f2 => rfl); (case f3 => rfl); (case f4 => exact HOo.out); (case f5 => rfl); (case f7 => exact HCLN.out); (case f8 => exact HB4.out.size); intro v7 w7 hv7 hg7; have Hat := Lib.hid hg7; have Hg7 := Lib.hid (HB4.out.trans (HOo.out.belowBase hg7 HB4.out.size)); clear hg7; have Hv7 := Lib.hid hv7; clear hv7))
      refine ⟨⟨j + 1, by omega, by go_num, by rw [HSU.out]; exact Hv7.out, HO4.out.kept Hat.out HNE.out, Hg7.out⟩, ?_⟩
      exact meas4 j (by omega)
    · have hge : ¬ ((32 * j : Nat) : Int) < S := by have := HS.out; omega
      have hcut := HCUT.out j hj (by omega)
      have hsl := HO.out.sl
      have hnl : size ≤ C.length := by have := HLE.out; omega
      obtain ⟨A', c', e', hkc, _, _, hst⟩ := hsl.take size hnl
      rw [HLE.out] at e'
      obtain ⟨rfl, rfl⟩ : Ao = A' ∧ co = c' := by injection e' with a b c; exact ⟨a, c⟩
      have hr5 : ∀ W, (Instr.slice 22 (.slice Ao (32 * j) co) none (some (.int .i64 S)) none).run Tryd.prog W = .ok (.slice Ao size co) W := fun W => by rw [HS.out]; exact slice_hB Ao (32 * j) co size hkc W
      have hst2 := hst
      rw [HCE.out, hcut] at hst2
      have HST := Lib.hid hst2; clear hst hst2 e' hcut hsl hnl
      go_wp2_with fail
      go_ret
      exact ⟨_, rfl, HST.out, HB.out⟩
end Go.Proofs.YtjaclccjccjljaaDoor
