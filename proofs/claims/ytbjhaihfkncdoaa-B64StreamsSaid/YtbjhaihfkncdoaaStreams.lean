/- The statement B64Streams' own text, walked. -/
import Derived.Test.YtbjhaihfkncdoaaAppAt
import Derived.Test.YtbjhaihfkncdoaaRefEnc2
import Derived.Deep.CutBlock
import Derived.Deep.CutRange
import Derived.Deep.DeepCutAuto
namespace Go.Proofs.Ytbjhaihfkncdoaa
open Go.RowKit

theorem IsSt.kept {w w' : World} {gs : Nat} {r : List UInt8} {row : Option Nat} (h : IsSt w gs r) (hg : w.grownBy w' row) (hne : some gs ≠ row) : IsSt w' gs r := by
  obtain ⟨r0, r1, h1, h2, h3⟩ := h
  exact ⟨r0, r1, h1.grown hg hne, h2, h3⟩
theorem IsSt.new (w : World) (c : Array Value) (t : TypeId) (h : c.toList = [vb 0, vb 0, .int .i64 0]) : IsSt (w.alloc (.cells c t)) w.heap.size [] :=
  ⟨0, 0, Blk.newAt w c t rfl h, by simp, rfl⟩
set_option maxRecDepth 100000 in
set_option maxHeartbeats 1000000 in
theorem streams_any (B : Nat) (v : Value) (ls : List (List UInt8)) (w : World) (hv : Sls w B v ls) (hB : B ≤ w.heap.size) :
    Calls Try.prog 6 #[v] w fun e w' => e = .returned (.bool true) ∧ Below w.heap.size w w' := by
  obtain ⟨A0, c0, rfl, k0, k1, h0⟩ := hv
  have H0 : Hid (∀ j, j < ls.length → ∃ b o, A0 = some ⟨b, o, none⟩ ∧ b < B ∧ ∃ vj pj, w.cell? ⟨b, o + j, none⟩ = some vj ∧ Sl w B vj pj) := Lib.hid (fun j hj => by
    obtain ⟨b, o, h1, h2, h3⟩ := h0 (by omega)
    obtain ⟨vj, h4, h5⟩ := h3 j hj
    exact ⟨b, o, h1, h2, vj, _, h4, h5⟩)
  clear h0
  obtain ⟨n, hn⟩ : ∃ n, n = ls.length := ⟨_, rfl⟩
  rw [← hn] at k0 H0 ⊢
  clear hn
  go_enter Try.func6, Try.ntmps6
  go_wp2_with fail
  refine (awake3 w).mono ?_
  rintro e w1 ⟨rfl, hb⟩
  have HB1 := Lib.hid hb; clear hb
  go_wp2_with fail
  have hS0 : IsSt (w1.alloc (.cells #[vb 0, vb 0, .int .i64 0] 51)) w1.heap.size [] := IsSt.new w1 _ _ rfl
  have HS0 := Lib.hid hS0; clear hS0
  obtain ⟨gs, hgs⟩ : ∃ gs, gs = w1.heap.size := ⟨_, rfl⟩
  rw [← hgs] at HS0 ⊢
  have Hgs := Lib.hid hgs; clear hgs
  go_loopw [13] (fun i wr => ∃ k : Nat, k ≤ 2 ∧ i = .int .i64 (k : Int) ∧ IsSt wr gs [] ∧ Below gs w1 wr) (fun i _ => 2 - (intOf i).toNat)
  case atStart => exact ⟨0, by omega, rfl, HS0.out, (Below.refl gs w1).alloc (by rw [Hgs.out]; exact Nat.le_refl _) _⟩
  case round =>
    obtain ⟨k, hk, rfl, hS, hB1⟩ := hrel
    have HS := Lib.hid hS; clear hS
    have HBr := Lib.hid hB1; clear hB1
    by_cases hlt : k < 2
    · go_upto_block 2 with fail
      rw [show decide ((k : Int) < 2) = true from decide_eq_true (by omega)]
      go_cut [4, 5, 6, 7, 13] from 13 to 53 (fun s4 s5 _ _ s13 wx => s13 = .int .i64 (k : Int) ∧ ∃ A : List UInt8, A.length ≤ 400 ∧ OwnB wx (gs + 1) s4 A ∧ s5 = str (encS (whole3 A)) ∧ IsSt wx gs (rest3 A) ∧ Below gs w1 wx)
      case first =>
        go_wp2_with fail
        obtain ⟨wo, rfl⟩ : ∃ wo : World, wo = wr := ⟨_, rfl⟩
        go_loopw [4, 5, 17] (fun al told i wi => ∃ (j : Nat) (A : List UInt8), j ≤ n ∧ j ≤ 8 ∧ i = .int .i64 (j : Int) ∧ A.length ≤ 40 * j ∧ OwnB wi (gs + 1) al A ∧ told = str (encS (whole3 A)) ∧ IsSt wi gs (rest3 A) ∧ Below gs w1 wi) (fun _ _ i _ => 8 - (intOf i).toNat)
        case atStart => exact ⟨0, [], by omega, by omega, rfl, by simp, OwnB.nil _ _, rfl, HS.out, HBr.out⟩
        case round =>
          clear HS HBr
          obtain ⟨j, A, hj, hj8, rfl, hA, hO, rfl, hS, hB1⟩ := hrel
          have HO := Lib.hid hO; clear hO
          have HS := Lib.hid hS; clear hS
          have HBr := Lib.hid hB1; clear hB1
          by_cases hjn : j < n
          · obtain ⟨b, o, hA0, hbB, vj, pj, hc, hp⟩ := H0.out j hjn
            subst hA0
            have hgB : B ≤ gs := by rw [Hgs.out]; have := HB1.out.size; omega
            have hcw : wr.cell? ⟨b, o + j, none⟩ = some vj := (HBr.out.cell (p := ⟨b, o + j, none⟩) (by show b < gs; omega)).trans ((HB1.out.cell (p := ⟨b, o + j, none⟩) (by show b < w.heap.size; omega)).trans hc)
            have hgr : gs < wr.heap.size := HS.out.lt
            have HP := Lib.hid ((hp.below HB1.out hB).below HBr.out hgB); clear hp hc
            by_cases hj2 : j < 8
            · go_wp2_with fail
              refine (cut_any B vj pj 40 wr HP.out (by omega) (by decide) (by decide)).mono ?_
              rintro e w2 ⟨p, rfl, hO2, hb⟩
              obtain ⟨lp, hlp⟩ : ∃ lp, lp = pj.take (40 : Int).toNat := ⟨_, rfl⟩
              rw [← hlp] at hO2
              have hlp40 : lp.length ≤ 40 := by rw [hlp, List.length_take]; exact Nat.min_le_left _ _
              clear hlp
              have hs2 : wr.heap.size ≤ w2.heap.size := hb.size
              have HP2 := Lib.hid hO2; clear hO2
              have HA2 := Lib.hid (HO.out.below hb)
              have HS2 := Lib.hid (HS.out.below hb hgr)
              have HB2 := Lib.hid (HBr.out.trans (hb.mono (by omega)))
              have HT := Lib.hid (HO.out.lt)
              clear hb HO HS HBr hcw
              go_wp2_with (at_builtin; ((with_reducible refine wpList_app_at ?g1 (.tmp 26) (.tmp 27) ?g2 (gs + 1) u4 A lp ?g3 ?g4 w2.heap.size p ?g5 ?g6 ?g7 ?g8 ?_); (case g1 => rfl); (case g2 => rfl); (case g3 => rfl); (case g4 => exact HA2.out); (case g5 => rfl); (case g6 => exact HP2.out.sl); (case g7 => omega); (case g8 => omega); intro al w3 hv hg hat; have Hv := Lib.hid hv; clear hv; have Hg := Lib.hid hg; have Hat := Lib.hid hat; have hs3 : w2.heap.size ≤ w3.heap.size := hg.size; clear hg hat))
              have hpne : p.ownBlock = none ∨ p.ownBlock ≠ u4.ownBlock := by
                cases hpo : p.ownBlock with
                | none => exact .inl rfl
                | some i =>
                  refine .inr fun e => ?_
                  have h1 := HT.out i e.symm
                  have h2 := HP2.out.lt i hpo
                  omega
              have HP3 := Lib.hid (HP2.out.kept Hg.out hpne)
              have HS3 := Lib.hid (HS2.out.kept Hg.out (fun e => by have := HT.out gs e.symm; omega))
              have HD : Hid (al.ownBlock = none ∨ al.ownBlock ≠ p.ownBlock) := Lib.hid (by
                rcases Hat.out with h | h
                · rw [h]
                  rcases hpne with h1 | h1
                  · cases hu : u4.ownBlock with
                    | none => exact .inl rfl
                    | some i => exact .inr (by rw [h1]; simp)
                  · exact .inr (Ne.symm h1)
                · refine .inr fun e => ?_
                  rw [h] at e
                  have h2 := HP2.out.lt _ e.symm
                  omega)
              have HB3 := Lib.hid (HB2.out.trans ((HA2.out.belowBase Hg.out (by omega)).mono (by omega)))
              have HL := Lib.hid Hv.out.lt
              clear HA2 HS2 HB2 HP2 Hg Hat hpne HP
              refine (write_any gs (rest3 A) p lp w3 HS3.out HP3.out.sl (by omega)).mono ?_
              rintro e w4 ⟨rfl, hS4, hg⟩
              rw [rest_more] at hS4
              have HS4 := Lib.hid hS4; clear hS4
              have hs4 : w3.heap.size ≤ w4.heap.size := hg.size
              have HP4 := Lib.hid (HP3.out.kept hg (by
                by_cases hn : p.ownBlock = none
                · exact .inl hn
                · exact .inr fun e => by have := HP3.out.lt gs e; omega))
              have HO4 := Lib.hid (Hv.out.kept hg (by
                by_cases hn : al.ownBlock = none
                · exact .inl hn
                · exact .inr fun e => by have := HL.out gs e; omega))
              have HB4 := Lib.hid (HB3.out.grown hg (by omega) (fun i hi => by cases hi; exact Nat.le_refl _))
              clear hg HB3 HP3 Hv HS3
              have hM := told_more A lp
              have hsum : (encS (whole3 A)).length + (encS (List.take ((rest3 A ++ lp).length / 3 * 3) (rest3 A ++ lp))).length ≤ 100000 := by
                have h1 := encS_le (whole3 A)
                have h2 := encS_le (List.take ((rest3 A ++ lp).length / 3 * 3) (rest3 A ++ lp))
                have h3 : (whole3 A).length ≤ A.length := by unfold whole3; rw [List.length_take]; omega
                have h4 : (List.take ((rest3 A ++ lp).length / 3 * 3) (rest3 A ++ lp)).length ≤ (rest3 A ++ lp).length := by rw [List.length_take]; exact Nat.min_le_right _ _
                have h5 : (rest3 A).length ≤ A.length := by unfold rest3; rw [List.length_drop]; omega
                have h6 : (rest3 A ++ lp).length = (rest3 A).length + lp.length := List.length_append
                omega
              obtain ⟨t1, ht1⟩ : ∃ t1, t1 = encS (whole3 A) := ⟨_, rfl⟩
              obtain ⟨t2, ht2⟩ : ∃ t2, t2 = encS (List.take ((rest3 A ++ lp).length / 3 * 3) (rest3 A ++ lp)) := ⟨_, rfl⟩
              rw [← ht1, ← ht2] at hM hsum
              rw [← ht1, ← ht2]
              clear ht1 ht2
              have HM := Lib.hid hM; clear hM
              have hj := fun a b : List UInt8 => (ByteArray.mk_append_mk a b : ByteArray.mk a.toArray ++ ByteArray.mk b.toArray = ByteArray.mk (a ++ b).toArray)
              go_wp2_with fail
              clear hj hsum
              rw [HM.out]
              refine (flip_any wr.heap.size p lp w4 HP4.out (by omega)).mono ?_
              rintro e w5 ⟨rfl, hg⟩
              have hs5 : w4.heap.size ≤ w5.heap.size := hg.size
              have HO5 := Lib.hid (HO4.out.kept hg HD.out)
              have HS5 := Lib.hid (HS4.out.kept hg (fun e => by have := HP4.out.lt gs e.symm; omega))
              have HB5 := Lib.hid (HB4.out.grown hg (by omega) (fun i hi => by have := HP4.out.lt i hi; omega))
              clear hg HO4 HS4 HB4 HP4 HD HM
              obtain ⟨x, hx⟩ : ∃ x, x = A ++ lp := ⟨_, rfl⟩
              have hxl : x.length ≤ 40 * (j + 1) := by rw [hx, List.length_append]; omega
              rw [← hx] at HO5 HS5 ⊢
              clear hx
              obtain ⟨q, hq⟩ : ∃ q, q = x.length / 3 * 3 := ⟨_, rfl⟩
              have HW : Hid (x.take q = whole3 x) := Lib.hid (by rw [hq]; rfl)
              obtain ⟨A2, c2, e2, hk0, _, _, hsl⟩ := HO5.out.sl.take q (by omega)
              rw [HW.out] at hsl
              have HSL := Lib.hid hsl; clear hsl HW
              subst e2
              have hrun := slice_h A2 x.length c2 q hk0
              have hcast : (x.length : Int) / 3 * 3 = (q : Int) := by omega
              clear hq
              go_wp2_with fail
              refine (refEncode_any w5.heap.size _ (whole3 x) false w5 HSL.out (Nat.le_refl _) (by unfold whole3; rw [List.length_take]; omega)).mono ?_
              rintro e w6 ⟨rfl, hb⟩
              have HO6 := Lib.hid (HO5.out.below hb)
              have HS6 := Lib.hid (HS5.out.below hb HS5.out.lt)
              have HB6 := Lib.hid (HB5.out.trans (hb.mono (by omega)))
              clear hb HO5 HS5 HB5 HSL hrun hcast
              simp only [Bool.false_eq_true, if_false]
              obtain ⟨t, ht⟩ : ∃ t, t = encS (whole3 x) := ⟨_, rfl⟩
              rw [← ht]
              have Ht := Lib.hid ht; clear ht
              go_wp2_with fail
              go_roundw
              case rel =>
                exact ⟨j + 1, x, by omega, by omega, by go_num, hxl, HO6.out, (show str t = _ from congrArg str Ht.out), HS6.out, HB6.out⟩
              case measure => simp [intOf]; omega
            · go_wp2_with fail
              go_meet
              case rel => exact ⟨rfl, A, by omega, HO.out, rfl, HS.out, HBr.out⟩
          · go_wp2_with fail
            go_meet
            case rel => exact ⟨rfl, A, by omega, HO.out, rfl, HS.out, HBr.out⟩
      case rest =>
        clear HS HBr
        obtain ⟨rfl, A, hA, hO, rfl, hS, hB1⟩ := hcut
        have HO := Lib.hid hO; clear hO
        have HS := Lib.hid hS; clear hS
        have HBr := Lib.hid hB1; clear hB1
        go_wp2_with fail
        refine (close_any gs (rest3 A) wc HS.out).mono ?_
        rintro e w2 ⟨rfl, hS2, hg⟩
        have hs2 : wc.heap.size ≤ w2.heap.size := hg.size
        have hgc : gs < wc.heap.size := HS.out.lt
        have HS2 := Lib.hid hS2; clear hS2
        have HO2 := Lib.hid (HO.out.kept hg (by
          by_cases hn : u4.ownBlock = none
          · exact .inl hn
          · exact .inr fun e => by have := HO.out.lt gs e; omega))
        have HB2 := Lib.hid (HBr.out.grown hg (by omega) (fun i hi => by cases hi; exact Nat.le_refl _))
        clear hg HS HBr HO
        have hM := told_all A
        have hsum : (encS (whole3 A)).length + (encS (rest3 A)).length ≤ 100000 := by
          have h1 := encS_le (whole3 A)
          have h2 := encS_le (rest3 A)
          have h3 : (whole3 A).length ≤ A.length := by unfold whole3; rw [List.length_take]; omega
          have h5 : (rest3 A).length ≤ A.length := by unfold rest3; rw [List.length_drop]; omega
          omega
        obtain ⟨t1, ht1⟩ : ∃ t1, t1 = encS (whole3 A) := ⟨_, rfl⟩
        obtain ⟨t2, ht2⟩ : ∃ t2, t2 = encS (rest3 A) := ⟨_, rfl⟩
        rw [← ht1, ← ht2] at hM hsum
        rw [← ht1, ← ht2]
        clear ht1 ht2
        have HM := Lib.hid hM; clear hM
        have hj := fun a b : List UInt8 => (ByteArray.mk_append_mk a b : ByteArray.mk a.toArray ++ ByteArray.mk b.toArray = ByteArray.mk (a ++ b).toArray)
        go_wp2_with fail
        clear hj hsum
        rw [HM.out]
        refine (refEncode_any w2.heap.size u4 A false w2 HO2.out.sl (Nat.le_refl _) (by omega)).mono ?_
        rintro e w3 ⟨rfl, hb⟩
        simp only [Bool.false_eq_true, if_false]
        have HS3 := Lib.hid (HS2.out.below hb HS2.out.lt)
        have HB3 := Lib.hid (HB2.out.trans (hb.mono (by omega)))
        clear hb HS2 HB2 HM HO2
        obtain ⟨t, ht⟩ : ∃ t, t = encS A := ⟨_, rfl⟩
        rw [← ht]
        clear ht
        go_wp2_with fail
        go_roundw
        case rel =>
          exact ⟨k + 1, by omega, by go_num, HS3.out, HB3.out⟩
        case measure => simp [intOf]; omega
    · have kc := fun (w : World) (C : Array Value) (n c : Nat) => Lib.run_convert_bytes_const (P := Try.prog) w 22 5 C n c Try.underlying22 Try.underlying5
      obtain rfl : k = 2 := by omega
      go_wp2_with fail
      refine (write_nil _ _).mono ?_
      rintro e w2 ⟨rfl, rfl⟩
      go_wp2_with fail
      refine (close_nil _).mono ?_
      rintro e w2 ⟨rfl, rfl⟩
      go_wp2_with fail
      refine (close_any gs [] _ ((HS.out.below ((Below.refl _ _).alloc (Nat.le_refl _) _) HS.out.lt))).mono ?_
      rintro e w3 ⟨rfl, _, hg⟩
      have hgc : gs < wr.heap.size := HS.out.lt
      have hgw : w.heap.size ≤ gs := by rw [Hgs.out]; exact HB1.out.size
      have HB4 := Lib.hid (((HB1.out.trans (HBr.out.mono hgw)).alloc (by omega) _).grown hg (by simp; omega) (fun i hi => by cases hi; exact hgw))
      clear hg
      rw [show encS [] = [] from rfl]
      go_wp2_with fail
      go_ret
      exact ⟨rfl, HB4.out⟩
end Go.Proofs.Ytbjhaihfkncdoaa
