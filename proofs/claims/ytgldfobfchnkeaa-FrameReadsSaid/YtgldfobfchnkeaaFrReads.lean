/- The statement FrameReads's own text, walked. -/
import Derived.Test.YtgldfobfchnkeaaFrSt2
import Derived.Test.YtgldfobfchnkeaaOps
import Derived.Test.YtgldfobfchnkeaaFrParts3
import Derived.Deep.CutBlock
import Derived.Deep.DeepCutAuto
import Derived.BigQuiet
import Derived.StillTailTactics
namespace Go.Proofs.Ytgldfobfchnkeaa
open Go.RowKit Go.Shelf

set_option maxHeartbeats 400000 in
theorem newReader1 (w : World) : Calls Try.prog 17 #[] w fun e w' => e = .returned (.pointer (some ⟨w.heap.size, 0, none⟩)) ∧ Rd w' w.heap.size w.heap.size (.slice none 0 0) [] 0 ∧ w'.heap.size = w.heap.size + 1 ∧ Below w.heap.size w w' := by
  go_enter Try.func17, Try.ntmps17
  go_wp2_with fail
  go_ret
  exact ⟨rfl, ⟨Blk.new w [.slice none 0 0, .int .i64 0] _, OwnB.nil _ _, by simp [Value.ownBlock], Nat.le_refl _, by simp⟩, by simp, (Below.refl _ _).alloc (Nat.le_refl _) _⟩
theorem s2_start {w1 w2 : World} (hr : Rd w2 w1.heap.size w1.heap.size (.slice none 0 0) [] 0) (hsz : w2.heap.size = w1.heap.size + 1) (hb : Below w1.heap.size w1 w2) :
    S2 w1 false (.pointer (some ⟨w1.heap.size, 0, none⟩)) (.pointer (some ⟨w2.heap.size, 0, none⟩)) (.slice none 0 0) (.slice none 0 0) ([], 0) ([], 0) (w2.alloc (.cells #[.slice none 0 0, .int .i64 0] 47)) := by
  have hbb := (Below.refl w2.heap.size w2).alloc (Nat.le_refl _) (.cells #[.slice none 0 0, .int .i64 0] 47)
  refine ⟨hb.trans (hbb.mono (by omega)), .inr ⟨rfl, rfl, by rw [hsz], hr.below hbb, ?_, sl_none, by simp, (fun k e => by cases e), by simp [Value.ownBlock], by simp [Value.ownBlock], by simp [Value.ownBlock], .inl rfl⟩⟩
  rw [← hsz]
  exact Blk.new w2 [.slice none 0 0, .int .i64 0] _
set_option maxRecDepth 100000 in
set_option maxHeartbeats 4000000 in
theorem reads_any (B : Nat) (nb : Bool) (v : Value) (ls : List (UInt8 × List UInt8 × UInt8)) (w : World) (h1 : Ops w B v ls) (hB : B ≤ w.heap.size) :
    Calls Try.prog 5 #[.bool nb, v] w fun e w' => e = .returned (.bool true) ∧ Below w.heap.size w w' := by
  obtain ⟨A1, c1, rfl, hc1a, hc1b, hcells⟩ := h1
  have HC := Lib.hid hcells; clear hcells
  go_enter Try.func5, Try.ntmps5
  go_wp2_with fail
  refine (awake6 w).mono ?_
  rintro e w1 ⟨rfl, hb⟩
  have HB1 := Lib.hid hb; clear hb
  have hW1 : w.heap.size ≤ w1.heap.size := HB1.out.size
  go_wp2_with fail
  refine (newReader1 w1).mono ?_
  rintro e w2 ⟨rfl, hr, hsz, hb⟩
  have HS0 := Lib.hid (s2_start hr hsz hb); clear hr
  have HZ := Lib.hid hsz; clear hsz hb
  go_upto_if 26 with fail
  go_cut [5, 6] (fun s5 s6 wx => ∃ V Vx, S2 w1 nb s5 s6 V Vx ([], 0) ([], 0) wx ∧ w1.heap.size + 2 ≤ wx.heap.size)
  case first =>
    cases nb with
    | true =>
      go_wp2_with fail
      go_meet
      exact ⟨_, _, ⟨HS0.out.b, .inl ⟨rfl, rfl, rfl, rfl, rfl⟩⟩, by have := HZ.out; simp; omega⟩
    | false =>
      have hsz : w2.heap.size = w1.heap.size + 1 := HZ.out
      go_wp2_with fail
      go_meet
      exact ⟨_, _, HS0.out, by have := HZ.out; simp; omega⟩
  case rest =>
    obtain ⟨V0, Vx0, hS, hsc⟩ := hcut
    have HS := Lib.hid hS; clear hS
    clear HS0 HZ
    go_wp2_with fail
    go_loopw [29] (fun i wr => ∃ (k : Nat) (V Vx : Value) (s : St), S2 w1 nb u5 u6 V Vx s s wr ∧ w1.heap.size + 2 ≤ wr.heap.size ∧ k ≤ ls.length ∧ i = .int .i64 (k : Int)) (fun i _ => ls.length - (intOf i).toNat)
    case atStart => exact ⟨0, _, _, _, HS.out, hsc, Nat.zero_le _, rfl⟩
    case round =>
      obtain ⟨k, V, Vx, s, hS, hsr, hk, rfl⟩ := hrel
      have HS1 := Lib.hid hS; clear hS
      by_cases hlt : k < ls.length
      · obtain ⟨b1, o1, rfl, hb1, hcs⟩ := HC.out (by omega)
        obtain ⟨hx0, ⟨vj, hx1, hsl⟩, hx2⟩ := hcs k hlt
        clear hcs
        have hBw : Below w.heap.size w wr := HB1.out.trans (HS1.out.b.mono hW1)
        have q0 := (hBw.cell (p := ⟨b1, o1 + k * 3, none⟩) (by show b1 < w.heap.size; omega)).trans hx0
        have q1 := (hBw.cell (p := ⟨b1, o1 + k * 3 + 1, none⟩) (by show b1 < w.heap.size; omega)).trans hx1
        have q2 := (hBw.cell (p := ⟨b1, o1 + k * 3 + 2, none⟩) (by show b1 < w.heap.size; omega)).trans hx2
        have HJ := Lib.hid (hsl.below hBw hB)
        have HBW := Lib.hid hBw; clear hBw hx0 hx1 hx2 hsl
        obtain ⟨d, hd⟩ : ∃ d, d = ls[k].1 := ⟨_, rfl⟩
        obtain ⟨lj, hlj⟩ : ∃ x, x = ls[k].2.1 := ⟨_, rfl⟩
        obtain ⟨n, hn⟩ : ∃ x, x = ls[k].2.2 := ⟨_, rfl⟩
        rw [← hd] at q0
        rw [← hn] at q2
        rw [← hlj] at HJ
        clear hd hlj hn
        obtain ⟨Aj, cj, rfl, _, _, _, _⟩ := HJ.out
        have hbd := bn_range d
        have hbn := bn_range n
        by_cases h40 : k < 40
        · have h40' : (k : Int) < 40 := by omega
          go_upto_block 2 with fail
          go_cut [38] (fun s38 wx => ∃ (V Vx : Value) (s : St), S2 w1 nb u5 u6 V Vx s s wx ∧ w1.heap.size + 2 ≤ wx.heap.size)
          case first =>
            have HO0 := Lib.hid (Blk.new wr [vb d, .slice Aj lj.length cj, vb n] 49)
            have HS2 := Lib.hid (HS1.out.below ((Below.refl _ wr).alloc (Nat.le_refl _) (.cells #[vb d, .slice Aj lj.length cj, vb n] 49)))
            clear q0 q1 q2
            rcases (by omega : (bn d % 6 = 3 ∨ bn d % 6 = 4) ∨ bn d % 6 = 5 ∨ (bn d % 6 ≠ 3 ∧ bn d % 6 ≠ 4 ∧ bn d % 6 ≠ 5)) with h34 | h5 | ⟨hn3, hn4, hn5⟩
            · obtain ⟨q, hq⟩ : ∃ q, q = ans nb s := ⟨_, rfl⟩
              have HQ := Lib.hid hq; clear hq
              rcases h34 with hd | hd
              all_goals
                go_wp2_with fail
                refine (next_S HS2.out).mono ?_
                rintro e w3 ⟨V2, ha, hS, hc, -⟩
                rw [← HQ.out] at ha
                obtain ⟨Aa, ca, rfl, hO⟩ := ha.all
                clear ha
                have HOa := Lib.hid hO; clear hO
                have hs3 : wr.heap.size + 1 ≤ w3.heap.size := by simpa using hc.size
                clear hc
                have HSa := Lib.hid (hS.below ((Below.refl _ w3).alloc (Nat.le_refl _) (.cells #[vb (anK q), .slice Aa (anB q).length ca] 27))); clear hS
                go_wp2_with fail
                refine (rnext_S HSa.out).mono ?_
                rintro e w4 ⟨Vx2, ha2, hS2, hc2, -⟩
                rw [← HQ.out] at ha2
                obtain ⟨Ab, cb, rfl, hsl2⟩ := ha2.all
                clear ha2
                have hkA := hc2.blk (Blk.new w3 [vb (anK q), .slice Aa (anB q).length ca] 27) (by omega) (by simp [Value.ownBlock])
                have p0 := hkA.at (o := 0) rfl
                have p1 := hkA.at (o := 1) rfl
                clear hkA
                have hs4 : w3.heap.size + 1 ≤ w4.heap.size := by simpa using hc2.size
                have HA4 := Lib.hid (((HOa.out.below ((Below.refl _ w3).alloc (Nat.le_refl _) _)).chg hc2 (by intro e; have := (HOa.out.lt _ e).1; simp at this; omega) (.inl rfl)).sl)
                have HB4 := Lib.hid hsl2; clear hsl2 hc2
                have HSb := Lib.hid (hS2.below ((Below.refl _ w4).alloc (Nat.le_refl _) (.cells #[vb (anK q), .slice Ab (anB q).length cb] 33))); clear hS2
                have hbl := Lib.hid ((Below.refl _ w4).alloc (Nat.le_refl _) (.cells #[vb (anK q), .slice Ab (anB q).length cb] 33))
                have hne : w3.heap.size ≠ w4.heap.size := by omega
                have hlt3 : w3.heap.size < w4.heap.size := by omega
                go_wp2_with fail
                refine (sameFr w4.heap.size w4.heap.size (anK q) _ _ (anB q) _ (HA4.out.below hbl.out (Nat.le_refl _)) (HB4.out.below hbl.out (Nat.le_refl _)) (by simp) (by simp)).mono ?_
                rintro e w5 ⟨rfl, hb⟩
                have hs5 : w4.heap.size + 1 ≤ w5.heap.size := by simpa using hb.size
                have HS5 := Lib.hid (HSb.out.below hb); clear hb
                go_wp2_with fail
                go_meet
                exact ⟨_, _, _, HS5.out, by omega⟩
            · obtain ⟨m, hm⟩ : ∃ m : Nat, bn n % 4 = (m : Int) := ⟨(bn n % 4).toNat, by omega⟩
              have hm4 : m ≤ 3 := by omega
              have k2 := HO0.out.at (o := 2) rfl
              go_wp2_with fail
              refine (take_S HS2.out m (by omega)).mono ?_
              rintro e w3 ⟨vf, fs, V2, rfl, hrow, hbd, hkeys, hS, hs3⟩
              obtain ⟨A3, c3, rfl, hf3, hm3⟩ := row_form hrow
              have hs3 : wr.heap.size + 1 ≤ w3.heap.size := by simpa using hs3
              obtain ⟨s2, hs2⟩ : ∃ s2, s2 = (tk nb m s).2 := ⟨_, rfl⟩
              rw [← hs2] at hS
              have HL := Lib.hid (show Lp w1 nb u5 u6 V2 s2 m (wr.heap.size + 1) (.slice A3 fs.length c3) fs 0 Vx s w3 from ⟨hS, ⟨by rw [hkeys]; rfl, hs2.symm, Nat.zero_le _, Nat.zero_le _⟩, by simpa using hrow, by simpa using hbd, by omega, hs3⟩)
              clear hS hrow hbd hkeys hs2
              clear hm
              obtain ⟨wo, rfl⟩ : ∃ wo : World, wo = wr := ⟨_, rfl⟩
              go_wp2_with fail
              go_loopw [84] (fun i wl => ∃ (j : Nat) (Vk : Value) (sk : St), Lp w1 nb u5 u6 V2 s2 m (wo.heap.size + 1) (.slice A3 fs.length c3) fs j Vk sk wl ∧ i = .int .i64 (j : Int)) (fun i _ => m - (intOf i).toNat)
              case atStart => exact ⟨0, _, _, HL.out, rfl⟩
              case round =>
                obtain ⟨j, Vk, sk, hL, rfl⟩ := hrel
                have HLj := Lib.hid hL; clear hL
                by_cases hj : j < m
                · have hjm : (j : Int) < (m : Int) := by omega
                  cases hans : (ans nb sk).1 with
                  | none =>
                    have hfl := HLj.out.t.none hj hans
                    have hcc := none_code hans
                    have hcmp : ((fs.length : Int) != (j : Int)) = false := by rw [hfl.1]; simp
                    have HNX := Lib.hid hfl.2; clear hfl
                    clear hans
                    go_wp2_with fail
                    refine (rnext_S HLj.out.s).mono ?_
                    rintro e w4 ⟨Vx2, ha2, hS2, hc2, -⟩
                    obtain ⟨Ab, cb, rfl, hsl2⟩ := ha2.all
                    clear ha2 hsl2
                    have hsz4 := HLj.out.sz
                    have hsz5 : wr.heap.size ≤ w4.heap.size := hc2.size
                    clear hc2
                    have HS4 := Lib.hid hS2; clear hS2
                    go_wp2_with fail
                    go_meet
                    refine ⟨V2, Vx2, s2, ?_, by simp; omega⟩
                    have h := HS4.out
                    rw [HNX.out] at h
                    exact h.below ((Below.refl _ w4).alloc (Nat.le_refl _) _)
                  | some y =>
                    obtain ⟨kk, bb⟩ := y
                    have HAN := Lib.hid hans; clear hans
                    obtain ⟨hl, he1, he2, ht⟩ := HLj.out.t.some hj HAN.out
                    have HT1 := Lib.hid ht; clear ht
                    have HE1 := Lib.hid he1; clear he1
                    have HE2 := Lib.hid he2; clear he2
                    go_wp2_with fail
                    refine (rnext_S HLj.out.s).mono ?_
                    rintro e w4 ⟨Vx2, ha2, hS2, hc2, -⟩
                    have HL4 := Lib.hid (HLj.out.step hS2 hc2 HT1.out)
                    clear hS2
                    simp only [Ans, HAN.out] at ha2
                    obtain ⟨vy, rfl, hsl2⟩ := ha2
                    have hsz5 : wr.heap.size ≤ w4.heap.size := hc2.size
                    clear hc2
                    have HSY := Lib.hid hsl2
                    obtain ⟨Ab, cb, rfl, _, _, _, _⟩ := hsl2
                    go_wp2_with fail
                    generalize hw5 : World.alloc w4 _ = w5
                    have HL5 : Hid (Lp w1 nb u5 u6 V2 s2 m (wo.heap.size + 1) (.slice A3 fs.length c3) fs (j + 1) Vx2 (nxt nb sk) w5) := Lib.hid (by rw [← hw5]; exact HL4.out.below ((Below.refl _ w4).alloc (Nat.le_refl _) _))
                    have hB5 : Blk w5 w4.heap.size [vb kk, .slice Ab bb.length cb] := by rw [← hw5]; exact Blk.new w4 _ _
                    have HS5 : Hid (Sl w5 w5.heap.size (.slice Ab bb.length cb) bb) := Lib.hid (by rw [← hw5]; exact (HSY.out.below ((Below.refl _ w4).alloc (Nat.le_refl _) _) (Nat.le_refl _)).more (by simp))
                    have hs45 : w4.heap.size < w5.heap.size := hB5.lt
                    have p0 := hB5.at (o := 0) rfl
                    have p1 := hB5.at (o := 1) rfl
                    clear hB5 hw5
                    obtain ⟨g1, d1, e1, hg1, q0, q1⟩ := row_at HL5.out.row j hl
                    injection e1 with e1a _ e1b
                    subst e1a; subst e1b
                    have HSX := Lib.hid ((HL5.out.bd fs[j] (List.getElem_mem hl)).sl)
                    rw [HE1.out] at q0
                    obtain ⟨vx, hvx⟩ : ∃ vx, vx = fs[j].2.1 := ⟨_, rfl⟩
                    rw [HE2.out, ← hvx] at HSX
                    rw [← hvx] at q1
                    clear hvx
                    obtain ⟨Ax, cx, rfl, _, _, _, _⟩ := HSX.out
                    have hb1 : (j : Int) < (fs.length : Int) := by omega
                    have hb2 : decide ((fs.length : Int) ≤ (j : Int)) = false := by simp; omega
                    have hk0 : (0 : Int) ≤ (j : Int) := by omega
                    go_still_tail 10, (by kernel_rfl)
                    change wpList _ _ _ _ _ w5.drew
                    go_wp2_with fail
                    refine (sameFr w5.heap.size w5.heap.size kk (.slice Ax bb.length cx) (.slice Ab bb.length cb) bb _ (HSX.out.below (Below.refl w5.heap.size w5).drew (Nat.le_refl _)) (HS5.out.below (Below.refl w5.heap.size w5).drew (Nat.le_refl _)) (by simp) (by simp)).mono ?_
                    rintro e w6 ⟨rfl, hb⟩
                    have HB6 : Hid (Below w5.heap.size w5 w6) := Lib.hid ((Below.refl w5.heap.size w5).drew.trans hb); clear hb
                    all_goals
                      go_wp2_with fail
                      go_roundw
                      case rel => exact ⟨j + 1, _, _, HL5.out.below HB6.out, by go_num⟩
                      case measure => simp [intOf]; omega
                · have hdn := HLj.out.t.done hj
                  have HD := Lib.hid hdn; clear hdn
                  go_wp2_with fail
                  go_meet
                  refine ⟨V2, Vk, s2, ?_, by have := HLj.out.sz; omega⟩
                  have h := HLj.out.s
                  rw [HD.out] at h
                  exact h
            · have he3 : (bn d % 6 == 3) = false := by simpa using hn3
              have he4 : (bn d % 6 == 4) = false := by simpa using hn4
              have he5 : (bn d % 6 == 5) = false := by simpa using hn5
              have k0 := HO0.out.at (o := 0) rfl
              have k1 := HO0.out.at (o := 1) rfl
              go_wp2_with fail
              refine (cut_any B _ lj 3000 _ (HJ.out.below ((Below.refl _ wr).alloc (Nat.le_refl _) _) (by have := HBW.out.size; omega)) (by have := HBW.out.size; simp; omega) (by decide) (by decide)).mono ?_
              rintro e w3 ⟨p, rfl, hO, hb⟩
              obtain ⟨lp, hlp⟩ : ∃ lp, lp = lj.take (3000 : Int).toNat := ⟨_, rfl⟩
              have hlp3 : lp.length ≤ 3000 := by rw [hlp, List.length_take]; exact Nat.min_le_left _ _
              rw [← hlp] at hO
              clear hlp
              obtain ⟨Ap, cp, rfl, _, _, _, _⟩ := hO.sl
              have HO3 := Lib.hid hO; clear hO
              have hs3 : wr.heap.size + 1 ≤ w3.heap.size := by simpa using hb.size
              have HS3 := Lib.hid (HS2.out.below hb); clear hb
              obtain ⟨f, hf⟩ : ∃ f, f = fdn nb s lp := ⟨_, rfl⟩
              have HF := Lib.hid hf; clear hf
              go_wp2_with fail
              refine (feed_S HS3.out w3.heap.size _ lp HO3.out.sl).mono ?_
              rintro e w4 ⟨rfl, V4, hS, hc, hn4'⟩
              rw [← HF.out]
              have HN4 := Lib.hid hn4'; clear hn4'
              have hlo : ∀ j, (Value.slice Ap lp.length cp).ownBlock = some j → wr.heap.size + 1 ≤ j ∧ j < w3.heap.size := fun j e => by have := HO3.out.lt j e; simpa using this
              have HLO := Lib.hid hlo; clear hlo
              have hv2 : (∀ j, V.ownBlock = some j → j < wr.heap.size + 1) ∧ ∀ j, Vx.ownBlock = some j → j < wr.heap.size + 1 := by have := HS2.out.ltV; simpa using this
              have HV2 := Lib.hid hv2; clear hv2
              have HO4 := Lib.hid (HO3.out.chg hc (by intro e; have := (HLO.out _ e).1; omega) (by
                cases hv : V.ownBlock with
                | none => exact .inl rfl
                | some j => exact .inr (fun e => by have := (HLO.out j e.symm).1; have := HV2.out.1 j hv; omega)))
              have hs4 : w3.heap.size ≤ w4.heap.size := hc.size
              clear hc
              have HS4 := Lib.hid hS; clear hS
              go_wp2_with fail
              refine (copy_any w4.heap.size _ lp w4 HO4.out.sl (Nat.le_refl _) (by omega)).mono ?_
              rintro e w5 ⟨v5, rfl, hO5, hb5⟩
              obtain ⟨A5, c5, rfl, _, _, _, _⟩ := hO5.sl
              have HO5 := Lib.hid hO5; clear hO5
              have hs5 : w4.heap.size ≤ w5.heap.size := hb5.size
              have HP5 := Lib.hid (HO4.out.below hb5)
              have HS5 := Lib.hid (HS4.out.below hb5); clear hb5
              go_wp2_with fail
              refine (rfeed_S HS5.out w5.heap.size _ lp HO5.out.sl (Nat.le_refl _)).mono ?_
              rintro e w6 ⟨rfl, Vx6, hS6, hg6, hown6⟩
              rw [← HF.out]
              have HS6 := Lib.hid hS6; clear hS6
              have hs6 : w5.heap.size ≤ w6.heap.size := hg6.size
              have HP6 := Lib.hid (HP5.out.kept hg6 (by
                right
                intro e
                have := (HLO.out _ e).1
                omega)); clear hg6
              have HW6 := Lib.hid hown6; clear hown6
              go_wp2_with fail
              refine (flip_S HS6.out (wr.heap.size + 1) _ lp (by simpa using HP6.out) (by omega) (by omega) (fun j e => ⟨fun e2 => ?_, fun e2 => ?_⟩)).mono ?_
              · have h := HLO.out j e
                rcases HN4.out j e2 with h2 | h2
                · have := HV2.out.1 j h2; omega
                · omega
              · have h := HLO.out j e
                rcases HW6.out with h2 | h2
                · have := HV2.out.2 j (by rw [← h2, e2]); omega
                · have := h2 j e2; omega
              rintro e w7 ⟨rfl, hS7, hs7⟩
              have HS7 := Lib.hid hS7; clear hS7
              go_wp2_with fail
              go_meet
              exact ⟨_, _, _, HS7.out, by omega⟩
          case rest =>
            obtain ⟨Vt, Vxt, st, hS, hsz⟩ := hcut
            have HT := Lib.hid hS; clear hS
            rcases HT.out.c with ⟨rfl, rfl, rfl, rfl, rfl⟩ | ⟨rfl, rfl, rfl, k3, k4, k5, _⟩
            · go_wp2_with (first | (refine (broken_nil _).mono ?_; rintro e w8 ⟨rfl, rfl⟩) | (refine (waiting_nil _).mono ?_; rintro e w8 ⟨rfl, rfl⟩))
              go_roundw
              case rel => exact ⟨k + 1, _, _, _, HT.out, hsz, by omega, by go_num⟩
              case measure => simp [intOf]; omega
            · have c0 := k4.at (o := 0) rfl
              have c1 := k4.at (o := 1) rfl
              obtain ⟨At, ct, rfl, _, _, _, _⟩ := k5
              have HR := Lib.hid k3; clear k3
              clear k4
              go_wp2_with fail
              go_quiet (fail)
              go_wp2_with (first | (refine (broken_any (HR.out.below (below_drewN (Below.refl _ _) _))).mono ?_; rintro e w8 ⟨rfl, rfl⟩) | (refine (waiting_any (HR.out.below (below_drewN (Below.refl _ _) _))).mono ?_; rintro e w8 ⟨rfl, rfl⟩))
              go_roundw
              case rel => exact ⟨k + 1, _, _, _, HT.out.below (below_drewN (Below.refl _ _) _), hsz, by omega, by go_num⟩
              case measure => simp [intOf]; omega
        · have h40' : ¬ (k : Int) < 40 := by omega
          go_wp2_with fail
          go_ret
          exact ⟨rfl, HBW.out.alloc HBW.out.size _⟩
      · go_wp2_with fail
        go_ret
        exact ⟨rfl, HB1.out.trans (HS1.out.b.mono hW1)⟩
end Go.Proofs.Ytgldfobfchnkeaa
