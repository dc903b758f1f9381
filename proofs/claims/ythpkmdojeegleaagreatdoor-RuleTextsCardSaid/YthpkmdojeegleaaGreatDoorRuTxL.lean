/- RuleTexts' walk. -/
import Derived.Test.YthpkmdojeegleaaGreatDoorRuTwo
import Derived.Test.YthpkmdojeegleaaGreatDoorRuBl
import Derived.Test.YthpkmdojeegleaaGreatDoorRuEq
import Derived.Test.YthpkmdojeegleaaGreatDoorRuNf
set_option maxRecDepth 100000
namespace Go.Proofs.YthpkmdojeegleaaGreatDoor
open Go.RowKit Go.Shelf
attribute [local go_sem] Oper.semAt_some
/-- The lines of rules, as the law adds them up. -/
def textB (xs : List RuL) : List UInt8 := xs.flatMap (fun r => (textR r).1 ++ [10])
def badB (xs : List RuL) : Bool := !xs.all validB
theorem textB_snoc (xs : List RuL) (r : RuL) : textB (xs ++ [r]) = textB xs ++ ((textR r).1 ++ [10]) := by simp [textB]
theorem badB_snoc (xs : List RuL) (r : RuL) : badB (xs ++ [r]) = (badB xs || !validB r) := by simp [badB]
theorem textR_len (r : RuL) : (textR r).1.length ≤ 116 := by
  unfold textR
  split
  · rename_i h; exact (lineL_back h).2.2.2
  · simp
theorem textB_len : ∀ xs : List RuL, (textB xs).length ≤ 117 * xs.length
  | [] => by simp [textB]
  | r :: xs => by
    have h1 := textB_len xs
    have h2 := textR_len r
    simp only [textB, List.flatMap_cons, List.length_append, List.length_cons, List.length_nil] at h1 ⊢
    omega
theorem textB_valid : ∀ xs : List RuL, (∀ r ∈ xs, validB r = true) → textB xs = textL xs
  | [], _ => rfl
  | r :: xs, h => by
    have h1 := textB_valid xs (fun q hq => h q (List.mem_cons_of_mem _ hq))
    have h2 := h r List.mem_cons_self
    have h3 : (textR r).1 = lineL r := by unfold textR; rw [if_pos h2]
    show (textR r).1 ++ [10] ++ textB xs = _
    rw [h1, h3]
    simp [textL]
def KeptS (m : Nat) (xs : List RuL) : Prop := xs.length ≤ m ∧ ∀ r ∈ xs, r.role.length ≤ 40 ∧ r.ten.length ≤ 40 ∧ r.host.length ≤ 40
/-- The two rows, of whatever rules. -/
structure TwoS (B m : Nat) (v u : Value) (xs : List RuL) (w A : World) : Prop where
  own1 : OwnR 41 A B v xs
  own2 : OwnR 33 A B u xs
  ne : v.ownBlock = none ∨ v.ownBlock ≠ u.ownBlock
  low : Below B w A
  bw : B ≤ w.heap.size
  kept : KeptS m xs
section
variable {B m m' : Nat} {v u : Value} {xs : List RuL} {w A A' : World} {r : RuL}
theorem TwoS.below (h : TwoS B m v u xs w A) (hb : Below A.heap.size A A') : TwoS B m v u xs w A' :=
  ⟨h.own1.below hb, h.own2.below hb, h.ne, h.low.trans (hb.mono (Nat.le_trans h.bw h.low.size)), h.bw, h.kept⟩
theorem TwoS.box (h : TwoS B m v u xs w A) (cs : List Value) (t : TypeId) (hc : cs = rcl r) : TwoR B v u xs xs A.heap.size r w (A.alloc (.cells cs.toArray t)) := by
  subst hc
  have hb := (Below.refl A.heap.size A).alloc (Nat.le_refl _) (.cells (rcl r).toArray t)
  exact ⟨h.own1.below hb, h.own2.below hb, h.ne, Blk.new A _ _, fun e => by have := (h.own1.lt _ e).2; omega, fun e => by have := (h.own2.lt _ e).2; omega, h.low.trans (hb.mono (Nat.le_trans h.bw h.low.size)), h.bw⟩
theorem TwoR.twoS {bx : Nat} (h : TwoR B v u xs xs bx r w A) (hk : KeptS m xs) : TwoS B m v u xs w A := ⟨h.own1, h.own2, h.ne, h.low, h.bw, hk⟩
theorem KeptS.snoc (h : KeptS m xs) (hl : xs.length < m) (hr : r.role.length ≤ 40 ∧ r.ten.length ≤ 40 ∧ r.host.length ≤ 40) : KeptS m (xs ++ [r]) :=
  ⟨by rw [List.length_append]; simp; omega, fun x hx => by
    rw [List.mem_append, List.mem_singleton] at hx
    rcases hx with hx | rfl
    · exact h.2 x hx
    · exact hr⟩
end
set_option maxHeartbeats 16000000 in
theorem texts_law (v0 : Value) (l : List RuL) (w : World) (hv : RlIn w w.heap.size v0 l) (hg : ∀ r ∈ l, GoodR r) (hE : Env w) :
    Calls Tryz.prog 4 #[v0] w fun e w' => e = .returned (.bool true) ∧ Below w.heap.size w w' := by
  have HA := Lib.hid (awake16 w hE)
  have HE := Lib.hid hE
  have HV := Lib.hid hv
  have HG := Lib.hid hg
  obtain ⟨A, c, rfl, hc1, hc2, hq⟩ := hv
  clear hq hE hg
  go_enter Tryz.func4, Tryz.ntmps4
  go_wp2_with fail
  refine HA.out.mono ?_
  rintro e W1 ⟨rfl, hB⟩
  have HB1 := Lib.hid hB
  have HE1 := Lib.hid (HE.out.below hB)
  have HTW := Lib.hid (show TwoS W1.heap.size 35 (.slice none 0 0) (.slice none 0 0) [] W1 W1 from ⟨OwnR.nil _ _ _, OwnR.nil _ _ _, .inl rfl, Below.refl _ _, Nat.le_refl _, by simp, fun r h => by cases h⟩)
  clear hB HA
  go_wp2_with fail
  go_loopw [3, 4, 5, 6, 20] (fun v u tx bd i wr => ∃ (k : Nat) (xs : List RuL), k ≤ l.length ∧ k ≤ 35 ∧ xs.length = k ∧ i = .int .i64 (k : Int) ∧ tx = str (textB xs) ∧ bd = .bool (badB xs) ∧ TwoS W1.heap.size 35 v u xs W1 wr) (fun _ _ _ _ i _ => l.length - (intOf i).toNat)
  case atStart => exact ⟨0, [], by omega, by omega, rfl, rfl, rfl, rfl, HTW.out⟩
  case round =>
    obtain ⟨k, xs, hk, hk35, hxk, rfl, rfl, rfl, hT⟩ := hrel
    have HT := Lib.hid hT
    have HXK := Lib.hid hxk
    have hx35 : xs.length ≤ 35 := by omega
    clear hxk
    by_cases hlt : k < l.length
    · have hbw := HB1.out.trans (hT.low.mono HB1.out.size)
      obtain ⟨g, o, rfl, hgl, e0, e1, e2, e3, e4, e5⟩ := (HV.out.below hbw (Nat.le_refl _)).six k hlt
      have HF := Lib.hid (fun W => refFew_any l[k] W (HG.out _ (List.getElem_mem hlt)))
      have hfs := fewR_small l[k]
      obtain ⟨q, hqd⟩ : ∃ q, q = fewR l[k] := ⟨_, rfl⟩
      rw [← hqd] at HF hfs
      obtain ⟨x, hx⟩ : ∃ x, x = l[k] := ⟨_, rfl⟩
      rw [← hx] at e0 e1 e2 e3 e4 e5 HF
      have hqs : SmallR q := ⟨by omega, by omega, by omega⟩
      have HRT := Lib.hid (fun W (h : Env W) => ruleText_any q W h hqs)
      have HRF := Lib.hid (fun W => refText_any q W hqs)
      have HFS := Lib.hid hfs
      have htb := textB_snoc xs q
      have hbb := badB_snoc xs q
      have hrl := textR_len q
      have htl := textB_len xs
      have hT2 : (textR q).2 = if validB q = true then 0 else 4 := by unfold textR; split <;> rfl
      obtain ⟨T1, hT1d⟩ : ∃ T, T = (textR q).1 := ⟨_, rfl⟩
      obtain ⟨T2, hT2d⟩ : ∃ T, T = (textR q).2 := ⟨_, rfl⟩
      rw [← hT1d] at HRT HRF htb hrl
      rw [← hT2d] at HRT HRF hT2
      obtain ⟨P, hP⟩ : ∃ P, P = validB q := ⟨_, rfl⟩
      rw [← hP] at hbb hT2
      obtain ⟨b0, hb0⟩ : ∃ b, b = badB xs := ⟨_, rfl⟩
      rw [← hb0] at hbb
      rw [← hb0]
      obtain ⟨tx, htx⟩ : ∃ t, t = textB xs := ⟨_, rfl⟩
      rw [← htx] at htb htl
      rw [← htx]
      have HTXT := Lib.hid htx
      have HBAD := Lib.hid hb0
      have HT2 := Lib.hid hT2
      clear hT1d hT2d hP hb0 htx hT2
      obtain ⟨al, ro, te, ho, fr, ti⟩ := x
      obtain ⟨al2, ro2, te2, ho2, fr2, ti2⟩ := q
      simp only at e0 e1 e2 e3 e4 e5
      have HTB := Lib.hid htb
      have HBB := Lib.hid hbb
      obtain ⟨bx, hbx⟩ : ∃ bx, bx = wr.heap.size := ⟨_, rfl⟩
      obtain ⟨V1, hV1⟩ : ∃ V1, V1 = wr.alloc (.cells #[.bool al, str ro, str te, str ho, .int .i64 fr, .int .i64 ti] 33) := ⟨_, rfl⟩
      have HR1 := Lib.hid (show TwoR W1.heap.size u3 u4 xs xs bx ⟨al, ro, te, ho, fr, ti⟩ W1 V1 from by rw [hV1, hbx]; exact hT.box (rcl ⟨al, ro, te, ho, fr, ti⟩) _ rfl)
      have HBX := Lib.hid (show W1.heap.size ≤ bx from by rw [hbx]; exact hT.low.size)
      clear hqd hx hT hbw hfs htb hbb hqs
      have hk0 := HR1.out.bl
      have d0 := hk0.at (o := 0) rfl
      have d1 := hk0.at (o := 1) rfl
      have d2 := hk0.at (o := 2) rfl
      have d3 := hk0.at (o := 3) rfl
      have d4 := hk0.at (o := 4) rfl
      have d5 := hk0.at (o := 5) rfl
      rw [hV1, hbx] at d0 d1 d2 d3 d4 d5
      clear hk0
      by_cases hk3 : k = 35
      · subst hk3
        go_wp2_with fail
        rw [HTXT.out, HBAD.out]
        have hTX := HR1.out.twoS HT.out.kept
        rw [← hV1]
        clear hV1 hbx d0 d1 d2 d3 d4 d5 HTXT HBAD HTB HBB HRT HRF HF HT2
        obtain ⟨bd, hbd⟩ : ∃ b, b = badB xs := ⟨_, rfl⟩
        rw [← hbd]
        obtain ⟨tx, htx⟩ : ∃ t, t = textB xs := ⟨_, rfl⟩
        rw [← htx]
        have hbdx : bd = !xs.all validB := hbd
        have HTXB := Lib.hid htx
        have hkp := hTX.kept
        have hsm : ∀ r ∈ xs, SmallR r := fun r h => ⟨by have := (hkp.2 r h).1; omega, by have := (hkp.2 r h).2.1; omega, by have := (hkp.2 r h).2.2; omega⟩
        have HNEW := Lib.hid (fun W (h : Env W) v (hr : RlIn W W.heap.size v xs) => new_fresh W.heap.size v xs W h hr (Nat.le_refl _) hsm (by omega))
        have HTX := Lib.hid hTX
        have HEX := Lib.hid (HE.out.below (HB1.out.trans (hTX.low.mono HB1.out.size)))
        obtain ⟨A3, c3, rfl, hc31, hc32⟩ := hTX.own1.form
        obtain ⟨A4, c4, rfl, hc41, hc42⟩ := hTX.own2.form
        clear hTX hkp hsm hbd htx
        go_wp2_with fail
        refine (HNEW.out _ HEX.out _ HTX.out.own1.rlIn).mono ?_
        rintro e W5 ⟨pv, x, rfl, hcase, hB5⟩
        have HT5 := Lib.hid (HTX.out.below hB5)
        have HE5 := Lib.hid (HEX.out.below hB5)
        have HL5 := Lib.hid (HB1.out.trans (HT5.out.low.mono HB1.out.size))
        have HB5 := Lib.hid hB5
        clear hB5
        rcases hcase with ⟨h, rfl, rfl⟩ | ⟨h, h32, rfl, rfl⟩ | ⟨h, h32, rfl, p, vr, rfl, hp1, hp2, hpc, hpo, hpn⟩
        · obtain rfl : bd = true := by rw [hbdx, h]; rfl
          clear hbdx h
          go_wp2_with fail
          go_ret
          exact ⟨rfl, HL5.out⟩
        · obtain rfl : bd = false := by rw [hbdx, h]; rfl
          have h33 : (32 : Int) < (xs.length : Int) := by omega
          clear hbdx h
          go_wp2_with fail
          go_ret
          exact ⟨rfl, HL5.out⟩
        · obtain rfl : bd = false := by rw [hbdx, h]; rfl
          have h33 : ¬ (32 : Int) < (xs.length : Int) := by omega
          have HVAL := Lib.hid (List.all_eq_true.1 h)
          have hrow : 0 < xs.length → ∃ g, A3 = some ⟨g, 0, none⟩ ∧ g < V1.heap.size ∧ ∃ cs, Blk W5 g cs ∧ xs.length * 6 ≤ cs.length := by
            intro h0
            have hlt := HTX.out.own1.lt
            rcases HT5.out.own1.2 with ⟨e, e0⟩ | ⟨g, cap, cur, e, _, hg, hcap, _, hsz, _⟩
            · omega
            · injection e with e1 _ e3
              subst e1 e3
              exact ⟨g, rfl, (hlt g rfl).2, cur.toList, ⟨_, hg⟩, by simp only [Array.length_toList]; rw [hsz]; exact Nat.mul_le_mul_right 6 hcap⟩
          have HPC := Lib.hid hpc
          have HPO := Lib.hid hpo
          have HRW := Lib.hid hrow
          have HP12 := Lib.hid (⟨hp1, hp2, hpn⟩ : _ ∧ _ ∧ _)
          clear hbdx h hpc hpo hp1 hp2 hpn hrow
          go_wp2_with fail
          go_loopw [90] (fun i wr => ∃ k : Nat, k ≤ xs.length ∧ i = .int .i64 (k : Int) ∧ W5.grownBy wr (Value.slice A3 xs.length c3).ownBlock ∧ (0 < xs.length → ∃ g, A3 = some ⟨g, 0, none⟩ ∧ ∃ cs, Blk wr g cs ∧ xs.length * 6 ≤ cs.length)) (fun i _ => xs.length - (intOf i).toNat)
          case atStart => exact ⟨0, by omega, rfl, World.grownBy.refl _ _, fun h0 => by obtain ⟨g, e, _, h⟩ := HRW.out h0; exact ⟨g, e, h⟩⟩
          case round =>
            obtain ⟨k2, hk2, rfl, hgr, hbl⟩ := hrel
            by_cases hlt2 : k2 < xs.length
            · obtain ⟨g, rfl, cs, hbk, hcl⟩ := hbl (by omega)
              have c0 := hbk.at (o := k2 * 6) (List.getElem?_eq_getElem (by omega))
              have c1 := hbk.at (o := k2 * 6 + 1) (List.getElem?_eq_getElem (by omega))
              have c2 := hbk.at (o := k2 * 6 + 2) (List.getElem?_eq_getElem (by omega))
              have c3 := hbk.at (o := k2 * 6 + 3) (List.getElem?_eq_getElem (by omega))
              have c4 := hbk.at (o := k2 * 6 + 4) (List.getElem?_eq_getElem (by omega))
              have c5 := hbk.at (o := k2 * 6 + 5) (List.getElem?_eq_getElem (by omega))
              have f0 := hbk.free (k2 * 6)
              have f1 := hbk.free (k2 * 6 + 1)
              have f2 := hbk.free (k2 * 6 + 2)
              have f3 := hbk.free (k2 * 6 + 3)
              have f4 := hbk.free (k2 * 6 + 4)
              have f5 := hbk.free (k2 * 6 + 5)
              have HBK := Lib.hid hbk
              have HGR := Lib.hid hgr
              clear hbl hgr hbk
              go_wp2_with fail
              go_roundw
              case rel =>
                have s0 := ((((((HBK.out.set (k2 * 6) (.bool false)).set (k2 * 6 + 1) (str [])).set (k2 * 6 + 2) (str [])).set (k2 * 6 + 3) (str [])).set (k2 * 6 + 4) (.int .i64 0)).set (k2 * 6 + 5) (.int .i64 0))
                refine ⟨k2 + 1, by omega, by go_num, ?_, fun _ => ⟨g, rfl, _, s0, by simp only [List.length_set]; omega⟩⟩
                exact (((((HGR.out.trans (grown_set _ ⟨g, k2 * 6, none⟩ _)).trans (grown_set _ ⟨g, k2 * 6 + 1, none⟩ _)).trans (grown_set _ ⟨g, k2 * 6 + 2, none⟩ _)).trans (grown_set _ ⟨g, k2 * 6 + 3, none⟩ _)).trans (grown_set _ ⟨g, k2 * 6 + 4, none⟩ _)).trans (grown_set _ ⟨g, k2 * 6 + 5, none⟩ _)
              case measure => simp [intOf]; omega
            · obtain rfl : k2 = xs.length := by omega
              have hne : ∀ j, V1.heap.size ≤ j → some j ≠ (Value.slice A3 xs.length c3).ownBlock := fun j hj e => by
                have := (HTX.out.own1.lt j e.symm).2
                omega
              have hz := HB5.out.size
              obtain ⟨hp1, hp2, hpn⟩ := HP12.out
              have hpc := hgr.cell HPC.out (hne p hp1)
              have hpo := World.ownsRow.kept HPO.out hgr (by
                cases hv : vr.ownBlock with
                | none => exact .inl rfl
                | some j => exact .inr (hne j ((HPO.out.lt j hv).1)))
              have hwt := World.ownsRow.kept HT5.out.own2 hgr (by
                rcases HT5.out.ne with e | e
                · cases hv : (Value.slice A4 xs.length c4).ownBlock with
                  | none => exact .inl rfl
                  | some j => exact .inr (by rw [e]; simp)
                · exact .inr (Ne.symm e))
              have hlow := HT5.out.low.grown hgr HT5.out.low.size (fun j e => (HT5.out.own1.lt j e).1)
              have HPL := Lib.hid (show PolO wr wr.heap.size (.pointer (some ⟨p, 0, none⟩)) xs from .inr ⟨p, vr, rfl, by have := hgr.size; omega, hpc, OwnR.rlIn hpo⟩)
              have HWT := Lib.hid (OwnR.rlIn (show OwnR tRf wr W1.heap.size _ xs from hwt))
              have HLW := Lib.hid (HB1.out.trans (hlow.mono HB1.out.size))
              have HEQ := Lib.hid (HE.out.below HLW.out)
              clear hne hpc hpo hwt hlow hgr hbl hp1 hp2 hpn
              go_wp2_with fail
              refine (rules_w wr.heap.size (.pointer (some ⟨p, 0, none⟩)) xs 1000 wr HPL.out (Nat.le_refl _) (by omega) (by omega) (by omega)).mono ?_
              rintro e X1 ⟨u1, rfl, hO, hB⟩
              rw [List.take_of_length_le (by omega)] at hO
              have HO := Lib.hid hO
              have HP1 := Lib.hid ((HPL.out.below hB (Nat.le_refl _)).more hB.size)
              have HW1 := Lib.hid ((HWT.out.below hB (Nat.le_refl _)).more hB.size)
              have HE1 := Lib.hid (HEQ.out.below hB)
              have HL1 := Lib.hid (HLW.out.trans (hB.mono HLW.out.size))
              clear hO hB
              go_wp2_with fail
              refine (equalRf_same X1.heap.size u1 (.slice A4 xs.length c4) xs X1 HO.out.rlIn HW1.out (Nat.le_refl _) (by omega)).mono ?_
              rintro e X2 ⟨rfl, hB⟩
              have HP2 := Lib.hid ((HP1.out.below hB (Nat.le_refl _)).more hB.size)
              have HE2 := Lib.hid (HE1.out.below hB)
              have HL2 := Lib.hid (HL1.out.trans (hB.mono HL1.out.size))
              clear hB
              go_wp2_with fail
              refine (polText_any X2.heap.size (.pointer (some ⟨p, 0, none⟩)) xs X2 HE2.out HP2.out (Nat.le_refl _) HVAL.out (by omega)).mono ?_
              rintro e X3 ⟨rfl, hB⟩
              have HL3 := Lib.hid (HL2.out.trans (hB.mono HL2.out.size))
              clear hB
              rw [← textB_valid xs HVAL.out, ← HTXB.out]
              go_wp2_with fail
              go_ret
              exact ⟨by first | rfl | simp, HL3.out⟩
      · have h35 : ¬ (35 : Int) ≤ (k : Int) := by omega
        have h35d : decide ((35 : Int) ≤ (k : Int)) = false := decide_eq_false h35
        go_wp2_with fail
        rw [← hV1, ← hbx]
        refine (HF.out _).mono ?_
        rintro e V2 ⟨rfl, hB⟩
        clear d0 d1 d2 d3 d4 d5 hV1 hbx
        have HR2 := Lib.hid (HR1.out.below hB)
        clear hB
        have hk0 := HR2.out.bl
        have hlt0 := hk0.lt
        have d0 := hk0.at (o := 0) rfl
        have d1 := hk0.at (o := 1) rfl
        have d2 := hk0.at (o := 2) rfl
        have d3 := hk0.at (o := 3) rfl
        have d4 := hk0.at (o := 4) rfl
        have d5 := hk0.at (o := 5) rfl
        have f0 := hk0.free 0
        have f1 := hk0.free 1
        have f2 := hk0.free 2
        have f3 := hk0.free 3
        have f4 := hk0.free 4
        have f5 := hk0.free 5
        clear hk0
        obtain ⟨V3, hV3⟩ : ∃ V3, V3 = ((((((V2.setCell ⟨bx, 0, none⟩ (.bool al2)).setCell ⟨bx, 1, none⟩ (str ro2)).setCell ⟨bx, 2, none⟩ (str te2)).setCell ⟨bx, 3, none⟩ (str ho2)).setCell ⟨bx, 4, none⟩ (.int .i64 fr2)).setCell ⟨bx, 5, none⟩ (.int .i64 ti2)) := ⟨_, rfl⟩
        have HR3 := Lib.hid (show TwoR W1.heap.size u3 u4 xs xs bx ⟨al2, ro2, te2, ho2, fr2, ti2⟩ W1 V3 from by rw [hV3]; exact HR2.out.store HBX.out)
        have hk0 := HR3.out.bl
        have r0 := hk0.at (o := 0) rfl
        have r1 := hk0.at (o := 1) rfl
        have r2 := hk0.at (o := 2) rfl
        have r3 := hk0.at (o := 3) rfl
        have r4 := hk0.at (o := 4) rfl
        have r5 := hk0.at (o := 5) rfl
        rw [hV3] at r0 r1 r2 r3 r4 r5
        clear hk0
        go_wp2_with fail
        rw [← hV3]
        clear r0 r1 r2 r3 r4 r5 d0 d1 d2 d3 d4 d5 f0 f1 f2 f3 f4 f5
        have HE3 := Lib.hid (HE.out.below (HB1.out.trans (HR3.out.low.mono HB1.out.size)))
        refine (HRT.out _ HE3.out).mono ?_
        rintro e V4a ⟨rfl, hB⟩
        have HR4a := Lib.hid (HR3.out.below hB)
        clear hB hV3
        have hk0 := HR4a.out.bl
        have d0 := hk0.at (o := 0) rfl
        have d1 := hk0.at (o := 1) rfl
        have d2 := hk0.at (o := 2) rfl
        have d3 := hk0.at (o := 3) rfl
        have d4 := hk0.at (o := 4) rfl
        have d5 := hk0.at (o := 5) rfl
        clear hk0
        go_wp2_with fail
        refine (HRF.out _).mono ?_
        rintro e V4 ⟨rfl, hB⟩
        have HR4 := Lib.hid (HR4a.out.below hB)
        clear hB d0 d1 d2 d3 d4 d5
        have HKP := Lib.hid HT.out.kept
        have HKS := Lib.hid (show KeptS 35 (xs ++ [⟨al2, ro2, te2, ho2, fr2, ti2⟩]) from HT.out.kept.snoc (by have := HXK.out; omega) HFS.out)
        have hcat1 : (⟨T1.toArray⟩ : ByteArray) ++ ⟨#[10]⟩ = ⟨(T1 ++ [10]).toArray⟩ := by apply ByteArray.ext; simp [ByteArray.data_append]
        have hcat2 : (⟨tx.toArray⟩ : ByteArray) ++ ⟨(T1 ++ [10]).toArray⟩ = ⟨(tx ++ (T1 ++ [10])).toArray⟩ := by apply ByteArray.ext; simp [ByteArray.data_append]
        clear HR1 HR2 HR3 HR4a HTXT HBAD HRT HRF HF
        cases P with
        | false =>
          obtain rfl : T2 = 4 := by simpa using HT2.out
          cases b0
          all_goals
            go_wp2_with fail
            have HRV4d := Lib.hid (show TwoR W1.heap.size u3 u4 xs xs bx ⟨al2, ro2, te2, ho2, fr2, ti2⟩ W1 V4.drew from HR4.out.below ((Below.refl _ V4).drew))
            have HZV4d := Lib.hid (show V4.heap.size ≤ V4.drew.heap.size from Nat.le_refl _)
            have HN := Lib.hid (show (∀ n, V4.heap.size ≤ n → u3.ownBlock ≠ some n) ∧ (∀ n, V4.heap.size ≤ n → u4.ownBlock ≠ some n) from ⟨fun n hn e => by have := (HR4.out.own1.lt _ e).2; omega, fun n hn e => by have := (HR4.out.own2.lt _ e).2; omega⟩)
            have HSIX := Lib.hid (fun W (h : Blk W bx (rcl ⟨al2, ro2, te2, ho2, fr2, ti2⟩)) => (show W.cell? ⟨bx, 0, none⟩ = some (.bool al2) ∧ W.cell? ⟨bx, 1, none⟩ = some (str ro2) ∧ W.cell? ⟨bx, 2, none⟩ = some (str te2) ∧ W.cell? ⟨bx, 3, none⟩ = some (str ho2) ∧ W.cell? ⟨bx, 4, none⟩ = some (.int .i64 fr2) ∧ W.cell? ⟨bx, 5, none⟩ = some (.int .i64 ti2) from ⟨h.at (o := 0) rfl, h.at (o := 1) rfl, h.at (o := 2) rfl, h.at (o := 3) rfl, h.at (o := 4) rfl, h.at (o := 5) rfl⟩))
            have HX := Lib.hid (HSIX.out _ HRV4d.out.bl)
            obtain ⟨V4d, hV4d⟩ : ∃ V, V = V4.drew := ⟨_, rfl⟩
            refine wp_region_noPanic ?_
            refine wp_region_held (S := fun W => W.cell? ⟨bx, 0, none⟩ = some (.bool al2) ∧ W.cell? ⟨bx, 1, none⟩ = some (str ro2) ∧ W.cell? ⟨bx, 2, none⟩ = some (str te2) ∧ W.cell? ⟨bx, 3, none⟩ = some (str ho2) ∧ W.cell? ⟨bx, 4, none⟩ = some (.int .i64 fr2) ∧ W.cell? ⟨bx, 5, none⟩ = some (.int .i64 ti2)) (by kernel_rfl) ?_
            change wpAnyH _ _ _ _ _ _ _ _ V4.drew
            rw [← hV4d] at HRV4d HZV4d HX ⊢
            clear hV4d
            refine takeH 0 56 (u3) rfl rfl (by kernel_rfl) (by kernel_rfl) (by kernel_rfl) (fun _ _ _ h => h) rfl (fun w' _ => by go_simp) HX.out ?_
            go_frame
            refine takeH 1 57 (.agg #[.bool al2, str ro2, str te2, str ho2, .int .i64 fr2, .int .i64 ti2]) rfl rfl (by kernel_rfl) (by kernel_rfl) (by kernel_rfl) (fun _ _ _ h => h) rfl (fun w' h => by obtain ⟨h0, h1, h2, h3, h4, h5⟩ := h; go_simp) HX.out ?_
            go_frame
            refine takeH 4 60 (u4) rfl rfl (by kernel_rfl) (by kernel_rfl) (by kernel_rfl) (fun _ _ _ h => h) rfl (fun w' _ => by go_simp) HX.out ?_
            go_frame
            refine takeH 5 61 (.agg #[.bool al2, str ro2, str te2, str ho2, .int .i64 fr2, .int .i64 ti2]) rfl rfl (by kernel_rfl) (by kernel_rfl) (by kernel_rfl) (fun _ _ _ h => h) rfl (fun w' h => by obtain ⟨h0, h1, h2, h3, h4, h5⟩ := h; go_simp) HX.out ?_
            go_frame
            refine wpAnyH_all (rs := [2, 6]) (by kernel_rfl) (by simp) ?_
            intro i hi
            simp only [List.mem_cons, List.mem_nil_iff, or_false] at hi
            rcases hi with rfl | rfl
            · skip
              obtain ⟨Yp1, hYp1⟩ : ∃ Y, Y = V4d.alloc (.cells #[.bool al2, str ro2, str te2, str ho2, .int .i64 fr2, .int .i64 ti2] 41) := ⟨_, rfl⟩
              obtain ⟨na, hna⟩ : ∃ n, n = V4d.heap.size := ⟨_, rfl⟩
              have HRYp1 := Lib.hid (show TwoR W1.heap.size u3 u4 xs xs bx ⟨al2, ro2, te2, ho2, fr2, ti2⟩ W1 Yp1 from by rw [hYp1]; exact HRV4d.out.below ((Below.refl _ _).alloc (Nat.le_refl _) _))
              have KaYp1 := Lib.hid (show Blk Yp1 na (rcl ⟨al2, ro2, te2, ho2, fr2, ti2⟩) from by rw [hYp1, hna]; exact Blk.new _ _ _)
              have La := Lib.hid (show V4.heap.size ≤ na from by rw [hna]; exact HZV4d.out)
              have HZYp1 := Lib.hid (show V4.heap.size ≤ Yp1.heap.size from by rw [hYp1]; simp; have := HZV4d.out; omega)
              refine wpOp_valueX 58 rfl rfl rfl (.slice (some ⟨na, 0, none⟩) 1 1) Yp1 (by rw [hYp1, hna]; go_simp) ⟨HSIX.out _ HRYp1.out.bl, ?_⟩
              go_frame
              clear hYp1 hna
              have HX := Lib.hid (HSIX.out _ HRYp1.out.bl)
              refine wpAnyH_all (rs := [3, 6]) (by kernel_rfl) (by simp) ?_
              intro i hi
              simp only [List.mem_cons, List.mem_nil_iff, or_false] at hi
              rcases hi with rfl | rfl
              · skip
                refine wpOp_appR1 rfl rfl (.tmp 56) (.tmp 58) rfl W1.heap.size u3 xs rfl HRYp1.out.own1 na ⟨al2, ro2, te2, ho2, fr2, ti2⟩ rfl KaYp1.out (by have := HKP.out.1; omega) (Nat.le_trans HRYp1.out.bw HRYp1.out.low.size) ?_
                intro vq1 Yq2 ho hg hv
                have HRYq2 := Lib.hid (HRYp1.out.put1 hg ho hv)
                have HZYq2 := Lib.hid (Nat.le_trans HZYp1.out hg.size)
                clear ho hg hv
                refine ⟨HSIX.out _ HRYq2.out.bl, ?_⟩
                go_frame
                have HX := Lib.hid (HSIX.out _ HRYq2.out.bl)
                refine wpAnyH_all (rs := [6]) (by kernel_rfl) (by simp) ?_
                simp only [List.mem_singleton, forall_eq]
                obtain ⟨Yq3, hYq3⟩ : ∃ Y, Y = Yq2.alloc (.cells #[.bool al2, str ro2, str te2, str ho2, .int .i64 fr2, .int .i64 ti2] 33) := ⟨_, rfl⟩
                obtain ⟨nb, hnb⟩ : ∃ n, n = Yq2.heap.size := ⟨_, rfl⟩
                have HRYq3 := Lib.hid (show TwoR W1.heap.size vq1 u4 (xs ++ [⟨al2, ro2, te2, ho2, fr2, ti2⟩]) xs bx ⟨al2, ro2, te2, ho2, fr2, ti2⟩ W1 Yq3 from by rw [hYq3]; exact HRYq2.out.below ((Below.refl _ _).alloc (Nat.le_refl _) _))
                have KbYq3 := Lib.hid (show Blk Yq3 nb (rcl ⟨al2, ro2, te2, ho2, fr2, ti2⟩) from by rw [hYq3, hnb]; exact Blk.new _ _ _)
                have Lb := Lib.hid (show V4.heap.size ≤ nb from by rw [hnb]; exact HZYq2.out)
                have HZYq3 := Lib.hid (show V4.heap.size ≤ Yq3.heap.size from by rw [hYq3]; simp; have := HZYq2.out; omega)
                refine wpOp_valueX 62 rfl rfl rfl (.slice (some ⟨nb, 0, none⟩) 1 1) Yq3 (by rw [hYq3, hnb]; go_simp) ⟨HSIX.out _ HRYq3.out.bl, ?_⟩
                go_frame
                clear hYq3 hnb
                have HX := Lib.hid (HSIX.out _ HRYq3.out.bl)
                refine wpAnyH_all (rs := [7]) (by kernel_rfl) (by simp) ?_
                simp only [List.mem_singleton, forall_eq]
                refine wpOp_appR2 rfl rfl (.tmp 60) (.tmp 62) rfl W1.heap.size u4 xs rfl HRYq3.out.own2 nb ⟨al2, ro2, te2, ho2, fr2, ti2⟩ rfl KbYq3.out (by have := HKP.out.1; omega) (Nat.le_trans HRYq3.out.bw HRYq3.out.low.size) ?_
                intro vq2 Yq4 ho hg hv
                have HRYq4 := Lib.hid (HRYq3.out.put2 hg ho hv)
                have HZYq4 := Lib.hid (Nat.le_trans HZYq3.out hg.size)
                clear ho hg hv
                refine ⟨HSIX.out _ HRYq4.out.bl, ?_⟩
                go_frame
                have HX := Lib.hid (HSIX.out _ HRYq4.out.bl)
                refine takeH 8 3 (vq1) rfl rfl (by kernel_rfl) (by kernel_rfl) (by kernel_rfl) (fun _ _ _ h => h) rfl (fun w' _ => by go_simp) HX.out ?_
                go_frame
                refine takeH 9 4 (vq2) rfl rfl (by kernel_rfl) (by kernel_rfl) (by kernel_rfl) (fun _ _ _ h => h) rfl (fun w' _ => by go_simp) HX.out ?_
                go_frame
                refine wpAnyH_done (by kernel_rfl) ?_ _
                refine NoPanic.normal ?_
                go_wp2_with fail
                go_roundw
                case rel => exact ⟨k + 1, _, by omega, by omega, by rw [List.length_append, List.length_singleton, HXK.out], by go_num, by rw [HTB.out], by rw [HBB.out]; rfl, HRYq4.out.twoS HKS.out⟩
                case measure => simp [intOf]; omega
              · skip
                obtain ⟨Yr2, hYr2⟩ : ∃ Y, Y = Yp1.alloc (.cells #[.bool al2, str ro2, str te2, str ho2, .int .i64 fr2, .int .i64 ti2] 33) := ⟨_, rfl⟩
                obtain ⟨nb, hnb⟩ : ∃ n, n = Yp1.heap.size := ⟨_, rfl⟩
                have HRYr2 := Lib.hid (show TwoR W1.heap.size u3 u4 xs xs bx ⟨al2, ro2, te2, ho2, fr2, ti2⟩ W1 Yr2 from by rw [hYr2]; exact HRYp1.out.below ((Below.refl _ _).alloc (Nat.le_refl _) _))
                have KbYr2 := Lib.hid (show Blk Yr2 nb (rcl ⟨al2, ro2, te2, ho2, fr2, ti2⟩) from by rw [hYr2, hnb]; exact Blk.new _ _ _)
                have Lb := Lib.hid (show V4.heap.size ≤ nb from by rw [hnb]; exact HZYp1.out)
                have HZYr2 := Lib.hid (show V4.heap.size ≤ Yr2.heap.size from by rw [hYr2]; simp; have := HZYp1.out; omega)
                have KaYr2 := Lib.hid (show Blk Yr2 na (rcl ⟨al2, ro2, te2, ho2, fr2, ti2⟩) from by rw [hYr2]; exact KaYp1.out.alloc _)
                refine wpOp_valueX 62 rfl rfl rfl (.slice (some ⟨nb, 0, none⟩) 1 1) Yr2 (by rw [hYr2, hnb]; go_simp) ⟨HSIX.out _ HRYr2.out.bl, ?_⟩
                go_frame
                clear hYr2 hnb
                have HX := Lib.hid (HSIX.out _ HRYr2.out.bl)
                refine wpAnyH_all (rs := [3]) (by kernel_rfl) (by simp) ?_
                simp only [List.mem_singleton, forall_eq]
                refine wpOp_appR1 rfl rfl (.tmp 56) (.tmp 58) rfl W1.heap.size u3 xs rfl HRYr2.out.own1 na ⟨al2, ro2, te2, ho2, fr2, ti2⟩ rfl KaYr2.out (by have := HKP.out.1; omega) (Nat.le_trans HRYr2.out.bw HRYr2.out.low.size) ?_
                intro vr1 Yr3 ho hg hv
                have HRYr3 := Lib.hid (HRYr2.out.put1 hg ho hv)
                have HZYr3 := Lib.hid (Nat.le_trans HZYr2.out hg.size)
                have KbYr3 := Lib.hid (KbYr2.out.grown hg (fun e => HN.out.1 nb Lb.out e.symm))
                clear ho hg hv
                refine ⟨HSIX.out _ HRYr3.out.bl, ?_⟩
                go_frame
                have HX := Lib.hid (HSIX.out _ HRYr3.out.bl)
                refine wpAnyH_all (rs := [7]) (by kernel_rfl) (by simp) ?_
                simp only [List.mem_singleton, forall_eq]
                refine wpOp_appR2 rfl rfl (.tmp 60) (.tmp 62) rfl W1.heap.size u4 xs rfl HRYr3.out.own2 nb ⟨al2, ro2, te2, ho2, fr2, ti2⟩ rfl KbYr3.out (by have := HKP.out.1; omega) (Nat.le_trans HRYr3.out.bw HRYr3.out.low.size) ?_
                intro vr2 Yr4 ho hg hv
                have HRYr4 := Lib.hid (HRYr3.out.put2 hg ho hv)
                have HZYr4 := Lib.hid (Nat.le_trans HZYr3.out hg.size)
                clear ho hg hv
                refine ⟨HSIX.out _ HRYr4.out.bl, ?_⟩
                go_frame
                have HX := Lib.hid (HSIX.out _ HRYr4.out.bl)
                refine takeH 8 3 (vr1) rfl rfl (by kernel_rfl) (by kernel_rfl) (by kernel_rfl) (fun _ _ _ h => h) rfl (fun w' _ => by go_simp) HX.out ?_
                go_frame
                refine takeH 9 4 (vr2) rfl rfl (by kernel_rfl) (by kernel_rfl) (by kernel_rfl) (fun _ _ _ h => h) rfl (fun w' _ => by go_simp) HX.out ?_
                go_frame
                refine wpAnyH_done (by kernel_rfl) ?_ _
                refine NoPanic.normal ?_
                go_wp2_with fail
                go_roundw
                case rel => exact ⟨k + 1, _, by omega, by omega, by rw [List.length_append, List.length_singleton, HXK.out], by go_num, by rw [HTB.out], by rw [HBB.out]; rfl, HRYr4.out.twoS HKS.out⟩
                case measure => simp [intOf]; omega
            · skip
              obtain ⟨Ys1, hYs1⟩ : ∃ Y, Y = V4d.alloc (.cells #[.bool al2, str ro2, str te2, str ho2, .int .i64 fr2, .int .i64 ti2] 33) := ⟨_, rfl⟩
              obtain ⟨nb, hnb⟩ : ∃ n, n = V4d.heap.size := ⟨_, rfl⟩
              have HRYs1 := Lib.hid (show TwoR W1.heap.size u3 u4 xs xs bx ⟨al2, ro2, te2, ho2, fr2, ti2⟩ W1 Ys1 from by rw [hYs1]; exact HRV4d.out.below ((Below.refl _ _).alloc (Nat.le_refl _) _))
              have KbYs1 := Lib.hid (show Blk Ys1 nb (rcl ⟨al2, ro2, te2, ho2, fr2, ti2⟩) from by rw [hYs1, hnb]; exact Blk.new _ _ _)
              have Lb := Lib.hid (show V4.heap.size ≤ nb from by rw [hnb]; exact HZV4d.out)
              have HZYs1 := Lib.hid (show V4.heap.size ≤ Ys1.heap.size from by rw [hYs1]; simp; have := HZV4d.out; omega)
              refine wpOp_valueX 62 rfl rfl rfl (.slice (some ⟨nb, 0, none⟩) 1 1) Ys1 (by rw [hYs1, hnb]; go_simp) ⟨HSIX.out _ HRYs1.out.bl, ?_⟩
              go_frame
              clear hYs1 hnb
              have HX := Lib.hid (HSIX.out _ HRYs1.out.bl)
              refine wpAnyH_all (rs := [2]) (by kernel_rfl) (by simp) ?_
              simp only [List.mem_singleton, forall_eq]
              obtain ⟨Ys2, hYs2⟩ : ∃ Y, Y = Ys1.alloc (.cells #[.bool al2, str ro2, str te2, str ho2, .int .i64 fr2, .int .i64 ti2] 41) := ⟨_, rfl⟩
              obtain ⟨na, hna⟩ : ∃ n, n = Ys1.heap.size := ⟨_, rfl⟩
              have HRYs2 := Lib.hid (show TwoR W1.heap.size u3 u4 xs xs bx ⟨al2, ro2, te2, ho2, fr2, ti2⟩ W1 Ys2 from by rw [hYs2]; exact HRYs1.out.below ((Below.refl _ _).alloc (Nat.le_refl _) _))
              have KaYs2 := Lib.hid (show Blk Ys2 na (rcl ⟨al2, ro2, te2, ho2, fr2, ti2⟩) from by rw [hYs2, hna]; exact Blk.new _ _ _)
              have La := Lib.hid (show V4.heap.size ≤ na from by rw [hna]; exact HZYs1.out)
              have HZYs2 := Lib.hid (show V4.heap.size ≤ Ys2.heap.size from by rw [hYs2]; simp; have := HZYs1.out; omega)
              have KbYs2 := Lib.hid (show Blk Ys2 nb (rcl ⟨al2, ro2, te2, ho2, fr2, ti2⟩) from by rw [hYs2]; exact KbYs1.out.alloc _)
              refine wpOp_valueX 58 rfl rfl rfl (.slice (some ⟨na, 0, none⟩) 1 1) Ys2 (by rw [hYs2, hna]; go_simp) ⟨HSIX.out _ HRYs2.out.bl, ?_⟩
              go_frame
              clear hYs2 hna
              have HX := Lib.hid (HSIX.out _ HRYs2.out.bl)
              refine wpAnyH_all (rs := [3]) (by kernel_rfl) (by simp) ?_
              simp only [List.mem_singleton, forall_eq]
              refine wpOp_appR1 rfl rfl (.tmp 56) (.tmp 58) rfl W1.heap.size u3 xs rfl HRYs2.out.own1 na ⟨al2, ro2, te2, ho2, fr2, ti2⟩ rfl KaYs2.out (by have := HKP.out.1; omega) (Nat.le_trans HRYs2.out.bw HRYs2.out.low.size) ?_
              intro vs1 Ys3 ho hg hv
              have HRYs3 := Lib.hid (HRYs2.out.put1 hg ho hv)
              have HZYs3 := Lib.hid (Nat.le_trans HZYs2.out hg.size)
              have KbYs3 := Lib.hid (KbYs2.out.grown hg (fun e => HN.out.1 nb Lb.out e.symm))
              clear ho hg hv
              refine ⟨HSIX.out _ HRYs3.out.bl, ?_⟩
              go_frame
              have HX := Lib.hid (HSIX.out _ HRYs3.out.bl)
              refine wpAnyH_all (rs := [7]) (by kernel_rfl) (by simp) ?_
              simp only [List.mem_singleton, forall_eq]
              refine wpOp_appR2 rfl rfl (.tmp 60) (.tmp 62) rfl W1.heap.size u4 xs rfl HRYs3.out.own2 nb ⟨al2, ro2, te2, ho2, fr2, ti2⟩ rfl KbYs3.out (by have := HKP.out.1; omega) (Nat.le_trans HRYs3.out.bw HRYs3.out.low.size) ?_
              intro vs2 Ys4 ho hg hv
              have HRYs4 := Lib.hid (HRYs3.out.put2 hg ho hv)
              have HZYs4 := Lib.hid (Nat.le_trans HZYs3.out hg.size)
              clear ho hg hv
              refine ⟨HSIX.out _ HRYs4.out.bl, ?_⟩
              go_frame
              have HX := Lib.hid (HSIX.out _ HRYs4.out.bl)
              refine takeH 8 3 (vs1) rfl rfl (by kernel_rfl) (by kernel_rfl) (by kernel_rfl) (fun _ _ _ h => h) rfl (fun w' _ => by go_simp) HX.out ?_
              go_frame
              refine takeH 9 4 (vs2) rfl rfl (by kernel_rfl) (by kernel_rfl) (by kernel_rfl) (fun _ _ _ h => h) rfl (fun w' _ => by go_simp) HX.out ?_
              go_frame
              refine wpAnyH_done (by kernel_rfl) ?_ _
              refine NoPanic.normal ?_
              go_wp2_with fail
              go_roundw
              case rel => exact ⟨k + 1, _, by omega, by omega, by rw [List.length_append, List.length_singleton, HXK.out], by go_num, by rw [HTB.out], by rw [HBB.out]; rfl, HRYs4.out.twoS HKS.out⟩
              case measure => simp [intOf]; omega
        | true =>
          obtain rfl : T2 = 0 := by simpa using HT2.out
          cases b0
          all_goals
            go_wp2_with fail
            have HRV4d := Lib.hid (show TwoR W1.heap.size u3 u4 xs xs bx ⟨al2, ro2, te2, ho2, fr2, ti2⟩ W1 V4.drew from HR4.out.below ((Below.refl _ V4).drew))
            have HZV4d := Lib.hid (show V4.heap.size ≤ V4.drew.heap.size from Nat.le_refl _)
            have HN := Lib.hid (show (∀ n, V4.heap.size ≤ n → u3.ownBlock ≠ some n) ∧ (∀ n, V4.heap.size ≤ n → u4.ownBlock ≠ some n) from ⟨fun n hn e => by have := (HR4.out.own1.lt _ e).2; omega, fun n hn e => by have := (HR4.out.own2.lt _ e).2; omega⟩)
            have HSIX := Lib.hid (fun W (h : Blk W bx (rcl ⟨al2, ro2, te2, ho2, fr2, ti2⟩)) => (show W.cell? ⟨bx, 0, none⟩ = some (.bool al2) ∧ W.cell? ⟨bx, 1, none⟩ = some (str ro2) ∧ W.cell? ⟨bx, 2, none⟩ = some (str te2) ∧ W.cell? ⟨bx, 3, none⟩ = some (str ho2) ∧ W.cell? ⟨bx, 4, none⟩ = some (.int .i64 fr2) ∧ W.cell? ⟨bx, 5, none⟩ = some (.int .i64 ti2) from ⟨h.at (o := 0) rfl, h.at (o := 1) rfl, h.at (o := 2) rfl, h.at (o := 3) rfl, h.at (o := 4) rfl, h.at (o := 5) rfl⟩))
            have HX := Lib.hid (HSIX.out _ HRV4d.out.bl)
            obtain ⟨V4d, hV4d⟩ : ∃ V, V = V4.drew := ⟨_, rfl⟩
            refine wp_region_noPanic ?_
            refine wp_region_held (S := fun W => W.cell? ⟨bx, 0, none⟩ = some (.bool al2) ∧ W.cell? ⟨bx, 1, none⟩ = some (str ro2) ∧ W.cell? ⟨bx, 2, none⟩ = some (str te2) ∧ W.cell? ⟨bx, 3, none⟩ = some (str ho2) ∧ W.cell? ⟨bx, 4, none⟩ = some (.int .i64 fr2) ∧ W.cell? ⟨bx, 5, none⟩ = some (.int .i64 ti2)) (by kernel_rfl) ?_
            change wpAnyH _ _ _ _ _ _ _ _ V4.drew
            rw [← hV4d] at HRV4d HZV4d HX ⊢
            clear hV4d
            refine takeH 0 56 (u3) rfl rfl (by kernel_rfl) (by kernel_rfl) (by kernel_rfl) (fun _ _ _ h => h) rfl (fun w' _ => by go_simp) HX.out ?_
            go_frame
            refine takeH 1 57 (.agg #[.bool al2, str ro2, str te2, str ho2, .int .i64 fr2, .int .i64 ti2]) rfl rfl (by kernel_rfl) (by kernel_rfl) (by kernel_rfl) (fun _ _ _ h => h) rfl (fun w' h => by obtain ⟨h0, h1, h2, h3, h4, h5⟩ := h; go_simp) HX.out ?_
            go_frame
            refine takeH 4 60 (u4) rfl rfl (by kernel_rfl) (by kernel_rfl) (by kernel_rfl) (fun _ _ _ h => h) rfl (fun w' _ => by go_simp) HX.out ?_
            go_frame
            refine takeH 5 61 (.agg #[.bool al2, str ro2, str te2, str ho2, .int .i64 fr2, .int .i64 ti2]) rfl rfl (by kernel_rfl) (by kernel_rfl) (by kernel_rfl) (fun _ _ _ h => h) rfl (fun w' h => by obtain ⟨h0, h1, h2, h3, h4, h5⟩ := h; go_simp) HX.out ?_
            go_frame
            refine wpAnyH_all (rs := [2, 6]) (by kernel_rfl) (by simp) ?_
            intro i hi
            simp only [List.mem_cons, List.mem_nil_iff, or_false] at hi
            rcases hi with rfl | rfl
            · skip
              obtain ⟨Yp1, hYp1⟩ : ∃ Y, Y = V4d.alloc (.cells #[.bool al2, str ro2, str te2, str ho2, .int .i64 fr2, .int .i64 ti2] 41) := ⟨_, rfl⟩
              obtain ⟨na, hna⟩ : ∃ n, n = V4d.heap.size := ⟨_, rfl⟩
              have HRYp1 := Lib.hid (show TwoR W1.heap.size u3 u4 xs xs bx ⟨al2, ro2, te2, ho2, fr2, ti2⟩ W1 Yp1 from by rw [hYp1]; exact HRV4d.out.below ((Below.refl _ _).alloc (Nat.le_refl _) _))
              have KaYp1 := Lib.hid (show Blk Yp1 na (rcl ⟨al2, ro2, te2, ho2, fr2, ti2⟩) from by rw [hYp1, hna]; exact Blk.new _ _ _)
              have La := Lib.hid (show V4.heap.size ≤ na from by rw [hna]; exact HZV4d.out)
              have HZYp1 := Lib.hid (show V4.heap.size ≤ Yp1.heap.size from by rw [hYp1]; simp; have := HZV4d.out; omega)
              refine wpOp_valueX 58 rfl rfl rfl (.slice (some ⟨na, 0, none⟩) 1 1) Yp1 (by rw [hYp1, hna]; go_simp) ⟨HSIX.out _ HRYp1.out.bl, ?_⟩
              go_frame
              clear hYp1 hna
              have HX := Lib.hid (HSIX.out _ HRYp1.out.bl)
              refine wpAnyH_all (rs := [3, 6]) (by kernel_rfl) (by simp) ?_
              intro i hi
              simp only [List.mem_cons, List.mem_nil_iff, or_false] at hi
              rcases hi with rfl | rfl
              · skip
                refine wpOp_appR1 rfl rfl (.tmp 56) (.tmp 58) rfl W1.heap.size u3 xs rfl HRYp1.out.own1 na ⟨al2, ro2, te2, ho2, fr2, ti2⟩ rfl KaYp1.out (by have := HKP.out.1; omega) (Nat.le_trans HRYp1.out.bw HRYp1.out.low.size) ?_
                intro vq1 Yq2 ho hg hv
                have HRYq2 := Lib.hid (HRYp1.out.put1 hg ho hv)
                have HZYq2 := Lib.hid (Nat.le_trans HZYp1.out hg.size)
                clear ho hg hv
                refine ⟨HSIX.out _ HRYq2.out.bl, ?_⟩
                go_frame
                have HX := Lib.hid (HSIX.out _ HRYq2.out.bl)
                refine wpAnyH_all (rs := [6]) (by kernel_rfl) (by simp) ?_
                simp only [List.mem_singleton, forall_eq]
                obtain ⟨Yq3, hYq3⟩ : ∃ Y, Y = Yq2.alloc (.cells #[.bool al2, str ro2, str te2, str ho2, .int .i64 fr2, .int .i64 ti2] 33) := ⟨_, rfl⟩
                obtain ⟨nb, hnb⟩ : ∃ n, n = Yq2.heap.size := ⟨_, rfl⟩
                have HRYq3 := Lib.hid (show TwoR W1.heap.size vq1 u4 (xs ++ [⟨al2, ro2, te2, ho2, fr2, ti2⟩]) xs bx ⟨al2, ro2, te2, ho2, fr2, ti2⟩ W1 Yq3 from by rw [hYq3]; exact HRYq2.out.below ((Below.refl _ _).alloc (Nat.le_refl _) _))
                have KbYq3 := Lib.hid (show Blk Yq3 nb (rcl ⟨al2, ro2, te2, ho2, fr2, ti2⟩) from by rw [hYq3, hnb]; exact Blk.new _ _ _)
                have Lb := Lib.hid (show V4.heap.size ≤ nb from by rw [hnb]; exact HZYq2.out)
                have HZYq3 := Lib.hid (show V4.heap.size ≤ Yq3.heap.size from by rw [hYq3]; simp; have := HZYq2.out; omega)
                refine wpOp_valueX 62 rfl rfl rfl (.slice (some ⟨nb, 0, none⟩) 1 1) Yq3 (by rw [hYq3, hnb]; go_simp) ⟨HSIX.out _ HRYq3.out.bl, ?_⟩
                go_frame
                clear hYq3 hnb
                have HX := Lib.hid (HSIX.out _ HRYq3.out.bl)
                refine wpAnyH_all (rs := [7]) (by kernel_rfl) (by simp) ?_
                simp only [List.mem_singleton, forall_eq]
                refine wpOp_appR2 rfl rfl (.tmp 60) (.tmp 62) rfl W1.heap.size u4 xs rfl HRYq3.out.own2 nb ⟨al2, ro2, te2, ho2, fr2, ti2⟩ rfl KbYq3.out (by have := HKP.out.1; omega) (Nat.le_trans HRYq3.out.bw HRYq3.out.low.size) ?_
                intro vq2 Yq4 ho hg hv
                have HRYq4 := Lib.hid (HRYq3.out.put2 hg ho hv)
                have HZYq4 := Lib.hid (Nat.le_trans HZYq3.out hg.size)
                clear ho hg hv
                refine ⟨HSIX.out _ HRYq4.out.bl, ?_⟩
                go_frame
                have HX := Lib.hid (HSIX.out _ HRYq4.out.bl)
                refine takeH 8 3 (vq1) rfl rfl (by kernel_rfl) (by kernel_rfl) (by kernel_rfl) (fun _ _ _ h => h) rfl (fun w' _ => by go_simp) HX.out ?_
                go_frame
                refine takeH 9 4 (vq2) rfl rfl (by kernel_rfl) (by kernel_rfl) (by kernel_rfl) (fun _ _ _ h => h) rfl (fun w' _ => by go_simp) HX.out ?_
                go_frame
                refine wpAnyH_done (by kernel_rfl) ?_ _
                refine NoPanic.normal ?_
                go_wp2_with fail
                go_roundw
                case rel => exact ⟨k + 1, _, by omega, by omega, by rw [List.length_append, List.length_singleton, HXK.out], by go_num, by rw [HTB.out], by rw [HBB.out]; rfl, HRYq4.out.twoS HKS.out⟩
                case measure => simp [intOf]; omega
              · skip
                obtain ⟨Yr2, hYr2⟩ : ∃ Y, Y = Yp1.alloc (.cells #[.bool al2, str ro2, str te2, str ho2, .int .i64 fr2, .int .i64 ti2] 33) := ⟨_, rfl⟩
                obtain ⟨nb, hnb⟩ : ∃ n, n = Yp1.heap.size := ⟨_, rfl⟩
                have HRYr2 := Lib.hid (show TwoR W1.heap.size u3 u4 xs xs bx ⟨al2, ro2, te2, ho2, fr2, ti2⟩ W1 Yr2 from by rw [hYr2]; exact HRYp1.out.below ((Below.refl _ _).alloc (Nat.le_refl _) _))
                have KbYr2 := Lib.hid (show Blk Yr2 nb (rcl ⟨al2, ro2, te2, ho2, fr2, ti2⟩) from by rw [hYr2, hnb]; exact Blk.new _ _ _)
                have Lb := Lib.hid (show V4.heap.size ≤ nb from by rw [hnb]; exact HZYp1.out)
                have HZYr2 := Lib.hid (show V4.heap.size ≤ Yr2.heap.size from by rw [hYr2]; simp; have := HZYp1.out; omega)
                have KaYr2 := Lib.hid (show Blk Yr2 na (rcl ⟨al2, ro2, te2, ho2, fr2, ti2⟩) from by rw [hYr2]; exact KaYp1.out.alloc _)
                refine wpOp_valueX 62 rfl rfl rfl (.slice (some ⟨nb, 0, none⟩) 1 1) Yr2 (by rw [hYr2, hnb]; go_simp) ⟨HSIX.out _ HRYr2.out.bl, ?_⟩
                go_frame
                clear hYr2 hnb
                have HX := Lib.hid (HSIX.out _ HRYr2.out.bl)
                refine wpAnyH_all (rs := [3]) (by kernel_rfl) (by simp) ?_
                simp only [List.mem_singleton, forall_eq]
                refine wpOp_appR1 rfl rfl (.tmp 56) (.tmp 58) rfl W1.heap.size u3 xs rfl HRYr2.out.own1 na ⟨al2, ro2, te2, ho2, fr2, ti2⟩ rfl KaYr2.out (by have := HKP.out.1; omega) (Nat.le_trans HRYr2.out.bw HRYr2.out.low.size) ?_
                intro vr1 Yr3 ho hg hv
                have HRYr3 := Lib.hid (HRYr2.out.put1 hg ho hv)
                have HZYr3 := Lib.hid (Nat.le_trans HZYr2.out hg.size)
                have KbYr3 := Lib.hid (KbYr2.out.grown hg (fun e => HN.out.1 nb Lb.out e.symm))
                clear ho hg hv
                refine ⟨HSIX.out _ HRYr3.out.bl, ?_⟩
                go_frame
                have HX := Lib.hid (HSIX.out _ HRYr3.out.bl)
                refine wpAnyH_all (rs := [7]) (by kernel_rfl) (by simp) ?_
                simp only [List.mem_singleton, forall_eq]
                refine wpOp_appR2 rfl rfl (.tmp 60) (.tmp 62) rfl W1.heap.size u4 xs rfl HRYr3.out.own2 nb ⟨al2, ro2, te2, ho2, fr2, ti2⟩ rfl KbYr3.out (by have := HKP.out.1; omega) (Nat.le_trans HRYr3.out.bw HRYr3.out.low.size) ?_
                intro vr2 Yr4 ho hg hv
                have HRYr4 := Lib.hid (HRYr3.out.put2 hg ho hv)
                have HZYr4 := Lib.hid (Nat.le_trans HZYr3.out hg.size)
                clear ho hg hv
                refine ⟨HSIX.out _ HRYr4.out.bl, ?_⟩
                go_frame
                have HX := Lib.hid (HSIX.out _ HRYr4.out.bl)
                refine takeH 8 3 (vr1) rfl rfl (by kernel_rfl) (by kernel_rfl) (by kernel_rfl) (fun _ _ _ h => h) rfl (fun w' _ => by go_simp) HX.out ?_
                go_frame
                refine takeH 9 4 (vr2) rfl rfl (by kernel_rfl) (by kernel_rfl) (by kernel_rfl) (fun _ _ _ h => h) rfl (fun w' _ => by go_simp) HX.out ?_
                go_frame
                refine wpAnyH_done (by kernel_rfl) ?_ _
                refine NoPanic.normal ?_
                go_wp2_with fail
                go_roundw
                case rel => exact ⟨k + 1, _, by omega, by omega, by rw [List.length_append, List.length_singleton, HXK.out], by go_num, by rw [HTB.out], by rw [HBB.out]; rfl, HRYr4.out.twoS HKS.out⟩
                case measure => simp [intOf]; omega
            · skip
              obtain ⟨Ys1, hYs1⟩ : ∃ Y, Y = V4d.alloc (.cells #[.bool al2, str ro2, str te2, str ho2, .int .i64 fr2, .int .i64 ti2] 33) := ⟨_, rfl⟩
              obtain ⟨nb, hnb⟩ : ∃ n, n = V4d.heap.size := ⟨_, rfl⟩
              have HRYs1 := Lib.hid (show TwoR W1.heap.size u3 u4 xs xs bx ⟨al2, ro2, te2, ho2, fr2, ti2⟩ W1 Ys1 from by rw [hYs1]; exact HRV4d.out.below ((Below.refl _ _).alloc (Nat.le_refl _) _))
              have KbYs1 := Lib.hid (show Blk Ys1 nb (rcl ⟨al2, ro2, te2, ho2, fr2, ti2⟩) from by rw [hYs1, hnb]; exact Blk.new _ _ _)
              have Lb := Lib.hid (show V4.heap.size ≤ nb from by rw [hnb]; exact HZV4d.out)
              have HZYs1 := Lib.hid (show V4.heap.size ≤ Ys1.heap.size from by rw [hYs1]; simp; have := HZV4d.out; omega)
              refine wpOp_valueX 62 rfl rfl rfl (.slice (some ⟨nb, 0, none⟩) 1 1) Ys1 (by rw [hYs1, hnb]; go_simp) ⟨HSIX.out _ HRYs1.out.bl, ?_⟩
              go_frame
              clear hYs1 hnb
              have HX := Lib.hid (HSIX.out _ HRYs1.out.bl)
              refine wpAnyH_all (rs := [2]) (by kernel_rfl) (by simp) ?_
              simp only [List.mem_singleton, forall_eq]
              obtain ⟨Ys2, hYs2⟩ : ∃ Y, Y = Ys1.alloc (.cells #[.bool al2, str ro2, str te2, str ho2, .int .i64 fr2, .int .i64 ti2] 41) := ⟨_, rfl⟩
              obtain ⟨na, hna⟩ : ∃ n, n = Ys1.heap.size := ⟨_, rfl⟩
              have HRYs2 := Lib.hid (show TwoR W1.heap.size u3 u4 xs xs bx ⟨al2, ro2, te2, ho2, fr2, ti2⟩ W1 Ys2 from by rw [hYs2]; exact HRYs1.out.below ((Below.refl _ _).alloc (Nat.le_refl _) _))
              have KaYs2 := Lib.hid (show Blk Ys2 na (rcl ⟨al2, ro2, te2, ho2, fr2, ti2⟩) from by rw [hYs2, hna]; exact Blk.new _ _ _)
              have La := Lib.hid (show V4.heap.size ≤ na from by rw [hna]; exact HZYs1.out)
              have HZYs2 := Lib.hid (show V4.heap.size ≤ Ys2.heap.size from by rw [hYs2]; simp; have := HZYs1.out; omega)
              have KbYs2 := Lib.hid (show Blk Ys2 nb (rcl ⟨al2, ro2, te2, ho2, fr2, ti2⟩) from by rw [hYs2]; exact KbYs1.out.alloc _)
              refine wpOp_valueX 58 rfl rfl rfl (.slice (some ⟨na, 0, none⟩) 1 1) Ys2 (by rw [hYs2, hna]; go_simp) ⟨HSIX.out _ HRYs2.out.bl, ?_⟩
              go_frame
              clear hYs2 hna
              have HX := Lib.hid (HSIX.out _ HRYs2.out.bl)
              refine wpAnyH_all (rs := [3]) (by kernel_rfl) (by simp) ?_
              simp only [List.mem_singleton, forall_eq]
              refine wpOp_appR1 rfl rfl (.tmp 56) (.tmp 58) rfl W1.heap.size u3 xs rfl HRYs2.out.own1 na ⟨al2, ro2, te2, ho2, fr2, ti2⟩ rfl KaYs2.out (by have := HKP.out.1; omega) (Nat.le_trans HRYs2.out.bw HRYs2.out.low.size) ?_
              intro vs1 Ys3 ho hg hv
              have HRYs3 := Lib.hid (HRYs2.out.put1 hg ho hv)
              have HZYs3 := Lib.hid (Nat.le_trans HZYs2.out hg.size)
              have KbYs3 := Lib.hid (KbYs2.out.grown hg (fun e => HN.out.1 nb Lb.out e.symm))
              clear ho hg hv
              refine ⟨HSIX.out _ HRYs3.out.bl, ?_⟩
              go_frame
              have HX := Lib.hid (HSIX.out _ HRYs3.out.bl)
              refine wpAnyH_all (rs := [7]) (by kernel_rfl) (by simp) ?_
              simp only [List.mem_singleton, forall_eq]
              refine wpOp_appR2 rfl rfl (.tmp 60) (.tmp 62) rfl W1.heap.size u4 xs rfl HRYs3.out.own2 nb ⟨al2, ro2, te2, ho2, fr2, ti2⟩ rfl KbYs3.out (by have := HKP.out.1; omega) (Nat.le_trans HRYs3.out.bw HRYs3.out.low.size) ?_
              intro vs2 Ys4 ho hg hv
              have HRYs4 := Lib.hid (HRYs3.out.put2 hg ho hv)
              have HZYs4 := Lib.hid (Nat.le_trans HZYs3.out hg.size)
              clear ho hg hv
              refine ⟨HSIX.out _ HRYs4.out.bl, ?_⟩
              go_frame
              have HX := Lib.hid (HSIX.out _ HRYs4.out.bl)
              refine takeH 8 3 (vs1) rfl rfl (by kernel_rfl) (by kernel_rfl) (by kernel_rfl) (fun _ _ _ h => h) rfl (fun w' _ => by go_simp) HX.out ?_
              go_frame
              refine takeH 9 4 (vs2) rfl rfl (by kernel_rfl) (by kernel_rfl) (by kernel_rfl) (fun _ _ _ h => h) rfl (fun w' _ => by go_simp) HX.out ?_
              go_frame
              refine wpAnyH_done (by kernel_rfl) ?_ _
              refine NoPanic.normal ?_
              go_wp2_with fail
              go_roundw
              case rel => exact ⟨k + 1, _, by omega, by omega, by rw [List.length_append, List.length_singleton, HXK.out], by go_num, by rw [HTB.out], by rw [HBB.out]; rfl, HRYs4.out.twoS HKS.out⟩
              case measure => simp [intOf]; omega
    · obtain rfl : k = l.length := by omega
      obtain ⟨Wp, rfl⟩ : ∃ W, W = wr := ⟨_, rfl⟩
      have hTX := hT
      obtain ⟨bd, hbd⟩ : ∃ b, b = badB xs := ⟨_, rfl⟩
      rw [← hbd]
      obtain ⟨tx, htx⟩ : ∃ t, t = textB xs := ⟨_, rfl⟩
      rw [← htx]
      have hbdx : bd = !xs.all validB := hbd
      have HTXB := Lib.hid htx
      have hkp := hTX.kept
      have hsm : ∀ r ∈ xs, SmallR r := fun r h => ⟨by have := (hkp.2 r h).1; omega, by have := (hkp.2 r h).2.1; omega, by have := (hkp.2 r h).2.2; omega⟩
      have HNEW := Lib.hid (fun W (h : Env W) v (hr : RlIn W W.heap.size v xs) => new_fresh W.heap.size v xs W h hr (Nat.le_refl _) hsm (by omega))
      have HTX := Lib.hid hTX
      have HEX := Lib.hid (HE.out.below (HB1.out.trans (hTX.low.mono HB1.out.size)))
      obtain ⟨A3, c3, rfl, hc31, hc32⟩ := hTX.own1.form
      obtain ⟨A4, c4, rfl, hc41, hc42⟩ := hTX.own2.form
      clear hTX hkp hsm hbd htx
      go_wp2_with fail
      refine (HNEW.out _ HEX.out _ HTX.out.own1.rlIn).mono ?_
      rintro e W5 ⟨pv, x, rfl, hcase, hB5⟩
      have HT5 := Lib.hid (HTX.out.below hB5)
      have HE5 := Lib.hid (HEX.out.below hB5)
      have HL5 := Lib.hid (HB1.out.trans (HT5.out.low.mono HB1.out.size))
      have HB5 := Lib.hid hB5
      clear hB5
      rcases hcase with ⟨h, rfl, rfl⟩ | ⟨h, h32, rfl, rfl⟩ | ⟨h, h32, rfl, p, vr, rfl, hp1, hp2, hpc, hpo, hpn⟩
      · obtain rfl : bd = true := by rw [hbdx, h]; rfl
        clear hbdx h
        go_wp2_with fail
        go_ret
        exact ⟨rfl, HL5.out⟩
      · obtain rfl : bd = false := by rw [hbdx, h]; rfl
        have h33 : (32 : Int) < (xs.length : Int) := by omega
        clear hbdx h
        go_wp2_with fail
        go_ret
        exact ⟨rfl, HL5.out⟩
      · obtain rfl : bd = false := by rw [hbdx, h]; rfl
        have h33 : ¬ (32 : Int) < (xs.length : Int) := by omega
        have HVAL := Lib.hid (List.all_eq_true.1 h)
        have hrow : 0 < xs.length → ∃ g, A3 = some ⟨g, 0, none⟩ ∧ g < Wp.heap.size ∧ ∃ cs, Blk W5 g cs ∧ xs.length * 6 ≤ cs.length := by
          intro h0
          have hlt := HTX.out.own1.lt
          rcases HT5.out.own1.2 with ⟨e, e0⟩ | ⟨g, cap, cur, e, _, hg, hcap, _, hsz, _⟩
          · omega
          · injection e with e1 _ e3
            subst e1 e3
            exact ⟨g, rfl, (hlt g rfl).2, cur.toList, ⟨_, hg⟩, by simp only [Array.length_toList]; rw [hsz]; exact Nat.mul_le_mul_right 6 hcap⟩
        have HPC := Lib.hid hpc
        have HPO := Lib.hid hpo
        have HRW := Lib.hid hrow
        have HP12 := Lib.hid (⟨hp1, hp2, hpn⟩ : _ ∧ _ ∧ _)
        clear hbdx h hpc hpo hp1 hp2 hpn hrow
        go_wp2_with fail
        go_loopw [90] (fun i wr => ∃ k : Nat, k ≤ xs.length ∧ i = .int .i64 (k : Int) ∧ W5.grownBy wr (Value.slice A3 xs.length c3).ownBlock ∧ (0 < xs.length → ∃ g, A3 = some ⟨g, 0, none⟩ ∧ ∃ cs, Blk wr g cs ∧ xs.length * 6 ≤ cs.length)) (fun i _ => xs.length - (intOf i).toNat)
        case atStart => exact ⟨0, by omega, rfl, World.grownBy.refl _ _, fun h0 => by obtain ⟨g, e, _, h⟩ := HRW.out h0; exact ⟨g, e, h⟩⟩
        case round =>
          obtain ⟨k2, hk2, rfl, hgr, hbl⟩ := hrel
          by_cases hlt2 : k2 < xs.length
          · obtain ⟨g, rfl, cs, hbk, hcl⟩ := hbl (by omega)
            have c0 := hbk.at (o := k2 * 6) (List.getElem?_eq_getElem (by omega))
            have c1 := hbk.at (o := k2 * 6 + 1) (List.getElem?_eq_getElem (by omega))
            have c2 := hbk.at (o := k2 * 6 + 2) (List.getElem?_eq_getElem (by omega))
            have c3 := hbk.at (o := k2 * 6 + 3) (List.getElem?_eq_getElem (by omega))
            have c4 := hbk.at (o := k2 * 6 + 4) (List.getElem?_eq_getElem (by omega))
            have c5 := hbk.at (o := k2 * 6 + 5) (List.getElem?_eq_getElem (by omega))
            have f0 := hbk.free (k2 * 6)
            have f1 := hbk.free (k2 * 6 + 1)
            have f2 := hbk.free (k2 * 6 + 2)
            have f3 := hbk.free (k2 * 6 + 3)
            have f4 := hbk.free (k2 * 6 + 4)
            have f5 := hbk.free (k2 * 6 + 5)
            have HBK := Lib.hid hbk
            have HGR := Lib.hid hgr
            clear hbl hgr hbk
            go_wp2_with fail
            go_roundw
            case rel =>
              have s0 := ((((((HBK.out.set (k2 * 6) (.bool false)).set (k2 * 6 + 1) (str [])).set (k2 * 6 + 2) (str [])).set (k2 * 6 + 3) (str [])).set (k2 * 6 + 4) (.int .i64 0)).set (k2 * 6 + 5) (.int .i64 0))
              refine ⟨k2 + 1, by omega, by go_num, ?_, fun _ => ⟨g, rfl, _, s0, by simp only [List.length_set]; omega⟩⟩
              exact (((((HGR.out.trans (grown_set _ ⟨g, k2 * 6, none⟩ _)).trans (grown_set _ ⟨g, k2 * 6 + 1, none⟩ _)).trans (grown_set _ ⟨g, k2 * 6 + 2, none⟩ _)).trans (grown_set _ ⟨g, k2 * 6 + 3, none⟩ _)).trans (grown_set _ ⟨g, k2 * 6 + 4, none⟩ _)).trans (grown_set _ ⟨g, k2 * 6 + 5, none⟩ _)
            case measure => simp [intOf]; omega
          · obtain rfl : k2 = xs.length := by omega
            have hne : ∀ j, Wp.heap.size ≤ j → some j ≠ (Value.slice A3 xs.length c3).ownBlock := fun j hj e => by
              have := (HTX.out.own1.lt j e.symm).2
              omega
            have hz := HB5.out.size
            obtain ⟨hp1, hp2, hpn⟩ := HP12.out
            have hpc := hgr.cell HPC.out (hne p hp1)
            have hpo := World.ownsRow.kept HPO.out hgr (by
              cases hv : vr.ownBlock with
              | none => exact .inl rfl
              | some j => exact .inr (hne j ((HPO.out.lt j hv).1)))
            have hwt := World.ownsRow.kept HT5.out.own2 hgr (by
              rcases HT5.out.ne with e | e
              · cases hv : (Value.slice A4 xs.length c4).ownBlock with
                | none => exact .inl rfl
                | some j => exact .inr (by rw [e]; simp)
              · exact .inr (Ne.symm e))
            have hlow := HT5.out.low.grown hgr HT5.out.low.size (fun j e => (HT5.out.own1.lt j e).1)
            have HPL := Lib.hid (show PolO wr wr.heap.size (.pointer (some ⟨p, 0, none⟩)) xs from .inr ⟨p, vr, rfl, by have := hgr.size; omega, hpc, OwnR.rlIn hpo⟩)
            have HWT := Lib.hid (OwnR.rlIn (show OwnR tRf wr W1.heap.size _ xs from hwt))
            have HLW := Lib.hid (HB1.out.trans (hlow.mono HB1.out.size))
            have HEQ := Lib.hid (HE.out.below HLW.out)
            clear hne hpc hpo hwt hlow hgr hbl hp1 hp2 hpn
            go_wp2_with fail
            refine (rules_w wr.heap.size (.pointer (some ⟨p, 0, none⟩)) xs 1000 wr HPL.out (Nat.le_refl _) (by omega) (by omega) (by omega)).mono ?_
            rintro e X1 ⟨u1, rfl, hO, hB⟩
            rw [List.take_of_length_le (by omega)] at hO
            have HO := Lib.hid hO
            have HP1 := Lib.hid ((HPL.out.below hB (Nat.le_refl _)).more hB.size)
            have HW1 := Lib.hid ((HWT.out.below hB (Nat.le_refl _)).more hB.size)
            have HE1 := Lib.hid (HEQ.out.below hB)
            have HL1 := Lib.hid (HLW.out.trans (hB.mono HLW.out.size))
            clear hO hB
            go_wp2_with fail
            refine (equalRf_same X1.heap.size u1 (.slice A4 xs.length c4) xs X1 HO.out.rlIn HW1.out (Nat.le_refl _) (by omega)).mono ?_
            rintro e X2 ⟨rfl, hB⟩
            have HP2 := Lib.hid ((HP1.out.below hB (Nat.le_refl _)).more hB.size)
            have HE2 := Lib.hid (HE1.out.below hB)
            have HL2 := Lib.hid (HL1.out.trans (hB.mono HL1.out.size))
            clear hB
            go_wp2_with fail
            refine (polText_any X2.heap.size (.pointer (some ⟨p, 0, none⟩)) xs X2 HE2.out HP2.out (Nat.le_refl _) HVAL.out (by omega)).mono ?_
            rintro e X3 ⟨rfl, hB⟩
            have HL3 := Lib.hid (HL2.out.trans (hB.mono HL2.out.size))
            clear hB
            rw [← textB_valid xs HVAL.out, ← HTXB.out]
            go_wp2_with fail
            go_ret
            exact ⟨by first | rfl | simp, HL3.out⟩
end Go.Proofs.YthpkmdojeegleaaGreatDoor
