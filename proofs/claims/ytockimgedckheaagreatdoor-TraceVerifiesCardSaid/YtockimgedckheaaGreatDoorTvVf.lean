/- trace: Verify. -/
import Derived.Test.YtockimgedckheaaGreatDoorTvW
set_option maxRecDepth 100000
namespace Go.Proofs.YtockimgedckheaaGreatDoor
open Go Go.RowKit Go.Shelf
attribute [local go_sem] Oper.semAt_some
theorem bytesEq_any (B1 B2 : Nat) (v u : Value) (a b : List UInt8) (w : World) (hv : Sl w B1 v a) (hu : Sl w B2 u b) :
    Calls Tryz.prog 59 #[v, u] w fun e w' => e = .returned (.bool (decide (a = b))) ∧ w' = w := by
  have kv := conv_sl hv
  have ku := conv_sl hu
  obtain ⟨A1, c1, rfl, -⟩ := hv
  obtain ⟨A2, c2, rfl, -⟩ := hu
  have hd : decide (a = b) = (a == b) := by
    by_cases h : a = b
    · subst h; simp
    · rw [decide_eq_false h, beq_eq_false_iff_ne.2 h]
  rw [hd]
  cases hq : (a == b) with
  | true =>
    have p1 : (a == b) = true := hq
    clear hd
    go_enter Tryz.func59, Tryz.ntmps59
    go_wp2_with fail
    go_ret
    exact ⟨rfl, rfl⟩
  | false =>
    have p1 : (a == b) = false := hq
    clear hd
    go_enter Tryz.func59, Tryz.ntmps59
    go_wp2_with fail
    go_ret
    exact ⟨rfl, rfl⟩
set_option maxHeartbeats 4000000 in
theorem verify_any (B Bc Bl : Nat) (v vc : Value) (f c : List UInt8) (vl : Value) (l : List EvL) (w : World) (hv : Sl w B v f) (hB : B ≤ w.heap.size) (hf : f.length = 32) (hc : Sl w Bc vc c) (hBc : Bc ≤ w.heap.size) (hl : EvIn w Bl vl l) (hBl : Bl ≤ w.heap.size) (hll : l.length ≤ 1000) (hk : ∀ e ∈ l, e.kind.length ≤ 600) (hT : TabA w) (hE : PowE w) :
    Calls Tryz.prog 27 #[v, vc, vl] w fun e w' => e = .returned (.bool (l.all okB && decide (chainR f l = c))) ∧ Below w.heap.size w w' := by
  have HV := Lib.hid hv
  have HC := Lib.hid hc
  have HT := Lib.hid hT
  have HE := Lib.hid hE
  have HKL := Lib.hid hk
  have HLI := Lib.hid hl
  have HF := Lib.hid hf
  have HTL := Lib.hid (tab_lt hT)
  obtain ⟨AL, cL, rfl, k1, ⟨k2, _⟩, -⟩ := hl
  obtain ⟨AV, cV, rfl, -, kv1, kv2, -⟩ := hv
  have hf1 : ¬ ((f.length : Int) = 32) → False := fun h => h (by omega)
  have hf2 : ((f.length : Int) != 32) = false := by rw [hf]; rfl
  clear hc hT hE hk hf
  go_enter Tryz.func27, Tryz.ntmps27
  go_wp2_with fail
  go_loopw [7, 18] (fun v i wr => ∃ k : Nat, k ≤ l.length ∧ i = .int .i64 (k : Int) ∧ Sl wr wr.heap.size v (chainR f (l.take k)) ∧ (l.take k).all okB = true ∧ Below w.heap.size w wr) (fun _ i _ => l.length - (intOf i).toNat)
  case atStart => exact ⟨0, by omega, rfl, by rw [List.take_zero]; exact HV.out.more hB, by rw [List.take_zero]; rfl, Below.refl _ _⟩
  case round =>
    obtain ⟨k, hkl, rfl, hs, ha, hb⟩ := hrel
    have HS := Lib.hid hs
    have HB := Lib.hid hb
    have HA := Lib.hid ha
    clear hs hb ha
    by_cases hlt : k < l.length
    · obtain ⟨g0, o0, hAs, hgl, c0, c1, c2, c3, c4⟩ := (HLI.out.below HB.out hBl).five k hlt
      subst hAs
      obtain ⟨y, hy⟩ : ∃ y, y = l[k] := ⟨_, rfl⟩
      rw [← hy] at c0 c1 c2 c3 c4
      have hyk : y.kind.length ≤ 600 := by rw [hy]; exact HKL.out _ (List.getElem_mem hlt)
      have htk : chainR f (l.take (k + 1)) = sumL (chainR f (l.take k) ++ lineR y) := by
        rw [List.take_succ_eq_append_getElem hlt, chainR_snoc, ← hy]
      have hta : (l.take (k + 1)).all okB = ((l.take k).all okB && okB y) := by
        rw [List.take_succ_eq_append_getElem hlt, List.all_append, ← hy]; simp
      have hfl : (chainR f (l.take k)).length ≤ 100 := by
        cases k with
        | zero => rw [List.take_zero]; show f.length ≤ 100; have := HF.out; omega
        | succ j =>
          rw [List.take_succ_eq_append_getElem (show j < l.length by omega), chainR_snoc, sumL_length]; omega
      obtain ⟨F, hF⟩ : ∃ F, F = chainR f (l.take k) := ⟨_, rfl⟩
      rw [← hF] at htk hfl HS
      have HTK := Lib.hid htk
      have HTA := Lib.hid hta
      obtain ⟨A2, hA2⟩ : ∃ A2, A2 = wr.alloc (.cells #[.int .u64 y.n, .int .u64 y.tick, str y.kind, .int .i64 y.conn, str y.text] tEv) := ⟨_, rfl⟩
      have HBA := Lib.hid (show Below wr.heap.size wr A2 from by rw [hA2]; exact (Below.refl _ wr).alloc (Nat.le_refl _) _)
      have HB2 := Lib.hid (HB.out.trans (HBA.out.mono HB.out.size))
      cases ho : okB y with
      | true =>
        have HLN := Lib.hid (chain_ok u7 F y ((okB_iff y).1 ho) A2 ((HS.out.below HBA.out (Nat.le_refl _)).more HBA.out.size) (by omega) (HT.out.below HB2.out HTL.out) (HE.out.below HB2.out))
        have HLR := Lib.hid (show lineR y = evLine y from by unfold lineR; rw [ho]; rfl)
        have HTA2 := Lib.hid (show (l.take (k + 1)).all okB = true from by rw [HTA.out, HA.out, ho]; rfl)
        clear htk hta hF hy hyk ho
        unfold evA at HLN
        generalize evLine y = X at HLN HLR
        go_wp2_with fail
        rw [← hA2]
        refine HLN.out.mono ?_
        rintro r w3 ⟨v3, rfl, hO3, hb3⟩
        have HB3 := Lib.hid (HB2.out.trans (hb3.mono HB2.out.size))
        have HO3 := Lib.hid hO3
        clear hb3 hO3 hA2 c0 c1 c2 c3 c4 HLN
        go_wp2_with fail
        go_roundw
        case rel => exact ⟨k + 1, by omega, by go_num, by rw [HTK.out, HLR.out]; exact HO3.out.sl, HTA2.out, HB3.out⟩
        case measure => simp [intOf]; omega
      | false =>
        have HLN := Lib.hid (chain_bad u7 y hyk (okB_false y ho) A2)
        have HAL := Lib.hid (show l.all okB = false from by
          have hm : y ∈ l := by rw [hy]; exact List.getElem_mem hlt
          exact Bool.eq_false_iff.2 (fun h => by rw [List.all_eq_true.1 h y hm] at ho; cases ho))
        clear htk hta hF hy hyk ho
        unfold evA at HLN
        go_wp2_with fail
        rw [← hA2]
        refine HLN.out.mono ?_
        rintro r w3 ⟨rfl, hb3⟩
        have HB3 := Lib.hid (HB2.out.trans (hb3.mono HB2.out.size))
        clear hb3 hA2 c0 c1 c2 c3 c4 HLN
        go_wp2_with fail
        go_ret
        exact ⟨by rw [HAL.out]; rfl, HB3.out⟩
    · have hkx : k = l.length := by omega
      rw [hkx, List.take_length] at HS HA
      go_wp2_with fail
      refine (bytesEq_any wr.heap.size Bc u7 vc (chainR f l) c wr HS.out (HC.out.below HB.out hBc)).mono ?_
      rintro r w4 ⟨rfl, rfl⟩
      go_wp2_with fail
      go_ret
      exact ⟨by rw [HA.out]; rfl, HB.out⟩
end Go.Proofs.YtockimgedckheaaGreatDoor
