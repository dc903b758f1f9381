/- The reference of table: without, Put, Set, Drop, Renew. -/
import Derived.Test.YtipgjpmaflcpkaaTeRef
set_option maxRecDepth 100000
namespace Go.Proofs.Ytipgjpmaflcpkaa
open Go.RowKit
section
variable {w w1 w' : World} {base X : Nat} {room : Int} {l : PL}
set_option maxHeartbeats 1000000 in
theorem without_any {B : Nat} {v : Value} (h : ES w B v l) (hB : B ≤ w.heap.size) (i : Nat) (hi : i < l.length) (hl : l.length ≤ 4096) :
    Calls Try.prog 35 #[v, .int .i64 (i : Int)] w fun e w' => ∃ v', e = .returned v' ∧ ER w' w.heap.size v' (l.take i ++ l.drop (i + 1)) ∧ Below w.heap.size w w' := by
  obtain ⟨A, c, hv, hr1, hs1⟩ := h.take i (by omega)
  obtain ⟨V, hr2, hs2⟩ := h.drop (i + 1) ((i : Int) + 1) (by omega) (by omega)
  have H1 := Lib.hid hs1
  have H2 := Lib.hid hs2
  have H := Lib.hid h
  clear hs1 hs2 h hv
  have htl : (l.take i).length ≤ 4096 := by rw [List.length_take]; omega
  have hdl : (l.drop (i + 1)).length ≤ 4096 := by rw [List.length_drop]; omega
  have hwr : IntKind.i64.wrap ((i : Int) + 1) = (i : Int) + 1 := IntWalk.i64_in _ ⟨by omega, by omega⟩
  go_enter Try.func35, Try.ntmps35
  go_wp2_with fail
  go_region_held3 (fun _ => True) (exact trivial)
    (first
      | ((refine step_app_es rfl (.tmp 5) (.tmp 8) rfl w.heap.size (.slice (some ⟨w.heap.size, 0, none⟩) 0 0) [] (l.take i) (by go_simp) (by exact ER.empty w.drew) B (.slice A i c) (by go_simp) (by exact H1.out _ (H.out.below ((Below.refl _ w).drew.alloc (Nat.le_refl _) _) hB)) (by simp; omega) (by simp) ?_; intro v1 w1 hv1 hg1; have HB1 := Lib.hid (((Below.refl w.heap.size w).drew.alloc (Nat.le_refl _) (.cells #[] tR)).trans ((ER.empty w.drew).belowBase hg1 (by simp))); have Hv1 := Lib.hid hv1; clear hv1 hg1))
      | ((refine step_app_es rfl (.tmp 9) (.tmp 13) rfl w.heap.size v1 ([] ++ l.take i) (l.drop (i + 1)) (by go_simp) (by exact Hv1.out) B V (by go_simp) (by exact H2.out _ (H.out.below HB1.out hB)) (by simp; omega) HB1.out.size ?_; intro v2 w2 hv2 hg2; have HB2 := Lib.hid (HB1.out.trans (Hv1.out.belowBase hg2 HB1.out.size)); have Hv2 := Lib.hid hv2; clear hv2 hg2)))
  all_goals
    go_wp2_with fail
    go_ret
    exact ⟨v2, rfl, Hv2.out, HB2.out⟩
theorem put_nilX (k v : Value) (w : World) : Calls Try.prog 22 #[.pointer none, k, v] w fun e w' => e = .returned (.int .i64 6) ∧ Below w.heap.size w w' := by
  go_enter Try.func22, Try.ntmps22
  go_wp2_with fail
  go_ret
  exact ⟨rfl, Below.refl _ _⟩
set_option maxHeartbeats 1000000 in
theorem put_X (h : XR w base X room l) (k : List UInt8) (v : Int) (hl : l.length ≤ 4096) (hbase : base ≤ w.heap.size) :
    Calls Try.prog 22 #[tP X, strT k, .int .i64 v] w fun e w' => e = .returned (.int .i64 (if fiL l k < l.length then 7 else if room ≤ (l.length : Int) then 8 else 0)) ∧
      XR w' base X room (if fiL l k < l.length then l else if room ≤ (l.length : Int) then l else l ++ [(k, v)]) ∧ Trn [X] w w' := by
  have HF := Lib.hid (find_X h k hl)
  have HX := Lib.hid h
  by_cases hf : fiL l k < l.length
  · rw [if_pos hf, if_pos hf]
    rw [if_pos hf] at HF
    clear h
    go_enter Try.func22, Try.ntmps22
    go_wp2_with fail
    refine HF.out.mono ?_
    rintro e w1 ⟨rfl, hb⟩
    have HB := Lib.hid hb; clear hb HF
    go_wp2_with fail
    go_ret
    exact ⟨rfl, HX.out.below HB.out, Trn.of_below HB.out⟩
  · rw [if_neg hf, if_neg hf]
    rw [if_neg hf] at HF
    clear h
    by_cases hr : room ≤ (l.length : Int)
    · rw [if_pos hr, if_pos hr]
      go_enter Try.func22, Try.ntmps22
      go_wp2_with fail
      refine HF.out.mono ?_
      rintro e w1 ⟨rfl, hb⟩
      have hx := HX.out.below hb
      have HX1 := Lib.hid hx
      obtain ⟨vv0, hX, hE⟩ := hx
      obtain ⟨A, c, rfl, h1, h2, _, _⟩ := hE.parts
      have c1 : w1.cell? ⟨X, 1, none⟩ = some (.slice A l.length c) := hX.at rfl
      have c0 : w1.cell? ⟨X, 0, none⟩ = some (.int .i64 room) := hX.at rfl
      have HB := Lib.hid hb; clear hb HF hX hE
      go_wp2_with fail
      go_quiet (fail)
      go_wp2_with fail
      go_ret
      exact ⟨rfl, HX1.out.below (below_drewN (Below.refl _ _) _), Trn.of_below (HB.out.trans (below_drewN ((Below.refl _ _).mono HB.out.size) _))⟩
    · rw [if_neg hr, if_neg hr]
      go_enter Try.func22, Try.ntmps22
      go_wp2_with fail
      refine HF.out.mono ?_
      rintro e w1 ⟨rfl, hb⟩
      have hx := HX.out.below hb
      obtain ⟨vv0, hX, hE⟩ := hx
      have hes := hE.es
      obtain ⟨A, c, rfl, h1, h2, _, _⟩ := hE.parts
      have c1 : w1.cell? ⟨X, 1, none⟩ = some (.slice A l.length c) := hX.at rfl
      have c0 : w1.cell? ⟨X, 0, none⟩ = some (.int .i64 room) := hX.at rfl
      have HB := Lib.hid hb
      have HX1 := Lib.hid hX
      have HE := Lib.hid hes
      clear hb HF hX hE hes
      go_wp2_with fail
      go_quiet (fail)
      have hBA : Below w1.heap.size w1 ((w1.drewN nq).alloc (.cells #[] tR)) := (below_drewN (Below.refl _ _) nq).alloc (Nat.le_refl _) _
      have c3 : ((w1.drewN nq).alloc (.cells #[] tR)).cell? ⟨X, 1, none⟩ = some (.slice A l.length c) := (HX1.out.below hBA HX1.out.lt).at rfl
      have HBA := Lib.hid hBA
      have HEA := Lib.hid (HE.out.below hBA (Nat.le_refl _))
      clear hBA
      go_wp2_with (at_builtin; go_loud (first
        | ((with_reducible refine wpList_app_es ?g1 (.tmp 24) (.tmp 28) ?g2 w1.heap.size (.slice (some ⟨w1.heap.size, 0, none⟩) 0 0) [] l ?g3 ?g4 w1.heap.size (.slice A l.length c) ?g5 ?g6 ?g7 ?g8 ?_); (case g1 => rfl); (case g2 => rfl); (case g3 => rfl); (case g4 => exact ER.empty (w1.drewN nq)); (case g5 => rfl); (case g6 => exact HEA.out); (case g7 => simp; omega); (case g8 => simp); intro v1 w2 hv hg; have HB2 := Lib.hid (HBA.out.trans ((ER.empty (w1.drewN nq)).belowBase hg (by simp))); have HV1 := Lib.hid hv; clear hv hg)
        | ((with_reducible refine wpList_app_es ?g1 (.tmp 29) (.tmp 33) ?g2 w1.heap.size v1 ([] ++ l) [(k, v)] ?g3 ?g4 (w2.heap.size + 1) (.slice (some ⟨w2.heap.size, 0, none⟩) 1 1) ?g5 ?g6 ?g7 ?g8 ?_); (case g1 => rfl); (case g2 => rfl); (case g3 => rfl); (case g4 => exact ER.below HV1.out ((Below.refl _ _).alloc (Nat.le_refl _) _)); (case g5 => rfl); (case g6 => exact ES.one w2 k v); (case g7 => simp; omega); (case g8 => have := HB2.out.size; simp; omega); intro v2 w3 hv hg; have HB3 := Lib.hid ((HB2.out.alloc HB2.out.size _).trans (ER.belowBase (ER.below HV1.out ((Below.refl _ _).alloc (Nat.le_refl _) _)) hg (by have := HB2.out.size; simp; omega))); have hps := hv.parts; have HV2 := Lib.hid hv; clear hv hg; obtain ⟨A2, cp2, rfl, _⟩ := hps; have c4 := (HX1.out.below HB3.out HX1.out.lt).at (o := 1) rfl; have f4 := (HX1.out.below HB3.out HX1.out.lt).free 1)))
      go_ret
      have hst := XR.store HX1.out HB3.out HV2.out (Nat.le_trans hbase HB.out.size)
      rw [show (([] ++ l ++ [(k, v)] : PL)).length = l.length + 1 by simp, List.nil_append] at hst
      exact ⟨rfl, hst.1, (Trn.of_below HB.out).trans hst.2⟩
set_option maxHeartbeats 1000000 in
theorem set_X (h : XR w base X room l) (k : List UInt8) (v : Int) (hl : l.length ≤ 4096) (hbase : base ≤ w.heap.size) :
    Calls Try.prog 15 #[tP X, strT k, .int .i64 v] w fun e w' => e = .returned (.int .i64 (if fiL l k < l.length then 0 else 6)) ∧
      XR w' base X room (if fiL l k < l.length then l.set (fiL l k) (k, v) else l) ∧ Trn [X] w w' := by
  have HF := Lib.hid (find_X h k hl)
  have HX := Lib.hid h
  by_cases hf : fiL l k < l.length
  · rw [if_pos hf, if_pos hf]
    rw [if_pos hf] at HF
    obtain ⟨i, hi, hil, hk⟩ : ∃ i, fiL l k = i ∧ ∃ h : i < l.length, l[i].1 = k := ⟨_, rfl, hf, fiL_at l k hf⟩
    rw [hi] at HF ⊢
    clear h hf hi
    have hi1 : (i : Int) < (l.length : Int) := by omega
    go_enter Try.func15, Try.ntmps15
    go_wp2_with fail
    refine HF.out.mono ?_
    rintro e w1 ⟨rfl, hb⟩
    have hx := HX.out.below hb
    obtain ⟨vv0, hX, hE⟩ := hx
    have hes := hE.es
    obtain ⟨A, c, rfl, h1, h2, _, _⟩ := hE.parts
    have HB := Lib.hid hb
    have HX1 := Lib.hid hX
    have HE := Lib.hid hes
    clear hb HF hX hE hes
    have hBA : Below w1.heap.size w1 (w1.alloc (.cells #[] tR)) := (Below.refl _ _).alloc (Nat.le_refl _) _
    have c3 : (w1.alloc (.cells #[] tR)).cell? ⟨X, 1, none⟩ = some (.slice A l.length c) := (HX1.out.below hBA HX1.out.lt).at rfl
    have HBA := Lib.hid hBA
    have HEA := Lib.hid (HE.out.below hBA (Nat.le_refl _))
    clear hBA
    go_wp2_with (at_builtin; go_loud (
      ((with_reducible refine wpList_app_es ?g1 (.tmp 14) (.tmp 18) ?g2 w1.heap.size (.slice (some ⟨w1.heap.size, 0, none⟩) 0 0) [] l ?g3 ?g4 w1.heap.size (.slice A l.length c) ?g5 ?g6 ?g7 ?g8 ?_); (case g1 => rfl); (case g2 => rfl); (case g3 => rfl); (case g4 => exact ER.empty w1); (case g5 => rfl); (case g6 => exact HEA.out); (case g7 => simp; omega); (case g8 => simp); intro v1 w2 hv hg; have HB2 := Lib.hid (HBA.out.trans ((ER.empty w1).belowBase hg (by simp))); rw [List.nil_append] at hv; have hps := hv.parts; have HV1 := Lib.hid hv; clear hv hg; obtain ⟨A2, cp2, rfl, _, _, _, _, hfm⟩ := hps; obtain ⟨g2, rfl⟩ := hfm (by omega); clear hfm; have hst := XR.store2 HX1.out HB2.out HV1.out; have HST := Lib.hid hst; have c4 := (HX1.out.below HB2.out HX1.out.lt).at (o := 1) rfl; have f4 := (HX1.out.below HB2.out HX1.out.lt).free 1; have c5 := hst.1.at (o := 1) rfl; have c6 := ((ER.es hst.2.1).cell i hil).2.1; rw [Nat.zero_add] at c6; have f6 := ER.free hst.2.1 (i * 2 + 1); clear hst)))
    go_ret
    obtain ⟨q1, q2, q3⟩ := HST.out
    obtain ⟨_, _, e, _, _, _, hgb, _⟩ := q2.parts
    have hg2 := (hgb g2 rfl).1
    have hXlt := HX1.out.lt
    refine ⟨rfl, ⟨_, q1.setOther (a := ⟨g2, i * 2 + 1, none⟩) (show g2 ≠ X by omega) (.int .i64 v), ?_⟩, (Trn.of_below HB.out).trans (((q3.mono (S' := [X, g2]) (by simp)).set (p := ⟨g2, i * 2 + 1, none⟩) (by simp) (.int .i64 v)).less (by intro k hk; simp at hk; rcases hk with rfl | rfl; exact .inl (by simp); exact .inr hg2))⟩
    have h3 := (ER.setAt q2 i v hil).lower (Nat.le_trans hbase HB.out.size)
    rw [hk] at h3
    have e4 : (l.set i (k, v)).length = l.length := List.length_set
    rw [← e4]
    rw [e4]
    exact h3
  · rw [if_neg hf, if_neg hf]
    rw [if_neg hf] at HF
    clear h
    go_enter Try.func15, Try.ntmps15
    go_wp2_with fail
    refine HF.out.mono ?_
    rintro e w1 ⟨rfl, hb⟩
    have HB := Lib.hid hb; clear hb HF
    go_wp2_with fail
    go_ret
    exact ⟨rfl, HX.out.below HB.out, Trn.of_below HB.out⟩
set_option maxHeartbeats 1000000 in
theorem drop_X (h : XR w base X room l) (k : List UInt8) (hl : l.length ≤ 4096) (hbase : base ≤ w.heap.size) :
    Calls Try.prog 17 #[tP X, strT k] w fun e w' => e = .returned (.int .i64 (if fiL l k < l.length then 0 else 6)) ∧
      XR w' base X room (if fiL l k < l.length then l.take (fiL l k) ++ l.drop (fiL l k + 1) else l) ∧ Trn [X] w w' := by
  have HF := Lib.hid (find_X h k hl)
  have HX := Lib.hid h
  by_cases hf : fiL l k < l.length
  · rw [if_pos hf, if_pos hf]
    rw [if_pos hf] at HF
    obtain ⟨i, hi, hil⟩ : ∃ i, fiL l k = i ∧ i < l.length := ⟨_, rfl, hf⟩
    rw [hi] at HF ⊢
    clear h hf hi
    have hi1 : (i : Int) < (l.length : Int) := by omega
    obtain ⟨M, hM⟩ : ∃ M : PL, M = l.take i ++ l.drop (i + 1) := ⟨_, rfl⟩
    rw [← hM]
    go_enter Try.func17, Try.ntmps17
    go_wp2_with fail
    refine HF.out.mono ?_
    rintro e w1 ⟨rfl, hb⟩
    have hx := HX.out.below hb
    obtain ⟨vv0, hX, hE⟩ := hx
    have hwo := without_any hE.es (Nat.le_refl _) i hil hl
    rw [← hM] at hwo
    obtain ⟨A, c, rfl, h1, h2, _, _⟩ := hE.parts
    have c1 : w1.cell? ⟨X, 1, none⟩ = some (.slice A l.length c) := hX.at rfl
    have HB := Lib.hid hb
    have HX1 := Lib.hid hX
    have HW := Lib.hid hwo
    clear hb HF hX hE hwo hM
    go_wp2_with fail
    refine HW.out.mono ?_
    rintro e w2 ⟨v2, rfl, hv2, hb2⟩
    have hps := hv2.parts
    have HV2 := Lib.hid hv2
    have HB2 := Lib.hid hb2
    clear HW c1 hv2 hb2
    obtain ⟨A2, cp2, rfl, _⟩ := hps
    have c4 := (HX1.out.below HB2.out HX1.out.lt).at (o := 1) rfl
    have f4 := (HX1.out.below HB2.out HX1.out.lt).free 1
    go_wp2_with fail
    go_ret
    have hst := XR.store HX1.out HB2.out HV2.out (Nat.le_trans hbase HB.out.size)
    exact ⟨rfl, hst.1, (Trn.of_below HB.out).trans hst.2⟩
  · rw [if_neg hf, if_neg hf]
    rw [if_neg hf] at HF
    clear h
    go_enter Try.func17, Try.ntmps17
    go_wp2_with fail
    refine HF.out.mono ?_
    rintro e w1 ⟨rfl, hb⟩
    have HB := Lib.hid hb; clear hb HF
    go_wp2_with fail
    go_ret
    exact ⟨rfl, HX.out.below HB.out, Trn.of_below HB.out⟩
end
end Go.Proofs.Ytipgjpmaflcpkaa
