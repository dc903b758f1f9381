/- The reference of table: Prune. -/
import Derived.Test.YtipgjpmaflcpkaaTeRef3
set_option maxRecDepth 100000
namespace Go.Proofs.Ytipgjpmaflcpkaa
open Go.RowKit
/-- A number's remainder by three, never less than nought. -/
def r3 (v : Int) : Int := Int.tmod v 3 % 3
theorem r3_lo (v : Int) : -2 ≤ Int.tmod v 3 ∧ Int.tmod v 3 ≤ 2 := by
  have h1 := Int.tmod_lt_of_pos v (show (0 : Int) < 3 by omega)
  have h2 := Int.lt_tmod_of_pos v (show (0 : Int) < 3 by omega)
  omega
theorem r3_rng (v : Int) : 0 ≤ r3 v ∧ r3 v ≤ 2 := by
  unfold r3
  omega
section
variable {w w1 w' : World} {base X : Nat} {room : Int} {l : PL}
abbrev keepL (rest : Int) (l : PL) : PL := l.filter fun q => !(r3 q.2 == rest)
abbrev goneN (rest : Int) (l : PL) : Int := ((l.filter fun q => r3 q.2 == rest).length : Int)
theorem keepL_succ {rest : Int} {j : Nat} (h : j < l.length) : keepL rest (l.take (j + 1)) = if r3 l[j].2 = rest then keepL rest (l.take j) else keepL rest (l.take j) ++ [l[j]] := by
  show (l.take (j + 1)).filter _ = _
  rw [List.take_succ_eq_append_getElem h, List.filter_append]
  by_cases hp : r3 l[j].2 = rest <;> simp [hp]
theorem goneN_succ {rest : Int} {j : Nat} (h : j < l.length) : goneN rest (l.take (j + 1)) = if r3 l[j].2 = rest then goneN rest (l.take j) + 1 else goneN rest (l.take j) := by
  show ((((l.take (j + 1)).filter fun q => r3 q.2 == rest).length : Nat) : Int) = _
  rw [List.take_succ_eq_append_getElem h, List.filter_append]
  by_cases hp : r3 l[j].2 = rest <;> simp [hp]
theorem prune_nilX (rest : Int) (w : World) : Calls Try.prog 21 #[.pointer none, .int .i64 3, .int .i64 rest] w fun e w' => e = .returned (.int .i64 0) ∧ Below w.heap.size w w' := by
  go_enter Try.func21, Try.ntmps21
  go_wp2_with fail
  go_ret
  exact ⟨rfl, Below.refl _ _⟩
set_option maxHeartbeats 2000000 in
theorem prune_X (h : XR w base X room l) (rest : Int) (hl : l.length ≤ 4096) (hbase : base ≤ w.heap.size) :
    Calls Try.prog 21 #[tP X, .int .i64 3, .int .i64 rest] w fun e w' => e = .returned (.int .i64 (goneN rest l)) ∧ XR w' base X room (keepL rest l) ∧ Trn [X] w w' := by
  obtain ⟨v, hX, hE⟩ := h
  obtain ⟨A, c, rfl, h1, h2, h3, h4⟩ := hE.es
  have c1 : w.cell? ⟨X, 1, none⟩ = some (.slice A l.length c) := hX.at rfl
  have HX := Lib.hid hX
  have H4 := Lib.hid h4
  have HBS := Lib.hid hbase
  clear hX hE h4 hbase
  go_enter Try.func21, Try.ntmps21
  go_wp2_with fail
  go_loopw [7, 8, 18] (fun lv n i wr => ∃ j : Nat, j ≤ l.length ∧ i = .int .i64 (j : Int) ∧ n = .int .i64 (goneN rest (l.take j)) ∧ ER wr w.heap.size lv (keepL rest (l.take j)) ∧ Below w.heap.size w wr) (fun _ _ i _ => l.length - (intOf i).toNat)
  case atStart => exact ⟨0, by omega, rfl, rfl, ER.nil _ _, Below.refl _ _⟩
  case round =>
    obtain ⟨j, hjl, rfl, rfl, hER, hB⟩ := hrel
    have HER := Lib.hid hER
    have hps := hER.parts
    obtain ⟨Al, cl, rfl, _⟩ := hps
    clear hER
    by_cases hlt : j < l.length
    · obtain ⟨g, o, rfl, hg, hc⟩ := H4.out (by omega)
      obtain ⟨e1, e2⟩ := hc j hlt
      have HK := Lib.hid (keepL_succ (rest := rest) hlt)
      have HG := Lib.hid (goneN_succ (rest := rest) hlt)
      obtain ⟨q, hq⟩ : ∃ q, q = l[j] := ⟨_, rfl⟩
      rw [← hq] at e1 e2 HK HG
      have d1 : wr.cell? ⟨g, o + j * 2, none⟩ = some (strT q.1) := (hB.cell (p := ⟨g, o + j * 2, none⟩) hg).trans e1
      have d2 : wr.cell? ⟨g, o + j * 2 + 1, none⟩ = some (.int .i64 q.2) := (hB.cell (p := ⟨g, o + j * 2 + 1, none⟩) hg).trans e2
      have HB := Lib.hid hB
      clear e1 e2 hB hc hq H4
      obtain ⟨qk, qv⟩ := q
      simp only at d1 d2 HK HG
      have hr := r3_lo qv
      by_cases hp : r3 qv = rest
      · rw [if_pos hp] at HK HG
        have hbe : (Int.tmod qv 3 % 3 == rest) = true := beq_iff_eq.2 hp
        have hG0 : 0 ≤ goneN rest (l.take j) ∧ goneN rest (l.take j) ≤ 4096 := by
          have h5 := List.length_filter_le (fun q : List UInt8 × VT => r3 q.2 == rest) (l.take j)
          have h6 : (l.take j).length ≤ 4096 := by rw [List.length_take]; omega
          refine ⟨Int.natCast_nonneg _, ?_⟩
          show ((((l.take j).filter fun q => r3 q.2 == rest).length : Nat) : Int) ≤ 4096
          omega
        obtain ⟨G, hG⟩ : ∃ G, G = goneN rest (l.take j) := ⟨_, rfl⟩
        rw [← hG] at hG0 HG ⊢
        clear hG
        go_wp2_with fail
        refine ⟨⟨j + 1, by omega, by go_num, by rw [HG.out], ?_, HB.out.alloc HB.out.size _⟩, by simp [intOf]; omega⟩
        rw [HK.out]
        exact HER.out.below ((Below.refl _ _).alloc (Nat.le_refl _) _)
      · rw [if_neg hp] at HK HG
        have hbe : (Int.tmod qv 3 % 3 == rest) = false := beq_eq_false_iff_ne.2 hp
        have hlen : (keepL rest (l.take j)).length ≤ 4096 := by
          have h5 := List.length_filter_le (fun q : List UInt8 × VT => !(r3 q.2 == rest)) (l.take j)
          have h6 : (l.take j).length ≤ 4096 := by rw [List.length_take]; omega
          exact Nat.le_trans h5 h6
        obtain ⟨M, hM⟩ : ∃ M, M = keepL rest (l.take j) := ⟨_, rfl⟩
        rw [← hM] at hlen HK HER ⊢
        clear hM
        go_wp2_with (at_builtin; go_loud ((with_reducible refine wpList_app_es ?g1 (.tmp 34) (.tmp 36) ?g2 w.heap.size (.slice Al M.length cl) M [(qk, qv)] ?g3 ?g4 (wr.heap.size + 2) (.slice (some ⟨wr.heap.size + 1, 0, none⟩) 1 1) ?g5 ?g6 ?g7 ?g8 ?_); (case g1 => rfl); (case g2 => rfl); (case g3 => rfl); (case g4 => exact HER.out.below (((Below.refl _ _).alloc (Nat.le_refl _) _).alloc (by simp) _)); (case g5 => rfl); (case g6 => exact ES.one2 wr _ qk qv); (case g7 => simp; omega); (case g8 => have := HB.out.size; simp; omega); intro v3 w3 hv3 hg3; have HB3 := Lib.hid (((HB.out.alloc HB.out.size _).alloc (by have := HB.out.size; simp; omega) _).trans (ER.belowBase (ER.below HER.out (((Below.refl _ _).alloc (Nat.le_refl _) _).alloc (by simp) _)) hg3 (by have := HB.out.size; simp; omega))); have HV3 := Lib.hid hv3; clear hv3 hg3))
        exact ⟨⟨j + 1, by omega, by go_num, by rw [HG.out], by rw [HK.out]; exact HV3.out, HB3.out⟩, by simp [intOf]; omega⟩
    · have hjx : j = l.length := by omega
      have HB := Lib.hid hB
      subst hjx
      rw [List.take_length] at HER ⊢
      have c4 := (HX.out.below hB HX.out.lt).at (o := 1) rfl
      have f4 := (HX.out.below hB HX.out.lt).free 1
      clear hB H4
      go_wp2_with fail
      go_ret
      have hst := XR.store HX.out HB.out HER.out HBS.out
      exact ⟨rfl, hst.1, hst.2⟩
end
end Go.Proofs.Ytipgjpmaflcpkaa
