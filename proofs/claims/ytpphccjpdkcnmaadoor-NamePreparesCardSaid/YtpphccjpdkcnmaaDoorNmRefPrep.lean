/- name: the reference's Prepare. -/
import Derived.Test.YtpphccjpdkcnmaaDoorNmSigns
import Derived.Test.YtpphccjpdkcnmaaDoorNmRefBytes
import Derived.Test.YtpphccjpdkcnmaaDoorNmRefSets
namespace Go.Proofs.YtpphccjpdkcnmaaDoor
open Go.RowKit Go.Shelf
/-- Signs that lie in memory. -/
def SgIn (W : World) (v : Value) (xs : List (Nat × Int)) : Prop :=
  ∃ A c, v = .slice A xs.length c ∧ ∀ k (hk : k < xs.length), ∃ g, A = some ⟨g, 0, none⟩ ∧ W.cell? ⟨g, 0 + k * 2, none⟩ = some (.int .i64 ((xs[k]'hk).1 : Int)) ∧ W.cell? ⟨g, 0 + k * 2 + 1, none⟩ = some (.int .i64 (xs[k]'hk).2)
theorem sgc_at : ∀ (xs : List (Nat × Int)) (k : Nat) (hk : k < xs.length), (sgc xs)[k * 2]? = some (.int .i64 ((xs[k]'hk).1 : Int)) ∧ (sgc xs)[k * 2 + 1]? = some (.int .i64 (xs[k]'hk).2)
  | [], k, hk => by simp at hk
  | x :: t, 0, hk => ⟨rfl, rfl⟩
  | x :: t, k + 1, hk => by
    have ih := sgc_at t k (by simpa using hk)
    have e : sgc (x :: t) = .int .i64 (x.1 : Int) :: .int .i64 x.2 :: sgc t := rfl
    rw [e, show (k + 1) * 2 = k * 2 + 1 + 1 by omega, List.getElem?_cons_succ, List.getElem?_cons_succ, List.getElem?_cons_succ, List.getElem?_cons_succ]
    exact ih
theorem OwnSg.sgIn {W : World} {base : Nat} {v : Value} {xs : List (Nat × Int)} (h : OwnSg W base v xs) : SgIn W v xs := by
  obtain ⟨h1, ⟨h2, h3⟩ | ⟨g, cap, cur, h0, hb, hg, h3⟩⟩ := id h
  · have hx : xs = [] := by
      first
        | exact List.eq_nil_of_length_eq_zero h3
        | exact List.eq_nil_of_length_eq_zero (by rw [sgc_len] at h1; omega)
    subst hx
    exact ⟨none, 0, h2, fun k hk => by simp at hk⟩
  · refine ⟨_, cap, h0, fun k hk => ⟨g, rfl, ?_, ?_⟩⟩
    · have := World.ownsRow.cells h (g := g) (by rw [h0]; rfl) (k * 2) _ (sgc_at xs k hk).1
      rwa [Addr.add_lit] at this
    · have := World.ownsRow.cells h (g := g) (by rw [h0]; rfl) (k * 2 + 1) _ (sgc_at xs k hk).2
      rwa [Addr.add_lit] at this
theorem SgIn.below {W W' : World} {v : Value} {xs : List (Nat × Int)} (h : SgIn W v xs) (hb : Below W.heap.size W W') : SgIn W' v xs := by
  obtain ⟨A, c, e, h⟩ := h
  refine ⟨A, c, e, fun k hk => ?_⟩
  obtain ⟨g, hg, h1, h2⟩ := h k hk
  exact ⟨g, hg, (hb.cell (p := ⟨g, 0 + k * 2, none⟩) (World.block_lt_of_cell? W _ h1)).trans h1, (hb.cell (p := ⟨g, 0 + k * 2 + 1, none⟩) (World.block_lt_of_cell? W _ h2)).trans h2⟩
theorem runesF_range : ∀ (f p : Nat) (l : List UInt8), ∀ x ∈ runesF f p l, -1 ≤ x.2 ∧ x.2 ≤ 1114111 := by
  intro f
  induction f with
  | zero => intro p l x hx; simp [runesF] at hx
  | succ f ih =>
    intro p l x hx
    rw [runesF] at hx
    split at hx
    · simp at hx
    · rename_i hl
      rcases List.mem_cons.1 hx with rfl | hx
      · have := dec1_top l (by omega)
        show -1 ≤ sg1 (dec1 l) ∧ sg1 (dec1 l) ≤ 1114111
        unfold sg1
        split <;> omega
      · exact ih _ _ x hx
theorem take_snoc {α : Type} (xs : List α) (k : Nat) (h : k < xs.length) : xs.take (k + 1) = xs.take k ++ [xs[k]] := List.take_succ_eq_append_getElem h
set_option maxRecDepth 100000 in
set_option maxHeartbeats 2000000 in
theorem refPrepare_any (s : List UInt8) (w : World) (hs : s.length ≤ 600) :
    Calls Tryd.prog 20 #[str s] w fun e w' => e = .returned (.tuple #[str (prepL s).1, .int .i64 (prepL s).2]) ∧ Below w.heap.size w w' := by
  have hrl := runesF_len s.length 0 s
  have hrr := runesF_range s.length 0 s
  have hsig := refSigns_any s w hs
  have hpr : prepL s = if (runesF s.length 0 s).any (fun x => x.2 == -1) then ([], 4) else if prE (runesF s.length 0 s) == 0 then (prO (runesF s.length 0 s), 0) else ([], 5) := rfl
  obtain ⟨xs, hxs⟩ : ∃ xs, xs = runesF s.length 0 s := ⟨_, rfl⟩
  obtain ⟨T, hT⟩ : ∃ T, T = prepL s := ⟨_, rfl⟩
  rw [← hxs] at hrl hrr hsig hpr
  rw [← hT] at hpr ⊢
  clear hxs hT
  have HPR := Lib.hid hpr; clear hpr
  have HRR := Lib.hid hrr; clear hrr
  go_enter Tryd.func20, Tryd.ntmps20
  go_wp2_with fail
  refine hsig.mono ?_
  rintro e w1 ⟨v1, rfl, hO, hB⟩
  obtain ⟨A, c, rfl, hin⟩ := hO.sgIn
  have HIN : Hid (SgIn w1 (.slice A xs.length c) xs) := Lib.hid ⟨A, c, rfl, hin⟩
  have HB := Lib.hid hB
  clear hsig hO hin hB
  go_wp2_with fail
  go_loopw [14] (fun i wr => ∃ k : Nat, k ≤ xs.length ∧ i = .int .i64 (k : Int) ∧ (xs.take k).any (fun x => x.2 == -1) = false ∧ Below w1.heap.size w1 wr) (fun i _ => xs.length - (intOf i).toNat)
  case atStart => exact ⟨0, by omega, rfl, rfl, Below.refl _ _⟩
  case round =>
    obtain ⟨k, hk, rfl, hno, hbr⟩ := hrel
    have HIR := Lib.hid (HIN.out.below hbr)
    by_cases hlt : k < xs.length
    · obtain ⟨A', c', he, hin⟩ := HIR.out
      injection he with he1 he2 he3
      subst he1 he3
      obtain ⟨g, rfl, c0, c1⟩ := hin k hlt
      rw [Nat.zero_add] at c0 c1
      clear hin he2
      have hts := take_snoc xs k hlt
      have hmem := HRR.out xs[k] (List.getElem_mem hlt)
      have hanyT : (xs[k]).2 = -1 → xs.any (fun x => x.2 == -1) = true := fun e => List.any_eq_true.2 ⟨xs[k], List.getElem_mem hlt, by rw [e]; rfl⟩
      obtain ⟨x, hx⟩ : ∃ x, x = xs[k] := ⟨_, rfl⟩
      rw [← hx] at c0 c1 hts hmem hanyT
      clear hx
      obtain ⟨q, r⟩ := x
      simp only at c0 c1 hmem hanyT
      by_cases hneg : r = -1
      · subst hneg
        have hp := HPR.out
        rw [hanyT rfl, if_pos rfl] at hp
        subst hp
        clear hts hno hmem hanyT
        go_wp2_with fail
        go_ret2
        exact ⟨rfl, HB.out.trans ((hbr.alloc hbr.size _).mono HB.out.size)⟩
      · have hr0 : 0 ≤ r := by omega
        have hno2 : (xs.take (k + 1)).any (fun x => x.2 == -1) = false := by
          rw [hts, List.any_append, hno]; simp [hneg]
        clear hts hno hanyT
        go_wp2_with fail
        go_roundw
        case rel => exact ⟨k + 1, by omega, by go_num, hno2, hbr.alloc hbr.size _⟩
        case measure => simp [intOf]; omega
    · obtain rfl : k = xs.length := by omega
      rw [List.take_length] at hno
      have hp := HPR.out
      rw [hno] at hp
      simp only [Bool.false_eq_true, if_false] at hp
      have HP := Lib.hid hp; clear hp
      go_wp2_with fail
      go_loopw [7, 24] (fun v i wq => ∃ k : Nat, k ≤ xs.length ∧ i = .int .i64 (k : Int) ∧ (xs.take k).any (fun x => noB x.2) = false ∧ OwnB wq w1.heap.size v (prO (xs.take k)) ∧ Below w1.heap.size w1 wq) (fun _ i _ => xs.length - (intOf i).toNat)
      case atStart => exact ⟨0, by omega, rfl, rfl, World.ownsRow_nil _ _ _ 1, hbr⟩
      case round =>
        obtain ⟨k, hk2, rfl, hnb, hO, hbq⟩ := hrel
        have HIQ := Lib.hid (HIN.out.below hbq)
        clear hbr HIR
        by_cases hlt2 : k < xs.length
        · obtain ⟨A', c', he, hin⟩ := HIQ.out
          injection he with he1 he2 he3
          subst he1 he3
          obtain ⟨g, rfl, c0, c1⟩ := hin k hlt2
          rw [Nat.zero_add] at c0 c1
          clear hin he2
          have hts := take_snoc xs k hlt2
          have hmem := HRR.out xs[k] (List.getElem_mem hlt2)
          have hneg : (xs[k]).2 ≠ -1 := by
            intro e
            rw [List.any_eq_false] at hno
            exact hno _ (List.getElem_mem hlt2) (by rw [e]; rfl)
          have hbad : noB (xs[k]).2 = true → (prE xs == 0) = false := fun e => by
            have : xs.any (fun x => noB x.2) = true := List.any_eq_true.2 ⟨xs[k], List.getElem_mem hlt2, e⟩
            unfold prE
            rw [if_pos this]
            rfl
          have hpl := prO_le (xs.take k)
          rw [List.length_take] at hpl
          obtain ⟨x, hx⟩ : ∃ x, x = xs[k] := ⟨_, rfl⟩
          rw [← hx] at c0 c1 hts hmem hneg hbad
          clear hx
          obtain ⟨q, r⟩ := x
          simp only at c0 c1 hmem hneg hbad
          have hr0 : 0 ≤ r := by omega
          have hr1 : r ≤ 1114111 := hmem.2
          have hpo : prO (xs.take (k + 1)) = prO (xs.take k) ++ prS r := by rw [hts, prO_snoc]
          have hnn : noB r = false → (xs.take (k + 1)).any (fun x => noB x.2) = false := fun e => by rw [hts, List.any_append, hnb]; simp [e]
          have HPO := Lib.hid hpo
          have HNN := Lib.hid hnn
          have HO := Lib.hid hO
          have HBD := Lib.hid hbad
          have HNO := Lib.hid hno
          clear hts hno hmem hneg hbad hpo hnn hO hnb
          obtain ⟨ml, hml⟩ : ∃ ml, ml = prO (xs.take k) := ⟨_, rfl⟩
          rw [← hml] at HO HPO hpl
          clear hml
          go_wp2_with fail
          have HBQ := Lib.hid hbq
          have HB2 := Lib.hid (hbq.alloc hbq.size (.cells #[.int .i64 (q : Int), .int .i64 r] 27))
          have HO2 := Lib.hid (HO.out.below ((Below.refl wr.heap.size wr).alloc (Nat.le_refl _) (.cells #[.int .i64 (q : Int), .int .i64 r] 27)))
          clear hbq
          refine (refBlank_any r _ hr0 hr1).mono ?_
          rintro e w2 ⟨rfl, rfl⟩
          cases hsp : spB r with
          | true =>
            have hms : prS r = [32] := by unfold prS; rw [hsp]; rfl
            have hnb : noB r = false := by unfold noB; rw [hsp]; rfl
            have hpo := HPO.out
            rw [hms] at hpo
            have hn2 := HNN.out hnb
            have HPO2 := Lib.hid hpo
            have HN2 := Lib.hid hn2
            clear hms hnb hpo hn2 hsp
            have hbs : Bs ((wr.alloc (.cells #[.int .i64 (q : Int), .int .i64 r] 27)).alloc (.cells #[.int .u8 32] 5)) (wr.heap.size + 1) 0 [32] := by
              have h := Bs.of_blk (Blk.newA (wr.alloc (.cells #[.int .i64 (q : Int), .int .i64 r] 27)) #[.int .u8 32] 5) 0 (l := [32]) (fun j hj => by match j, hj with | 0, _ => rfl)
              rw [World.size_alloc] at h
              exact h
            have HBS := Lib.hid hbs; clear hbs
            go_wp2_with (at_builtin; ((with_reducible refine wpList_app ?g1 (.tmp 31) (.tmp 32) ?g2 w1.heap.size u7 ml [32] ?g3 ?g4 (wr.heap.size + 1) 0 1 1 ?g5 ?g6 ?g7 ?g8 ?g9 ?_); (case g1 => rfl); (case g2 => rfl); (case g3 => rfl); (case g4 => exact HO2.out.below ((Below.refl _ _).alloc (Nat.le_refl _) _)); (case g5 => rfl); (case g6 => rfl); (case g7 => exact HBS.out); (case g8 => simp; omega); (case g9 => have := HB2.out.size; simp at this ⊢; omega); intro v' w3 hv hg; have Hv := Lib.hid hv; clear hv; have Hg := Lib.hid ((HB2.out.alloc HB2.out.size _).trans (OwnB.belowBase (HO2.out.below ((Below.refl _ _).alloc (Nat.le_refl _) _)) hg (by have := HB2.out.size; simp at this ⊢; omega))); clear hg))
            go_roundw
            case rel => exact ⟨k + 1, by omega, by go_num, HN2.out, by rw [HPO2.out]; exact Hv.out, Hg.out⟩
            case measure => simp [intOf]; omega
          | false =>
            go_wp2_with fail
            refine (refGoes_any r _ hr0 hr1).mono ?_
            rintro e w2 ⟨rfl, rfl⟩
            cases hgo : goB r with
            | true =>
              have hms : prS r = [] := by unfold prS; rw [hsp, hgo]; rfl
              have hnb : noB r = false := by unfold noB; rw [hsp, hgo]; rfl
              have hpo := HPO.out
              rw [hms, List.append_nil] at hpo
              have hn2 := HNN.out hnb
              have HPO2 := Lib.hid hpo
              have HN2 := Lib.hid hn2
              clear hms hnb hpo hn2 hsp hgo
              go_wp2_with fail
              go_roundw
              case rel => exact ⟨k + 1, by omega, by go_num, HN2.out, by rw [HPO2.out]; exact HO2.out, HB2.out⟩
              case measure => simp [intOf]; omega
            | false =>
              go_wp2_with fail
              refine (refBars_any r _ hr0 hr1).mono ?_
              rintro e w2 ⟨rfl, rfl⟩
              cases hba : baB r with
              | true =>
                have hnb : noB r = true := by unfold noB; rw [hsp, hgo, hba]; rfl
                have hp := HP.out
                rw [HBD.out hnb] at hp
                have hp2 : T = ([], 5) := hp
                subst hp2
                clear hp hnb hsp hgo hba
                go_wp2_with fail
                go_ret2
                exact ⟨rfl, HB.out.trans (HB2.out.mono HB.out.size)⟩
              | false =>
                have hms : prS r = Lib.encodeRune r := by unfold prS; rw [hsp, hgo, hba]; rfl
                have hnb : noB r = false := by unfold noB; rw [hsp, hgo, hba]; rfl
                have hel : (Lib.encodeRune r).length ≤ 4 := by rw [enc_len]; exact (Lib.encodeRuneZ_length r).2
                have hpo := HPO.out
                rw [hms] at hpo
                have hn2 := HNN.out hnb
                have HPO2 := Lib.hid hpo
                have HN2 := Lib.hid hn2
                clear hms hnb hpo hn2 hsp hgo hba
                go_wp2_with fail
                refine (refBytesR_any r _).mono ?_
                rintro e w3 ⟨v3, rfl, hO3, hB3⟩
                have HO3 := Lib.hid (HO2.out.below hB3)
                have HS3 := Lib.hid hO3.sl; clear hO3
                have HB3 := Lib.hid (HB2.out.trans (hB3.mono HB2.out.size)); clear hB3
                go_wp2_with (at_builtin; ((with_reducible refine wpList_app_sl ?f1 (.tmp 40) (.tmp 43) ?f2 w1.heap.size u7 ml (Lib.encodeRune r) ?f3 ?f4 w3.heap.size v3 ?f5 ?f6 ?f7 ?f8 ?_); (case f1 => rfl); (case f2 => rfl); (case f3 => rfl); (case f4 => exact HO3.out); (case f5 => rfl); (case f6 => exact HS3.out); (case f7 => omega); (case f8 => exact HB3.out.size); intro v' w4 hv hg; have Hv := Lib.hid hv; clear hv; have Hg := Lib.hid (HB3.out.trans (HO3.out.belowBase hg HB3.out.size)); clear hg))
                go_roundw
                case rel => exact ⟨k + 1, by omega, by go_num, HN2.out, by rw [HPO2.out]; exact Hv.out, Hg.out⟩
                case measure => simp [intOf]; omega
        · obtain rfl : k = xs.length := by omega
          rw [List.take_length] at hO hnb
          have hE : prE xs = 0 := by unfold prE; rw [hnb]; rfl
          have hp := HP.out
          rw [hE] at hp
          have hp2 : T = (prO xs, 0) := hp
          subst hp2
          have hcv := conv_sl hO.sl
          clear hp hE hno
          go_wp2_with fail
          go_ret2
          exact ⟨rfl, HB.out.trans (hbq.mono HB.out.size)⟩
end Go.Proofs.YtpphccjpdkcnmaaDoor
