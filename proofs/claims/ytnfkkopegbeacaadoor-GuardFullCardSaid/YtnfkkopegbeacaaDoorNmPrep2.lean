/- name.Prepare. -/
import Derived.Test.YtnfkkopegbeacaaDoorNmPrep
namespace Go.Proofs.YtnfkkopegbeacaaDoor
open Go.RowKit Go.Shelf
attribute [local go_sem] Oper.semAt_some
theorem wpIn_scope {n : Nat} {P : Program} {c : Code} {Q : Exit → Act → World → Prop} {a : Act} {w : World} (h : c.wpIn Fence.wide n P (Exit.noGoto Q) a w) : (Code.scope c).wpIn Fence.wide n P Q a w :=
  wpIn_wide.2 (wp_scope_straight (wpIn_wide.1 h))
theorem wpListIn_appF {F : Fence} {n : Nat} {w : World} {ops : Array Oper} {rest : List Oper} {o : Oper} {a : Act} {Q : Exit → Act → World → Prop} (hgd : o.guard = none) (s x : Operand) (ho : o.op = .call { callee := .builtin .append, args := #[s, x], argTypes := #[40, 40] })
    (base : Nat) (v : Value) (l : List UInt8) (b : UInt8) (hs : a.eval s = v) (hown : OwnF w base v l) (ad : Addr) (hx : a.eval x = .slice (some ad) 1 1) (hc : ∀ j u, [vb b][j]? = some u → w.cell? (ad.add j) = some u)
    (hlen : l.length ≤ 1000000) (hbase : base ≤ w.heap.size)
    (h : ∀ v' w', OwnF w' base v' (l ++ [b]) → w.grownBy w' v.ownBlock → wpListIn F n Tryd.prog ops Q rest (a.put o.dst v') w') : wpListIn F n Tryd.prog ops Q (o :: rest) a w := by
  obtain ⟨i0, hi, hz0, hz1, hz2⟩ := info_parts info_b
  refine wpListIn_plain hgd fun K hK' => ?_
  obtain ⟨v', w', hrun, r1, r2, _⟩ := run_append_ownF (P := Tryd.prog) (w := w) base 40 o.type 5 i0 (.int .u8 0) 1 1 Tryd.underlying40 hi hz0 hz1 hz2 rfl (by decide) v l.length (l.map vb) hown ad 1 1 [vb b] rfl hc (by intro u hu; simp at hu; subst hu; rfl) (by unfold maxLen; omega) (by omega) hbase
  have h2 : OwnF w' base v' (l ++ [b]) := by
    unfold OwnF
    rw [List.length_append, List.map_append]
    exact r1
  unfold Oper.wpIn
  refine ⟨?_, ?_⟩
  · simp [Oper.about, ho, resolve, Target.leads, Sem.run_pure]
  · rw [Oper.semAt_plain F _ _ (by rw [ho]; intro c hc'; cases hc')]
    simp [execOp, ho, resolve, invoke, builtin, hs, hx, hrun, Result.andThen]
    exact hK' _ _ (h v' w' h2 r2)
/-- What Prepare tells. -/
def prepL (s : List UInt8) : List UInt8 × Int :=
  if (runesF s.length 0 s).any (fun x => x.2 == -1) then ([], 4) else if prE (runesF s.length 0 s) == 0 then (prO (runesF s.length 0 s), 0) else ([], 5)
theorem runesF_len : ∀ (f p : Nat) (l : List UInt8), (runesF f p l).length ≤ f := by
  intro f
  induction f with
  | zero => intro p l; simp [runesF]
  | succ f ih =>
    intro p l
    rw [runesF]
    split
    · simp
    · rw [List.length_cons]; have := ih (p + (dec1 l).2) (l.drop (dec1 l).2); omega
set_option maxRecDepth 100000 in
set_option maxHeartbeats 2000000 in
theorem prepare_any (s : List UInt8) (w : World) (hs : s.length ≤ 600) (hT : Lib.Utf8Tabs 0 1 w) :
    Calls Tryd.prog 46 #[str s] w fun e w' => e = .returned (.tuple #[str (prepL s).1, .int .i64 (prepL s).2]) ∧ Below w.heap.size w w' := by
  have HT := Lib.hid hT; clear hT
  have hmk : (Instr.makeSlice 40 (.int .i64 0) (.int .i64 (s.length : Int))).run Tryd.prog w = .ok (.slice (some ⟨w.heap.size, 0, none⟩) 0 s.length) (w.alloc (.cells (noughts s.length) 5)) := make_bytes 0 s.length (by omega) (by omega) w
  refine (callsIn_wide (n := 10)).1 ?_
  refine callsIn_of_wp_marks Tryd.func46 rfl trivial ?_ rfl
  simp only [Tryd.ntmps46, List.size_toArray, List.length_cons, List.length_nil, Nat.reduceAdd, Nat.reduceSub, Array.replicate_succ, Array.replicate_zero, List.push_toArray, List.append_toArray, List.nil_append, List.cons_append]
  gi_wp2
  refine wpIn_scope ?_
  gi_wp2
  refine wpIn_label ?_
  gi_wp2
  refine ⟨trivial, (callsIn_wide.2 (runes_any s _)).mono ?_⟩
  rintro e W3 ⟨rfl, hW3⟩
  have hP : Pp w s [] (.slice (some ⟨w.heap.size, 0, none⟩) 0 s.length) W3 := by
    have q1 := Boxed.new (w.alloc (.cells (noughts s.length) 5)) 40 (.slice (some ⟨w.heap.size, 0, none⟩) 0 s.length)
    have q2 := Boxed.new ((w.alloc (.cells (noughts s.length) 5)).alloc (.cells #[.slice (some ⟨w.heap.size, 0, none⟩) 0 s.length] 40)) 27 (.int .i64 0)
    have q3 := Boxed.new (((w.alloc (.cells (noughts s.length) 5)).alloc (.cells #[.slice (some ⟨w.heap.size, 0, none⟩) 0 s.length] 40)).alloc (.cells #[.int .i64 0] 27)) 9 (str s)
    simp only [World.size_alloc] at q1 q2 q3
    have o0 : OwnB (w.alloc (.cells (noughts s.length) 5)) w.heap.size (.slice (some ⟨w.heap.size, 0, none⟩) 0 s.length) [] := OwnB.of_heap (Nat.le_refl _) (heap_alloc_new w _) (noughts_size _) (by unfold maxLen; omega) rfl (by simp) (by omega)
    rw [hW3]
    exact ⟨(q1.alloc _).alloc _, q2.alloc _, ((o0.below ((Below.refl _ _).alloc (Nat.le_refl _) _)).below ((Below.refl _ _).alloc (Nat.le_refl _) _) |>.below ((Below.refl _ _).alloc (Nat.le_refl _) _)).f, q3, ((((Below.refl _ w).alloc (Nat.le_refl _) _).alloc (by simp) _).alloc (by simp; omega) _).alloc (by simp; omega) _, by simp⟩
  have hz3 : W3.heap.size = w.heap.size + 4 := by rw [hW3]; simp
  simp only [World.size_alloc, Nat.add_assoc, Nat.reduceAdd]
  clear hW3 hmk
  have HP := Lib.hid hP; clear hP
  have hlen := runesF_len s.length 0 s
  obtain ⟨R, hR⟩ : ∃ R, R = runesF s.length 0 s := ⟨_, rfl⟩
  have hseq := runes1_g (10 - 1) (by omega) (w.heap.size + 3) s (by omega) W3
  unfold RuY at hseq
  have hpr : prepL s = if R.any (fun x => x.2 == -1) then ([], 4) else if prE R == 0 then (prO R, 0) else ([], 5) := by rw [hR]; rfl
  rw [← hR] at hseq hlen
  have HSQ := Lib.hid hseq; clear hseq
  have HPR := Lib.hid hpr; clear hpr hR
  gi_wp2
  refine wpIn_rangeFunc_g rfl (by omega) (gf := rF) (lb := #[.pointer (some ⟨w.heap.size + 3, 0, none⟩)]) rfl trivial (fun _ _ => rfl) (encs := fun x : Nat × Int => #[.int .i64 (x.1 : Int), .int .i32 x.2]) StR (fun _ _ => True) (fun _ pre x _ => pre ++ [x] <+: R ∧ -1 ≤ x.2 ∧ x.2 ≤ 1114111) (fun ys => ys = R)
    (fun A => Boxed A (w.heap.size + 3) 9 (str s) ∧ Lib.Utf8Tabs 0 1 A)
    (fun pre A => (∃ va, Pp w s pre va A) ∧ pre.any (fun x => x.2 == -1) = false)
    (fun c pre A => c = .exit 0 ∧ Boxed A (w.heap.size + 2) 27 (.int .i64 4) ∧ R.any (fun x => x.2 == -1) = true ∧ Below w.heap.size w A)
    HSQ.out (fun pre A h => by obtain ⟨⟨va, h⟩, _⟩ := h; exact ⟨h.bs, Utf8Tabs_below HT.out h.low⟩) (fun _ => rfl)
    (fun _ _ _ _ h _ hk => h.block _ hk) (fun _ _ _ h => h.size) (fun _ _ _ _ _ => trivial) (fun _ _ _ _ _ _ _ => trivial)
    (fun pre A B h hst => by obtain ⟨⟨va, h⟩, hn⟩ := h; exact ⟨⟨va, h.below hst⟩, hn⟩)
    (fun c pre A B h hst => ⟨h.1, (hst.block _ h.2.1.lt).trans h.2.1, h.2.2.1, h.2.2.2.trans (hst.mono h.2.2.2.size)⟩)
    (fun pre A l o o' h hl ho hc => by obtain ⟨⟨va, h⟩, hn⟩ := h; exact ⟨⟨va, h.put (by omega) ho hc⟩, hn⟩)
    (fun c pre A l o o' h hl ho hc => ⟨h.1, h.2.1.kept (grownBy_putObj' A l o') (by intro e; cases e; omega), h.2.2.1, h.2.2.2.grown (grownBy_putObj' A l o') h.2.2.2.size (fun r e => by cases e; omega)⟩)
    (fun _ _ _ _ _ _ _ h _ _ _ => h)
    (fun W' hb hs => ⟨⟨_, HP.out.below hb⟩, rfl⟩)
    (fun x a' => a' = { tmps := #[str s, undef, .string ⟨#[]⟩, .int .i64 0, .pointer (some ⟨w.heap.size + 1, 0, none⟩), .pointer (some ⟨w.heap.size + 2, 0, none⟩), undef, .int .i32 x.2, str s, .int .i64 (s.length : Int), .slice (some ⟨w.heap.size, 0, none⟩) 0 s.length, str s,
        .func (.func rF) #[] #[.pointer (some ⟨w.heap.size + 3, 0, none⟩)], .int .i64 (x.1 : Int), .int .i32 x.2, undef, undef, undef, undef, undef, undef, undef, undef, undef, undef, undef, undef, undef, undef, undef, undef, undef, undef, undef, undef, undef, undef, undef], defers := [] })
    ?assign ?body ?done ?stop
  case assign =>
    rintro k x A K hK
    have HK := Lib.hid hK; clear hK
    gi_wp2
    exact HK.out _ rfl
  case done =>
    rintro D xs A hD hz rfl ⟨⟨va, hJ⟩, hn⟩ hK
    have c5 := hJ.be.cell
    have c4 := hJ.bt.cell
    have hcv := conv_sl hJ.own.sl
    have hlow := (hJ.put (o' := .deferred none) (l := D) (by omega) hK rfl).low
    have hE : prE xs = 0 ∨ prE xs = 5 := by unfold prE; split <;> simp
    have hpr := HPR.out
    rw [hn] at hpr
    simp only [Bool.false_eq_true, if_false] at hpr
    rcases hE with h0 | h0
    · rw [h0] at c5 hpr
      rw [show ((0 : Int) == 0) = true from rfl, if_pos rfl] at hpr
      have HPr := Lib.hid hpr; clear hpr
      gi_wp2
      show LeavesInM _ _ _ _ _ _ _ _ _
      refine ⟨by simp, .inl ⟨_, _, rfl, run_takeDeferred hK, ?_⟩⟩
      exact ⟨_, results_tmp2 rfl _ _ _, by rw [HPr.out]; rfl, hlow⟩
    · rw [h0] at c5 hpr
      rw [show ((5 : Int) == 0) = false from rfl] at hpr
      simp only [Bool.false_eq_true, if_false] at hpr
      have HPr := Lib.hid hpr; clear hpr
      gi_wp2
      gi_region
      gi_wp2
      show LeavesInM _ _ _ _ _ _ _ _ _
      refine ⟨by simp, .inl ⟨_, _, rfl, run_takeDeferred hK, ?_⟩⟩
      exact ⟨_, results_tmp2 rfl _ _ _, by rw [HPr.out]; rfl, hlow.drew⟩
  case stop =>
    rintro D c pre A hD hz ⟨rfl, hbe, hany, hlow⟩ hK
    have c5 := hbe.cell
    have hpr := HPR.out
    rw [hany, if_pos rfl] at hpr
    have HPr := Lib.hid hpr; clear hpr
    gi_wp2
    gi_region
    gi_wp2
    show LeavesInM _ _ _ _ _ _ _ _ _
    refine ⟨by simp, .inl ⟨_, _, rfl, run_takeDeferred hK, ?_⟩⟩
    exact ⟨_, results_tmp2 rfl _ _ _, by rw [HPr.out]; rfl, (hlow.drew).grown (grownBy_putObj' A.drew D (.deferred none)) hlow.size (fun r e => by cases e; omega)⟩
  case body =>
    rintro k bb pre ⟨at0, r⟩ a' A hbb hbz ⟨⟨va, hJ⟩, hn⟩ ⟨hpre, hr1, hr2⟩ rfl
    simp only at hr1 hr2
    have hpl : (pre ++ [(at0, r)]).length ≤ R.length := hpre.length_le
    rw [List.length_append, List.length_singleton] at hpl
    have hol := prO_le pre
    have hz4 := hJ.sz
    by_cases hneg : r = -1
    · subst hneg
      have c5 := hJ.be.cell
      have f5 := hJ.be.frozen
      have hbx := hJ.be.set (.int .i64 4)
      have hlw := hJ.low.setCell (p := ⟨w.heap.size + 2, 0, none⟩) (by show w.heap.size ≤ w.heap.size + 2; omega) (.int .i64 4)
      have hany : R.any (fun x => x.2 == -1) = true := List.any_eq_true.2 ⟨(at0, -1), hpre.subset (by simp), rfl⟩
      gi_wp2
      exact ⟨KeepsFrom.of_grownBy (grown_set _ _ _) (by rintro j e; cases e; show w.heap.size + 2 < _; omega), rfl, hbx, hany, hlw⟩
    · have hne : ((r == -1) = false) := by rw [beq_eq_false_iff_ne]; exact hneg
      have hany : (pre ++ [(at0, r)]).any (fun x => x.2 == -1) = false := by rw [List.any_append, hn]; simp [hneg]
      have HJ := Lib.hid hJ
      have HANY := Lib.hid hany; clear hany hn
      gi_wp2
      refine ⟨trivial, (CallsIn.inRound k ((callsIn_wide (n := 7)).2 (isSpace_any r A))).mono ?_⟩
      rintro e W' ⟨rfl, rfl⟩
      cases hsp : spB r with
      | true =>
        have c4 := hJ.bt.cell
        have hms : prS r = [32] := by unfold prS; rw [hsp]; rfl
        have hno : noB r = false := by unfold noB; rw [hsp]; rfl
        have HM := Lib.hid (And.intro hms hno); clear hms hno
        have HOW : Hid (OwnF (A.alloc (.cells #[.int .u8 32] 5)) w.heap.size va (prO pre)) := Lib.hid (World.ownsRowF.alloc hJ.own _)
        have hnw : ∀ j u, [vb 32][j]? = some u → (A.alloc (.cells #[.int .u8 32] 5)).cell? ((⟨A.heap.size, 0, none⟩ : Addr).add j) = some u := by
          have h32 : vb 32 = .int .u8 32 := rfl
          rw [h32]
          have h1 := (Boxed.new A 5 (.int .u8 32)).cell
          intro j u hu
          cases j with
          | zero => simp only [List.getElem?_cons_zero, Option.some.injEq] at hu; subst hu; rw [Addr.add_lit]; exact h1
          | succ j => simp at hu
        have HNW := Lib.hid hnw; clear hnw
        have hzA : w.heap.size ≤ (A.alloc (.cells #[.int .u8 32] 5)).heap.size := by simp; omega
        clear hJ
        gi_wp2_with (gi_at_builtin; (refine wpListIn_appF rfl (.tmp 24) (.tmp 25) rfl w.heap.size va (prO pre) 32 rfl HOW.out ⟨A.heap.size, 0, none⟩ rfl HNW.out (by omega) hzA ?_); intro v5 A1 hO5 hg5; obtain ⟨A5, c5, rfl, _⟩ := hO5.sl; obtain ⟨hb5, hP5, hF5⟩ := HJ.out.out (x := (at0, r)) hg5 hO5 HM.out.1 HM.out.2; have n3 := hb5.cell; have n3' := hb5.frozen; have HP5 := Lib.hid hP5; have HF5 := Lib.hid hF5; clear hO5 hg5 hb5 hP5 hF5)
        simp only [List.length_append, List.length_singleton] at HP5 HF5
        exact ⟨by rw [hz3]; exact HF5.out, trivial, ⟨_, HP5.out⟩, HANY.out⟩
      | false =>
        gi_wp2
        refine ⟨trivial, (CallsIn.inRound k ((callsIn_wide (n := 7)).2 (isRemoved_any r A))).mono ?_⟩
        rintro e W' ⟨rfl, rfl⟩
        cases hgo : goB r with
        | true =>
          have hms : prS r = [] := by unfold prS; rw [hsp, hgo]; rfl
          have hno : noB r = false := by unfold noB; rw [hsp, hgo]; rfl
          gi_wp2
          exact ⟨KeepsFrom.refl _ _, trivial, ⟨va, HJ.out.gone hms hno⟩, HANY.out⟩
        | false =>
          gi_wp2
          refine ⟨trivial, (CallsIn.inRound k ((callsIn_wide (n := 7)).2 (isProhibited_any r A))).mono ?_⟩
          rintro e W' ⟨rfl, rfl⟩
          cases hba : baB r with
          | true =>
            have hms : prS r = [] := by unfold prS; rw [hsp, hgo, hba]; rfl
            have hno : noB r = true := by unfold noB; rw [hsp, hgo, hba]; rfl
            have c5 := hJ.be.cell
            have f5 := hJ.be.frozen
            obtain ⟨hP5, hF5⟩ := hJ.bad (x := (at0, r)) hms hno
            gi_wp2
            exact ⟨by rw [hz3]; exact hF5, trivial, ⟨va, hP5⟩, HANY.out⟩
          | false =>
            have hms : prS r = Lib.encodeRune r := by unfold prS; rw [hsp, hgo, hba]; rfl
            have hno : noB r = false := by unfold noB; rw [hsp, hgo, hba]; rfl
            have c4 := hJ.bt.cell
            have HAP := Lib.hid (Tryd.utf8_AppendRune_row w.heap.size va (prO pre).length ((prO pre).map vb) r (by omega) (by omega) A hJ.own (by omega) (by omega))
            gi_wp2
            refine ⟨trivial, (CallsIn.inRound k ((callsIn_wide (n := 7)).2 HAP.out)).mono ?_⟩
            rintro e A1 ⟨v5, rfl, hO5, o5, hg5⟩
            have hO6 : OwnF A1 w.heap.size v5 (prO pre ++ Lib.encodeRune r) := by
              unfold OwnF
              rw [List.length_append, ← Lib.runeCells_length, ← vb_cells]
              exact hO5
            obtain ⟨A5, c5, rfl, _⟩ := hO6.sl
            obtain ⟨hb5, hP5, hF5⟩ := hJ.out (x := (at0, r)) hg5 hO6 hms hno
            have n3 := hb5.cell
            have n3' := hb5.frozen
            have HP5 := Lib.hid hP5
            have HF5 := Lib.hid hF5
            clear hO5 hO6 hg5 hb5 hP5 hF5
            gi_wp2
            simp only [List.length_append] at HP5 HF5
            exact ⟨by rw [hz3]; exact HF5.out, trivial, ⟨_, HP5.out⟩, HANY.out⟩
end Go.Proofs.YtnfkkopegbeacaaDoor
