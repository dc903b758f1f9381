/- name: the law's signs: a text's, at most so many. -/
import Derived.Test.YtpphccjpdkcnmaaDoorRunesG
import Derived.Test.YtpphccjpdkcnmaaDoorNmSigns
import Derived.Test.YtpphccjpdkcnmaaDoorNmRefPrep
import Derived.Test.YtpphccjpdkcnmaaDoorKc
import Derived.Test.YtpphccjpdkcnmaaDoorRangeOw
namespace Go.Proofs.YtpphccjpdkcnmaaDoor
open Go.RowKit Go.Shelf
attribute [local go_sem] Oper.semAt_some
theorem wpListIn_appSg {F : Fence} {n : Nat} {w : World} {ops : Array Oper} {rest : List Oper} {o : Oper} {a : Act} {Q : Exit → Act → World → Prop} (hgd : o.guard = none) (s x : Operand) (ho : o.op = .call { callee := .builtin .append, args := #[s, x], argTypes := #[24, 24] })
    (base : Nat) (v : Value) (xs : List (Nat × Int)) (hs : a.eval s = v) (hown : OwnSg w base v xs) (gb : Nat) (q : Nat) (r : Int) (hx : a.eval x = .slice (some ⟨gb, 0, none⟩) 1 1)
    (hnew : w.heap[gb]? = some (.cells #[.int .i64 (q : Int), .int .i64 r] 27 (0, 0))) (hn : xs.length ≤ 1000) (hbase : base ≤ w.heap.size)
    (h : ∀ v' w', OwnSg w' base v' (xs ++ [(q, r)]) → w.grownBy w' v.ownBlock → wpListIn F n Tryd.prog ops Q rest (a.put o.dst v') w') : wpListIn F n Tryd.prog ops Q (o :: rest) a w := by
  obtain ⟨i0, hi, hz0, hz1, hz2⟩ := info_parts info_sg
  refine wpListIn_append_own w hgd s x 24 ho base 27 i0 (.agg #[.int .i64 0, .int .i64 0]) 2 16 Tryd.underlying24 hi hz0 hz1 hz2 rfl (by decide) v xs.length (sgc xs) hs hown ⟨gb, 0, none⟩ 1 1 [.int .i64 (q : Int), .int .i64 r] hx rfl (World.news_of_block hnew) (by simp [Value.oneCell']) (by unfold maxLen; omega) (by omega) hbase ?_
  intro v' w' h1 h2 _
  refine h v' w' ?_ h2
  unfold OwnSg
  rw [List.length_append, sgc_snoc]
  exact h1
/-- signs under way. -/
structure Sn (w : World) (L : List UInt8) (m : Nat) (pre : List (Nat × Int)) (va : Value) (A : World) : Prop where
  bm : Boxed A w.heap.size 3 (.int .i64 (m : Int))
  bo : Boxed A (w.heap.size + 1) 24 va
  own : OwnSg A w.heap.size va pre
  bs : Boxed A (w.heap.size + 2) 9 (str L)
  low : Below w.heap.size w A
  sz : w.heap.size + 3 ≤ A.heap.size
section
variable {w A B A1 : World} {L : List UInt8} {m : Nat} {pre : List (Nat × Int)} {va v1 : Value}
theorem Sn.ne (h : Sn w L m pre va A) {b : Nat} {t : TypeId} {u : Value} (hb : Boxed A b t u) (ht : 27 ≠ t) : some b ≠ va.ownBlock := fun e => apart_box h.own hb ht e.symm
theorem Sn.kc (h : Sn w L m pre va A) (hk : KC 0 A B) (hl : Below w.heap.size A B) : Sn w L m pre va B :=
  ⟨hk _ _ _ _ (Nat.zero_le _) h.bm, hk _ _ _ _ (Nat.zero_le _) h.bo, ownsRow_kc h.own (Nat.zero_le _) hk, hk _ _ _ _ (Nat.zero_le _) h.bs, h.low.trans hl, Nat.le_trans h.sz hl.size⟩
theorem Sn.below (h : Sn w L m pre va A) (hb : Below A.heap.size A B) : Sn w L m pre va B :=
  h.kc (fun k c t f _ ho => (hb.block k (Array.getElem?_eq_some_iff.1 ho).1).trans ho) (hb.mono (by have := h.sz; omega))
theorem Sn.put {l : Nat} {o o' : Obj} (h : Sn w L m pre va A) (hl : w.heap.size ≤ l) (ho : A.heap[l]? = some o) (hc : o.isCells = false) : Sn w L m pre va (A.putObj l o') :=
  h.kc (kc_putObj ho hc) (below_own (B := w.heap.size) (Nat.le_refl _) (by have := h.sz; omega) (grownBy_putObj' A l o') (fun r e => by cases e; exact ⟨hl, o, ho, hc⟩))
/-- One more sign. -/
theorem Sn.out {o : Obj} {x : Nat × Int} (h : Sn w L m pre va A) (hg : (A.alloc o).grownBy A1 va.ownBlock) (hv : OwnSg A1 w.heap.size v1 (pre ++ [x])) :
    Boxed A1 (w.heap.size + 1) 24 va ∧ Sn w L m (pre ++ [x]) v1 (A1.setCell ⟨w.heap.size + 1, 0, none⟩ v1) ∧ KeepsFrom (w.heap.size + 3) A (A1.setCell ⟨w.heap.size + 1, 0, none⟩ v1) := by
  have g0 := World.grownBy_alloc A o none
  have g1 := grown_set A1 ⟨w.heap.size + 1, 0, none⟩ v1
  have bo1 := (h.bo.alloc o).kept hg (h.ne h.bo (by decide))
  have bm1 := (h.bm.alloc o).kept hg (h.ne h.bm (by decide))
  have bs1 := (h.bs.alloc o).kept hg (h.ne h.bs (by decide))
  have hsz := h.sz
  have s0 := g0.size
  have s1 := hg.size
  have s2 := g1.size
  have lw : Below w.heap.size A A1 := ((Below.refl w.heap.size A).alloc (by omega) o).grown hg (by omega) (fun j e => (World.ownsRow.lt h.own j e).1)
  refine ⟨bo1, ⟨bm1.kept g1 (by simp), bo1.set v1, World.ownsRow.kept hv g1 (.inr (apart_box hv bo1 (by decide))), bs1.kept g1 (by simp), (h.low.trans lw).setCell (p := ⟨w.heap.size + 1, 0, none⟩) (by show w.heap.size ≤ w.heap.size + 1; omega) v1, by omega⟩, by omega, fun g ob hgl ho hc => ?_⟩
  have hk0 := (Array.getElem?_eq_some_iff.1 ho).1
  refine (g1.block g (by omega) (by simp; omega)).trans ((hg.block g (by omega) ?_).trans ((g0.block g hk0 (by simp)).trans ho))
  intro e
  rcases h.own.2 with ⟨h0, _⟩ | ⟨g', cap, cur, h0, _, hg', _⟩
  · rw [h0] at e; simp [Value.ownBlock] at e
  · rw [h0] at e
    have : g = g' := by simpa [Value.ownBlock] using e
    subst this
    rw [ho] at hg'; cases hg'; cases hc
end
theorem OwnSg.form {W : World} {base : Nat} {v : Value} {xs : List (Nat × Int)} (h : OwnSg W base v xs) : ∃ A c, v = .slice A xs.length c := by
  obtain ⟨h1, ⟨h2, h3⟩ | ⟨g, cap, cur, h0, hb, hg, h3⟩⟩ := id h
  · have hx : xs = [] := by
      first
        | exact List.eq_nil_of_length_eq_zero h3
        | exact List.eq_nil_of_length_eq_zero (by rw [sgc_len] at h1; omega)
    subst hx
    exact ⟨none, 0, h2⟩
  · exact ⟨_, cap, h0⟩
set_option maxRecDepth 100000 in
set_option maxHeartbeats 2000000 in
theorem signs_any (s : List UInt8) (m : Nat) (w : World) (hs : s.length ≤ 600) (hm : 1 ≤ m) (hm2 : m ≤ 1000) (hT : Lib.Utf8Tabs 0 1 w) :
    Calls Tryd.prog 12 #[str s, .int .i64 (m : Int)] w fun e w' => ∃ v', e = .returned v' ∧ OwnSg w' w.heap.size v' ((runesF s.length 0 s).take m) ∧ Below w.heap.size w w' := by
  have HT := Lib.hid hT; clear hT
  obtain ⟨R, hR⟩ : ∃ R, R = runesF s.length 0 s := ⟨_, rfl⟩
  rw [← hR]
  refine (callsIn_wide (n := 10)).1 ?_
  refine callsIn_of_wp_marks Tryd.func12 rfl trivial ?_ rfl
  simp only [Tryd.ntmps12, List.size_toArray, List.length_cons, List.length_nil, Nat.reduceAdd, Nat.reduceSub, Array.replicate_succ, Array.replicate_zero, List.push_toArray, List.append_toArray, List.nil_append, List.cons_append]
  gi_wp2
  refine ⟨trivial, (callsIn_wide.2 (runes_any s _)).mono ?_⟩
  rintro e W3 ⟨rfl, hW3⟩
  have hP : Sn w s m [] (.slice none 0 0) W3 := by
    have q1 := Boxed.new w 3 (.int .i64 (m : Int))
    have q2 := Boxed.new (w.alloc (.cells #[.int .i64 (m : Int)] 3)) 24 (.slice none 0 0)
    have q3 := Boxed.new ((w.alloc (.cells #[.int .i64 (m : Int)] 3)).alloc (.cells #[.slice none 0 0] 24)) 9 (str s)
    simp only [World.size_alloc] at q1 q2 q3
    rw [hW3]
    exact ⟨(q1.alloc _).alloc _, q2.alloc _, World.ownsRow_nil _ _ _ 2, q3, (((Below.refl _ w).alloc (Nat.le_refl _) _).alloc (by simp) _).alloc (by simp; omega) _, by simp⟩
  have hz3 : W3.heap.size = w.heap.size + 3 := by rw [hW3]; simp
  simp only [World.size_alloc, Nat.add_assoc, Nat.reduceAdd]
  clear hW3
  have HP := Lib.hid hP; clear hP
  have hlen := runesF_len s.length 0 s
  have hseq := runes1_g (10 - 1) (by omega) (w.heap.size + 2) s (by omega) W3
  unfold RuY at hseq
  rw [← hR] at hseq hlen
  have HSQ := Lib.hid hseq; clear hseq hR
  gi_wp2
  refine wpIn_rangeFunc_g rfl (by omega) (gf := rF) (lb := #[.pointer (some ⟨w.heap.size + 2, 0, none⟩)]) rfl trivial (fun _ _ => rfl) (encs := fun x : Nat × Int => #[.int .i64 (x.1 : Int), .int .i32 x.2]) StR (fun _ _ => True) (fun _ pre x _ => pre ++ [x] <+: R ∧ -1 ≤ x.2 ∧ x.2 ≤ 1114111) (fun ys => ys = R)
    (fun A => Boxed A (w.heap.size + 2) 9 (str s) ∧ Lib.Utf8Tabs 0 1 A)
    (fun pre A => (∃ va, Sn w s m pre va A) ∧ pre.length < m)
    (fun c pre A => c = .exit 0 ∧ (∃ va, Sn w s m pre va A) ∧ pre.length = m ∧ pre <+: R)
    HSQ.out (fun pre A h => by obtain ⟨⟨va, h⟩, _⟩ := h; exact ⟨h.bs, Utf8Tabs_below HT.out h.low⟩) (fun _ => rfl)
    (fun _ _ _ _ h _ hk => h.block _ hk) (fun _ _ _ h => h.size) (fun _ _ _ _ _ => trivial) (fun _ _ _ _ _ _ _ => trivial)
    (fun pre A B h hst => by obtain ⟨⟨va, h⟩, hn⟩ := h; exact ⟨⟨va, h.below hst⟩, hn⟩)
    (fun c pre A B h hst => by obtain ⟨e, ⟨va, h⟩, hn⟩ := h; exact ⟨e, ⟨va, h.below hst⟩, hn⟩)
    (fun pre A l o o' h hl ho hc => by obtain ⟨⟨va, h⟩, hn⟩ := h; exact ⟨⟨va, h.put (by omega) ho hc⟩, hn⟩)
    (fun c pre A l o o' h hl ho hc => by obtain ⟨e, ⟨va, h⟩, hn⟩ := h; exact ⟨e, ⟨va, h.put (by omega) ho hc⟩, hn⟩)
    (fun _ _ _ _ _ _ _ h _ _ _ => h)
    (fun W' hb hs => ⟨⟨_, HP.out.below hb⟩, by simp; omega⟩)
    (fun x a' => a' = { tmps := #[str s, .int .i64 (m : Int), undef, .pointer (some ⟨w.heap.size, 0, none⟩), .slice none 0 0, .pointer (some ⟨w.heap.size + 1, 0, none⟩), .int .i64 (x.1 : Int), .int .i32 x.2, str s,
        .func (.func rF) #[] #[.pointer (some ⟨w.heap.size + 2, 0, none⟩)], .int .i64 (x.1 : Int), .int .i32 x.2, undef, undef, undef, undef, undef, undef, undef, undef, undef, undef, undef, undef], defers := [] })
    ?assign ?body ?done ?stop
  case assign =>
    rintro k x A K hK
    have HK := Lib.hid hK; clear hK
    gi_wp2
    exact HK.out _ rfl
  case done =>
    rintro D xs A hD hz rfl ⟨⟨va, hJ⟩, hn⟩ hK
    have c4 := hJ.bo.cell
    have hJ2 := hJ.put (o' := .deferred none) (l := D) (by omega) hK rfl
    have htk : xs.take m = xs := List.take_of_length_le (by omega)
    have HTK := Lib.hid htk; clear htk
    have HJ2 := Lib.hid hJ2; clear hJ2
    gi_wp2
    show LeavesInM _ _ _ _ _ _ _ _ _
    refine ⟨by simp, .inl ⟨_, _, rfl, run_takeDeferred hK, ?_⟩⟩
    exact ⟨_, results_tmp rfl _ _ _, _, rfl, by rw [HTK.out]; exact HJ2.out.own, HJ2.out.low⟩
  case stop =>
    rintro D c pre A hD hz ⟨rfl, ⟨va, hJ⟩, hn, hpre⟩ hK
    have c4 := hJ.bo.cell
    have hJ2 := hJ.put (o' := .deferred none) (l := D) (by omega) hK rfl
    have htk : R.take m = pre := by rw [← hn]; exact (List.prefix_iff_eq_take.1 hpre).symm
    have HTK := Lib.hid htk; clear htk
    have HJ2 := Lib.hid hJ2; clear hJ2
    gi_wp2
    show LeavesInM _ _ _ _ _ _ _ _ _
    refine ⟨by simp, .inl ⟨_, _, rfl, run_takeDeferred hK, ?_⟩⟩
    exact ⟨_, results_tmp rfl _ _ _, _, rfl, by rw [HTK.out]; exact HJ2.out.own, HJ2.out.low⟩
  case body =>
    rintro k bb pre ⟨at0, r⟩ a' A hbb hbz ⟨⟨va, hJ⟩, hn⟩ ⟨hpre, hr1, hr2⟩ rfl
    simp only at hr1 hr2
    have hpl : (pre ++ [(at0, r)]).length ≤ R.length := hpre.length_le
    rw [List.length_append, List.length_singleton] at hpl
    have hz4 := hJ.sz
    have c4 := hJ.bo.cell
    have HJ := Lib.hid hJ
    have HPRE := Lib.hid hpre
    have hplen : pre.length ≤ 1000 := by omega
    have HOW := Lib.hid (hJ.own.below ((Below.refl A.heap.size A).alloc (Nat.le_refl _) (.cells #[.int .i64 (at0 : Int), .int .i64 r] 27)))
    have HNW := Lib.hid (heap_alloc_new A (.cells #[.int .i64 (at0 : Int), .int .i64 r] 27))
    have hzA : w.heap.size ≤ (A.alloc (.cells #[.int .i64 (at0 : Int), .int .i64 r] 27)).heap.size := by simp; omega
    have hKl : (pre ++ [(at0, r)]).length = pre.length + 1 := by rw [List.length_append]; rfl
    obtain ⟨N, hN⟩ : ∃ N, N = (pre ++ [(at0, r)]).length := ⟨_, rfl⟩
    have HN := Lib.hid hN
    clear hJ hpre hpl
    by_cases hNm : N = m
    · clear hKl hN
      subst hNm
      gi_wp2_with (gi_at_builtin; (refine wpListIn_appSg rfl (.tmp 12) (.tmp 17) rfl w.heap.size va pre rfl HOW.out A.heap.size at0 r rfl HNW.out hplen hzA ?_); intro v5 A1 hO5 hg5; obtain ⟨A5, c5, e5⟩ := hO5.form; rw [← HN.out] at e5; subst e5; obtain ⟨hb5, hP5, hF5⟩ := HJ.out.out (x := (at0, r)) hg5 hO5; have n3 := hb5.cell; have n3' := hb5.frozen; have n4 := hP5.bm.cell; have n5 := hP5.bo.cell; have HP5 := Lib.hid hP5; have HF5 := Lib.hid hF5; clear hO5 hg5 hb5 hP5 hF5)
      gi_wp2
      exact ⟨by rw [hz3]; exact HF5.out, rfl, ⟨_, HP5.out⟩, HN.out.symm, HPRE.out⟩
    · have hbe : ((N : Int) == (m : Int)) = false := by rw [beq_eq_false_iff_ne]; omega
      clear hKl hN
      gi_wp2_with (gi_at_builtin; (refine wpListIn_appSg rfl (.tmp 12) (.tmp 17) rfl w.heap.size va pre rfl HOW.out A.heap.size at0 r rfl HNW.out hplen hzA ?_); intro v5 A1 hO5 hg5; obtain ⟨A5, c5, e5⟩ := hO5.form; rw [← HN.out] at e5; subst e5; obtain ⟨hb5, hP5, hF5⟩ := HJ.out.out (x := (at0, r)) hg5 hO5; have n3 := hb5.cell; have n3' := hb5.frozen; have n4 := hP5.bm.cell; have n5 := hP5.bo.cell; have HP5 := Lib.hid hP5; have HF5 := Lib.hid hF5; clear hO5 hg5 hb5 hP5 hF5)
      gi_wp2
      exact ⟨by rw [hz3]; exact HF5.out, trivial, ⟨_, HP5.out⟩, by have := HN.out; rw [List.length_append, List.length_singleton] at this ⊢; omega⟩
end Go.Proofs.YtpphccjpdkcnmaaDoor
