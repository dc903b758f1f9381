/- The law's lines: those of bytes, at most so many. -/
import Derived.Test.YtgipbkopndghdaaDoorHdLnS
import Derived.Test.YtgipbkopndghdaaDoorRangeOw
namespace Go.Proofs.YtgipbkopndghdaaDoor
open Go.RowKit Go.Shelf
attribute [local go_sem] Oper.semAt_some
/-- signs under way. -/
structure Lw (w : World) (L : List UInt8) (m : Nat) (pre : List (List UInt8 × Bool)) (va : Value) (A : World) : Prop where
  bm : Boxed A w.heap.size 3 (.int .i64 (m : Int))
  bo : Boxed A (w.heap.size + 1) 52 va
  own : OwnLn A w.heap.size va pre
  bs : Boxed A (w.heap.size + 2) 9 (str L)
  low : Below w.heap.size w A
  sz : w.heap.size + 3 ≤ A.heap.size
section
variable {w A B A1 : World} {L : List UInt8} {m : Nat} {pre : List (List UInt8 × Bool)} {va v1 : Value}
theorem Lw.ne (h : Lw w L m pre va A) {b : Nat} {t : TypeId} {u : Value} (hb : Boxed A b t u) (ht : 56 ≠ t) : some b ≠ va.ownBlock := fun e => apart_box h.own hb ht e.symm
theorem Lw.kc (h : Lw w L m pre va A) (hk : KC 0 A B) (hl : Below w.heap.size A B) : Lw w L m pre va B :=
  ⟨hk _ _ _ _ (Nat.zero_le _) h.bm, hk _ _ _ _ (Nat.zero_le _) h.bo, ownsRow_kc h.own (Nat.zero_le _) hk, hk _ _ _ _ (Nat.zero_le _) h.bs, h.low.trans hl, Nat.le_trans h.sz hl.size⟩
theorem Lw.below (h : Lw w L m pre va A) (hb : Below A.heap.size A B) : Lw w L m pre va B :=
  h.kc (fun k c t f _ ho => (hb.block k (Array.getElem?_eq_some_iff.1 ho).1).trans ho) (hb.mono (by have := h.sz; omega))
theorem Lw.put {l : Nat} {o o' : Obj} (h : Lw w L m pre va A) (hl : w.heap.size ≤ l) (ho : A.heap[l]? = some o) (hc : o.isCells = false) : Lw w L m pre va (A.putObj l o') :=
  h.kc (kc_putObj ho hc) (below_own (B := w.heap.size) (Nat.le_refl _) (by have := h.sz; omega) (grownBy_putObj' A l o') (fun r e => by cases e; exact ⟨hl, o, ho, hc⟩))
/-- One more sign. -/
theorem Lw.out {o : Obj} {x : List UInt8 × Bool} (h : Lw w L m pre va A) (hg : (A.alloc o).grownBy A1 va.ownBlock) (hv : OwnLn A1 w.heap.size v1 (pre ++ [x])) :
    Boxed A1 (w.heap.size + 1) 52 va ∧ Lw w L m (pre ++ [x]) v1 (A1.setCell ⟨w.heap.size + 1, 0, none⟩ v1) ∧ KeepsFrom (w.heap.size + 3) A (A1.setCell ⟨w.heap.size + 1, 0, none⟩ v1) := by
  have g0 := World.grownBy_alloc A o none
  have g1 := grown_set A1 ⟨w.heap.size + 1, 0, none⟩ v1
  have bo1 := (h.bo.alloc o).kept hg (h.ne h.bo (by decide))
  have bm1 := (h.bm.alloc o).kept hg (h.ne h.bm (by decide))
  have bs1 := (h.bs.alloc o).kept hg (h.ne h.bs (by decide))
  have hsz := h.sz
  have s0 := g0.size
  have s1 := hg.size
  have s2 := g1.size
  have lw : Below w.heap.size A A1 := ((Below.refl w.heap.size A).alloc (by omega) o).grown hg (by omega) (fun j e => (World.ownsRow.lt h.own j e).1)
  refine ⟨bo1, ⟨bm1.kept g1 (by simp), bo1.set v1, World.ownsRow.kept hv g1 (.inr (apart_box hv bo1 (by decide))), bs1.kept g1 (by simp), (h.low.trans lw).setCell (p := ⟨w.heap.size + 1, 0, none⟩) (by show w.heap.size ≤ w.heap.size + 1; omega) v1, by omega⟩, by omega, fun g ob hgl ho hc => ?_⟩
  have hk0 := (Array.getElem?_eq_some_iff.1 ho).1
  refine (g1.block g (by omega) (by simp; omega)).trans ((hg.block g (by omega) ?_).trans ((g0.block g hk0 (by simp)).trans ho))
  intro e
  rcases h.own.2 with ⟨h0, _⟩ | ⟨g', cap, cur, h0, _, hg', _⟩
  · rw [h0] at e; simp [Value.ownBlock] at e
  · rw [h0] at e
    have : g = g' := by simpa [Value.ownBlock] using e
    subst this
    rw [ho] at hg'; cases hg'; cases hc
end
set_option maxRecDepth 100000 in
set_option maxHeartbeats 2000000 in
theorem lines_any (B : Nat) (v : Value) (s : List UInt8) (m : Nat) (w : World) (hv : Sl w B v s) (hB : B ≤ w.heap.size) (hs : s.length ≤ 600) (hm : 1 ≤ m) (hm2 : m ≤ 1000) (hT : Env w) :
    Calls Tryd.prog 25 #[v, .int .i64 (m : Int)] w fun e w' => ∃ v', e = .returned v' ∧ OwnLn w' w.heap.size v' ((linesL s).take m) ∧ Below w.heap.size w w' := by
  have HT := Lib.hid hT; clear hT
  obtain ⟨R, hR⟩ : ∃ R, R = linesL s := ⟨_, rfl⟩
  rw [← hR]
  have HV := Lib.hid hv; clear hv
  obtain ⟨VA, VC, e0, hq⟩ := HV.out
  subst e0; clear hq
  refine (callsIn_wide (n := 10)).1 ?_
  refine callsIn_of_wp_marks Tryd.func25 rfl trivial ?_ rfl
  simp only [Tryd.ntmps25, List.size_toArray, List.length_cons, List.length_nil, Nat.reduceAdd, Nat.reduceSub, Array.replicate_succ, Array.replicate_zero, List.push_toArray, List.append_toArray, List.nil_append, List.cons_append]
  gi_wp2
  have hvl := (HV.out.below ((Below.refl w.heap.size w).alloc (Nat.le_refl _) (.cells #[.int .i64 (m : Int)] 3)) hB).below (((Below.refl _ (w.alloc (.cells #[.int .i64 (m : Int)] 3))).alloc (Nat.le_refl _) (.cells #[.slice none 0 0] 52))) (by simp; omega)
  have HHL := Lib.hid (hlines_any _ s B _ hvl); clear hvl
  refine ⟨trivial, (callsIn_wide.2 HHL.out).mono ?_⟩
  rintro e W3 ⟨rfl, hW3⟩
  clear HHL
  have hP : Lw w s m [] (.slice none 0 0) W3 := by
    have q1 := Boxed.new w 3 (.int .i64 (m : Int))
    have q2 := Boxed.new (w.alloc (.cells #[.int .i64 (m : Int)] 3)) 52 (.slice none 0 0)
    have q3 := Boxed.new ((w.alloc (.cells #[.int .i64 (m : Int)] 3)).alloc (.cells #[.slice none 0 0] 52)) 9 (str s)
    simp only [World.size_alloc] at q1 q2 q3
    rw [hW3]
    exact ⟨(q1.alloc _).alloc _, q2.alloc _, World.ownsRow_nil _ _ _ 2, q3, (((Below.refl _ w).alloc (Nat.le_refl _) _).alloc (by simp) _).alloc (by simp; omega) _, by simp⟩
  have hz3 : W3.heap.size = w.heap.size + 3 := by rw [hW3]; simp
  simp only [World.size_alloc, Nat.add_assoc, Nat.reduceAdd]
  clear hW3
  have HP := Lib.hid hP; clear hP
  have hlen := linesL_len s
  have hseq := lines1_g (10 - 1) (by omega) (w.heap.size + 2) s (by omega) W3
  unfold LnY at hseq
  rw [← hR] at hseq hlen
  have HSQ := Lib.hid hseq; clear hseq hR
  gi_wp2
  refine wpIn_rangeFunc_g rfl (by omega) (gf := lF) (lb := #[.pointer (some ⟨w.heap.size + 2, 0, none⟩)]) rfl trivial (fun _ _ => rfl) (encs := fun x : List UInt8 × Bool => #[str x.1, .bool x.2]) StL (fun _ _ => True) (fun _ pre x _ => pre ++ [x] <+: R) (fun ys => ys = R)
    (fun A => Boxed A (w.heap.size + 2) 9 (str s) ∧ Env A)
    (fun pre A => (∃ va, Lw w s m pre va A) ∧ pre.length < m)
    (fun c pre A => c = .exit 0 ∧ (∃ va, Lw w s m pre va A) ∧ pre.length = m ∧ pre <+: R)
    HSQ.out (fun pre A h => by obtain ⟨⟨va, h⟩, _⟩ := h; exact ⟨h.bs, HT.out.below h.low⟩) (fun _ => rfl)
    (fun _ _ _ _ h _ hk => h.block _ hk) (fun _ _ _ h => h.size) (fun _ _ _ _ _ => trivial) (fun _ _ _ _ _ _ _ => trivial)
    (fun pre A B h hst => by obtain ⟨⟨va, h⟩, hn⟩ := h; exact ⟨⟨va, h.below hst⟩, hn⟩)
    (fun c pre A B h hst => by obtain ⟨e, ⟨va, h⟩, hn⟩ := h; exact ⟨e, ⟨va, h.below hst⟩, hn⟩)
    (fun pre A l o o' h hl ho hc => by obtain ⟨⟨va, h⟩, hn⟩ := h; exact ⟨⟨va, h.put (by omega) ho hc⟩, hn⟩)
    (fun c pre A l o o' h hl ho hc => by obtain ⟨e, ⟨va, h⟩, hn⟩ := h; exact ⟨e, ⟨va, h.put (by omega) ho hc⟩, hn⟩)
    (fun _ _ _ _ _ _ _ h _ _ _ => h)
    (fun W' hb hs => ⟨⟨_, HP.out.below hb⟩, by simp; omega⟩)
    (fun x a' => a' = { tmps := #[.slice VA s.length VC, .int .i64 (m : Int), undef, .pointer (some ⟨w.heap.size, 0, none⟩), .slice none 0 0, .pointer (some ⟨w.heap.size + 1, 0, none⟩), str x.1, .bool x.2, .slice VA s.length VC,
        .func (.func lF) #[] #[.pointer (some ⟨w.heap.size + 2, 0, none⟩)], str x.1, .bool x.2, undef, undef, undef, undef, undef, undef, undef, undef, undef, undef, undef], defers := [] })
    ?assign ?body ?done ?stop
  case assign =>
    rintro k x A K hK
    have HK := Lib.hid hK; clear hK
    gi_wp2
    exact HK.out _ rfl
  case done =>
    rintro D xs A hD hz rfl ⟨⟨va, hJ⟩, hn⟩ hK
    have c4 := hJ.bo.cell
    have hJ2 := hJ.put (o' := .deferred none) (l := D) (by omega) hK rfl
    have htk : xs.take m = xs := List.take_of_length_le (by omega)
    have HTK := Lib.hid htk; clear htk
    have HJ2 := Lib.hid hJ2; clear hJ2
    gi_wp2
    show LeavesInM _ _ _ _ _ _ _ _ _
    refine ⟨by simp, .inl ⟨_, _, rfl, run_takeDeferred hK, ?_⟩⟩
    exact ⟨_, results_tmp rfl _ _ _, _, rfl, by rw [HTK.out]; exact HJ2.out.own, HJ2.out.low⟩
  case stop =>
    rintro D c pre A hD hz ⟨rfl, ⟨va, hJ⟩, hn, hpre⟩ hK
    have c4 := hJ.bo.cell
    have hJ2 := hJ.put (o' := .deferred none) (l := D) (by omega) hK rfl
    have htk : R.take m = pre := by rw [← hn]; exact (List.prefix_iff_eq_take.1 hpre).symm
    have HTK := Lib.hid htk; clear htk
    have HJ2 := Lib.hid hJ2; clear hJ2
    gi_wp2
    show LeavesInM _ _ _ _ _ _ _ _ _
    refine ⟨by simp, .inl ⟨_, _, rfl, run_takeDeferred hK, ?_⟩⟩
    exact ⟨_, results_tmp rfl _ _ _, _, rfl, by rw [HTK.out]; exact HJ2.out.own, HJ2.out.low⟩
  case body =>
    rintro k bb pre ⟨at0, r⟩ a' A hbb hbz ⟨⟨va, hJ⟩, hn⟩ hpre rfl
    have hpl : (pre ++ [(at0, r)]).length ≤ R.length := hpre.length_le
    rw [List.length_append, List.length_singleton] at hpl
    have hz4 := hJ.sz
    have c4 := hJ.bo.cell
    have HJ := Lib.hid hJ
    have HPRE := Lib.hid hpre
    have hplen : pre.length ≤ 1000 := by omega
    have HOW := Lib.hid (hJ.own.below ((Below.refl A.heap.size A).alloc (Nat.le_refl _) (.cells #[str at0, .bool r] 56)))
    have HNW := Lib.hid (heap_alloc_new A (.cells #[str at0, .bool r] 56))
    have hzA : w.heap.size ≤ (A.alloc (.cells #[str at0, .bool r] 56)).heap.size := by simp; omega
    have hKl : (pre ++ [(at0, r)]).length = pre.length + 1 := by rw [List.length_append]; rfl
    obtain ⟨N, hN⟩ : ∃ N, N = (pre ++ [(at0, r)]).length := ⟨_, rfl⟩
    have HN := Lib.hid hN
    clear hJ hpre hpl
    by_cases hNm : N = m
    · clear hKl hN
      subst hNm
      gi_wp2_with (gi_at_builtin; (refine wpListIn_appLn rfl (.tmp 12) (.tmp 16) rfl w.heap.size va pre rfl HOW.out A.heap.size at0 r rfl HNW.out hplen hzA ?_); intro v5 A1 hO5 hg5; obtain ⟨A5, c5, e5⟩ := hO5.form; rw [← HN.out] at e5; subst e5; obtain ⟨hb5, hP5, hF5⟩ := HJ.out.out (x := (at0, r)) hg5 hO5; have n3 := hb5.cell; have n3' := hb5.frozen; have n4 := hP5.bm.cell; have n5 := hP5.bo.cell; have HP5 := Lib.hid hP5; have HF5 := Lib.hid hF5; clear hO5 hg5 hb5 hP5 hF5)
      gi_wp2
      exact ⟨by rw [hz3]; exact HF5.out, rfl, ⟨_, HP5.out⟩, HN.out.symm, HPRE.out⟩
    · have hbe : ((N : Int) == (m : Int)) = false := by rw [beq_eq_false_iff_ne]; omega
      clear hKl hN
      gi_wp2_with (gi_at_builtin; (refine wpListIn_appLn rfl (.tmp 12) (.tmp 16) rfl w.heap.size va pre rfl HOW.out A.heap.size at0 r rfl HNW.out hplen hzA ?_); intro v5 A1 hO5 hg5; obtain ⟨A5, c5, e5⟩ := hO5.form; rw [← HN.out] at e5; subst e5; obtain ⟨hb5, hP5, hF5⟩ := HJ.out.out (x := (at0, r)) hg5 hO5; have n3 := hb5.cell; have n3' := hb5.frozen; have n4 := hP5.bm.cell; have n5 := hP5.bo.cell; have HP5 := Lib.hid hP5; have HF5 := Lib.hid hF5; clear hO5 hg5 hb5 hP5 hF5)
      gi_wp2
      exact ⟨by rw [hz3]; exact HF5.out, trivial, ⟨_, HP5.out⟩, by have := HN.out; rw [List.length_append, List.length_singleton] at this ⊢; omega⟩
end Go.Proofs.YtgipbkopndghdaaDoor
