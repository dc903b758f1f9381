/- The law's row: all entries in a row of its own. -/
import Derived.Test.YtipgjpmaflcpkaaTeDo
import Derived.Test.YtipgjpmaflcpkaaRangeGa
set_option maxRecDepth 100000
namespace Go.Proofs.Ytipgjpmaflcpkaa
open Go.RowKit Go.Shelf
attribute [local go_sem] Oper.semAt_some
/-- Rows of entries of a table lie as they lay. -/
def KE (A B : World) : Prop := ∀ (k : Nat) (c : Array Value) (f : Nat × Nat), A.heap[k]? = some (Obj.cells c tE f) → B.heap[k]? = some (Obj.cells c tE f)
theorem KE.of_below {A B : World} (h : Below A.heap.size A B) : KE A B := by
  intro k _ _ ho
  exact (h.block k (Array.getElem?_eq_some_iff.1 ho).1).trans ho
theorem wpListIn_app_es {F : Fence} {n : Nat} {w : World} {ops : Array Oper} {rest : List Oper} {o : Oper} {a : Act} {Q : Exit → Act → World → Prop} (hgd : o.guard = none) (s x : Operand) (ho : o.op = .call { callee := .builtin .append, args := #[s, x], argTypes := #[tRs, tRs] })
    (base : Nat) (v : Value) (l ms : PL) (hs : a.eval s = v) (hown : ER w base v l) (g m c : Nat) (hx : a.eval x = .slice (some ⟨g, 0, none⟩) m c) (hm : ms.length = m) (hsrc : EsAt w g 0 ms)
    (hlen : l.length + ms.length ≤ 1000000) (hbase : base ≤ w.heap.size)
    (h : ∀ v' w', ER w' base v' (l ++ ms) → w.grownBy w' v.ownBlock → wpListIn F n Try.prog ops Q rest (a.put o.dst v') w') : wpListIn F n Try.prog ops Q (o :: rest) a w := by
  obtain ⟨i0, hi, hz0, hz1, hz2⟩ := info_parts info_re
  subst hm
  refine wpListIn_append_own w hgd s x tRs ho base tR i0 _ 2 24 Try.underlying29 hi hz0 hz1 hz2 rfl (by decide) v l.length (enC l) hs hown ⟨g, 0, none⟩ ms.length c (enC ms) hx (enC_length ms) ?_ (enC_one ms) (by unfold maxLen; omega) (by omega) hbase ?_
  · intro j u hu
    have hj : j < ms.length * 2 := by
      have := (List.getElem?_eq_some_iff.1 hu).1
      rwa [enC_length] at this
    rw [Addr.add_lit]
    obtain ⟨c1, c2⟩ := hsrc (j / 2) (by omega)
    obtain ⟨d1, d2⟩ := enC_at ms (j / 2) (by omega)
    rcases (show j = j / 2 * 2 ∨ j = j / 2 * 2 + 1 by omega) with e | e
    · rw [e] at hu ⊢
      rw [d1] at hu
      exact c1.trans hu
    · rw [e] at hu ⊢
      rw [d2] at hu
      rw [← Nat.add_assoc]
      exact c2.trans hu
  · intro v' w' k1 k2 _
    refine h v' w' ?_ k2
    show w'.ownsRow base tR 2 v' (l ++ ms).length (enC (l ++ ms))
    rw [List.length_append, enC_app]
    exact k1
theorem EsAt.one (w : World) (k : List UInt8) (v : Int) : EsAt (w.alloc (.cells #[strT k, .int .i64 v] tR)) w.heap.size 0 [(k, v)] := by
  have hb : BlkT (w.alloc (.cells #[strT k, .int .i64 v] tR)) w.heap.size tR [strT k, .int .i64 v] := heap_alloc_new w _
  intro j hj
  obtain rfl : j = 0 := by simpa using hj
  exact ⟨hb.at rfl, hb.at rfl⟩
/-- row under way. -/
structure RwI (w : World) (pre : PL) (A : World) : Prop where
  bm : Boxed A w.heap.size 3 (.int .i64 100000)
  bo : ∃ v, Boxed A (w.heap.size + 1) tRs v ∧ ER A w.heap.size v pre
  low : Below w.heap.size w A
theorem RwI.below {w A B : World} {pre : PL} (h : RwI w pre A) (hb : Below A.heap.size A B) : RwI w pre B := by
  obtain ⟨v, h1, h2⟩ := h.bo
  exact ⟨(hb.block _ h.bm.lt).trans h.bm, ⟨v, (hb.block _ h1.lt).trans h1, h2.below hb⟩, h.low.trans (hb.mono h.low.size)⟩
theorem RwI.put {w A : World} {pre : PL} (h : RwI w pre A) {l : Nat} {o o' : Obj} (hl : w.heap.size ≤ l) (ho : A.heap[l]? = some o) (hc : o.isCells = false) : RwI w pre (A.putObj l o') := by
  obtain ⟨v, h1, h2⟩ := h.bo
  have hk := kc_putObj (b := 0) (o' := o') ho hc
  refine ⟨hk _ _ _ _ (Nat.zero_le _) h.bm, ⟨v, hk _ _ _ _ (Nat.zero_le _) h1, ownsRow_putObj h2 o' ho hc⟩, ?_⟩
  exact below_putObj h.low h.low.size hl
theorem RwI.step {w A w1 : World} {pre : PL} {x : List UInt8 × VT} {v v' : Value} {o : Obj} (h : RwI w pre A) (h1 : Boxed A (w.heap.size + 1) tRs v) (h2 : ER A w.heap.size v pre) (hv : ER w1 w.heap.size v' (pre ++ [x])) (hg : (A.alloc o).grownBy w1 v.ownBlock) (B : Nat) :
    Boxed w1 (w.heap.size + 1) tRs v ∧ Boxed w1 w.heap.size 3 (.int .i64 100000) ∧ RwI w (pre ++ [x]) (w1.setCell ⟨w.heap.size + 1, 0, none⟩ v') ∧ KE A (w1.setCell ⟨w.heap.size + 1, 0, none⟩ v') ∧ KeepsFrom B A (w1.setCell ⟨w.heap.size + 1, 0, none⟩ v')
      ∧ Boxed (w1.setCell ⟨w.heap.size + 1, 0, none⟩ v') (w.heap.size + 1) tRs v' ∧ Boxed (w1.setCell ⟨w.heap.size + 1, 0, none⟩ v') w.heap.size 3 (.int .i64 100000) := by
  have n1 := apart_box h2 h1 (by decide)
  have n2 := apart_box h2 h.bm (by decide)
  have b1 : Boxed w1 (w.heap.size + 1) tRs v := (h1.alloc o).kept hg (fun e => n1 e.symm)
  have b2 : Boxed w1 w.heap.size 3 (.int .i64 100000) := (h.bm.alloc o).kept hg (fun e => n2 e.symm)
  have g1 := grown_set w1 ⟨w.heap.size + 1, 0, none⟩ v'
  have b3 : Boxed (w1.setCell ⟨w.heap.size + 1, 0, none⟩ v') w.heap.size 3 (.int .i64 100000) := b2.kept g1 (by simp)
  have hsz1 := hg.size
  have hszA : (A.alloc o).heap.size = A.heap.size + 1 := by simp
  have hbox : ∃ c, A.heap[w.heap.size + 1]? = some (Obj.cells c tRs (0, 0)) := ⟨_, h1⟩
  have hblk : ∀ (k : Nat) (ob : Obj), A.heap[k]? = some ob → (∀ c f, ob ≠ Obj.cells c tR f) → (∀ c f, ob ≠ Obj.cells c tRs f) → (w1.setCell ⟨w.heap.size + 1, 0, none⟩ v').heap[k]? = some ob := by
    intro k ob ho c1 c2
    have hk := (Array.getElem?_eq_some_iff.1 ho).1
    have k1 : k ≠ w.heap.size + 1 := by
      rintro rfl
      obtain ⟨c, hc⟩ := hbox
      rw [ho] at hc
      exact c2 c (0, 0) (Option.some.inj hc)
    refine (g1.block k (by omega) (by simpa using k1)).trans ((hg.block k (by omega) (fun e => ?_)).trans ((Below.heap_alloc A o k hk).trans ho))
    rcases h2.2 with ⟨h0, _⟩ | ⟨g, _, _, h0, _, hg1, _⟩
    · rw [h0] at e; simp [Value.ownBlock] at e
    · rw [h0] at e
      have : k = g := by simpa [Value.ownBlock] using e
      subst this
      rw [ho] at hg1
      exact c1 _ _ (Option.some.inj hg1)
  refine ⟨b1, b2, ⟨b3, ⟨v', b1.set v', World.ownsRow.kept hv g1 (.inr (apart_box hv b1 (by decide)))⟩, ?_⟩, ?_, ?_, b1.set v', b3⟩
  · exact ((h.low.alloc h.low.size o).trans ((h2.below ((Below.refl _ _).alloc (Nat.le_refl _) o)).belowBase hg (by have := h.low.size; omega))).setCell (p := ⟨w.heap.size + 1, 0, none⟩) (by show w.heap.size ≤ w.heap.size + 1; omega) v'
  · intro k c f ho
    exact hblk k _ ho (fun c' f' e => by cases e) (fun c' f' e => by cases e)
  · refine ⟨by have := g1.size; omega, fun k ob _ ho hc => hblk k ob ho (fun c' f' e => by subst e; cases hc) (fun c' f' e => by subst e; cases hc)⟩
set_option maxHeartbeats 4000000 in
theorem row_core {w : World} (Tv : Value) (l : PL) (hl : l.length ≤ 4096)
    (hall : ∀ W, Calls Try.prog 10 #[Tv] W fun e w' => e = .returned (.func (.func aF) #[] #[.pointer (some ⟨W.heap.size, 0, none⟩)]) ∧ w' = W.alloc (.cells #[Tv] 24))
    (hseq : ∀ W, Below w.heap.size w W → ∀ Bt, Boxed W Bt 24 Tv → SeqG Fence.wide 11 Try.prog aF #[.pointer (some ⟨Bt, 0, none⟩)] (fun x : List UInt8 × VT => #[strT x.1, vv x.2]) StR KE (fun _ pre x _ => pre ++ [x] <+: l) (fun ys => ys = l) (fun _ => True) W) :
    Calls Try.prog 29 #[Tv, .int .i64 100000] w fun e w' => ∃ v, e = .returned v ∧ ER w' w.heap.size v l ∧ Below w.heap.size w w' := by
  refine (callsIn_wide (n := 12)).1 ?_
  refine callsIn_of_wp_marks Try.func29 rfl trivial ?_ rfl
  simp only [Try.ntmps29, List.size_toArray, List.length_cons, List.length_nil, Nat.reduceAdd, Nat.reduceSub, Array.replicate_succ, Array.replicate_zero, List.push_toArray, List.append_toArray, List.nil_append, List.cons_append]
  gi_wp2
  refine ⟨trivial, (callsIn_wide.2 (hall _)).mono ?_⟩
  rintro e w3 ⟨rfl, hw3⟩
  have hB3 : Below w.heap.size w w3 := by rw [hw3]; exact (((Below.refl _ w).alloc (Nat.le_refl _) _).alloc (by simp) _).alloc (by simp; omega) _
  have hq : RwI w [] w3 ∧ Boxed w3 (w.heap.size + 2) 24 Tv ∧ w3.heap.size = w.heap.size + 3 := by
    have q0 := Boxed.new w 3 (.int .i64 100000)
    have q1 := Boxed.new (w.alloc (.cells #[.int .i64 100000] 3)) tRs (.slice none 0 0)
    have q2 := Boxed.new ((w.alloc (.cells #[.int .i64 100000] 3)).alloc (.cells #[.slice none 0 0] tRs)) 24 Tv
    simp only [World.size_alloc] at q1 q2
    refine ⟨⟨?_, ⟨.slice none 0 0, ?_, ER.nil _ _⟩, hB3⟩, ?_, ?_⟩
    · rw [hw3]; exact (q0.alloc _).alloc _
    · rw [hw3]; exact q1.alloc _
    · rw [hw3]; exact q2
    · rw [hw3]; simp
  simp only [World.size_alloc, Nat.add_assoc, Nat.reduceAdd]
  clear hw3
  obtain ⟨hI, hb3, hz3⟩ := hq
  have HSQ := Lib.hid (hseq w3 hB3 (w.heap.size + 2) hb3)
  have HI := Lib.hid hI
  clear hI hseq hall hb3 hB3
  gi_wp2
  refine wpIn_rangeFunc_g rfl (by omega) (gf := aF) (lb := #[.pointer (some ⟨w.heap.size + 2, 0, none⟩)]) rfl trivial (fun _ _ => rfl) (encs := fun x : List UInt8 × VT => #[strT x.1, vv x.2]) StR KE (fun _ pre x _ => pre ++ [x] <+: l) (fun ys => ys = l) (fun _ => True)
    (fun pre A => RwI w pre A) (fun _ _ _ => False)
    HSQ.out (fun _ _ _ => trivial) (fun _ => rfl)
    (fun _ _ _ _ h _ hk => h.block _ hk) (fun _ _ _ h => h.size) (fun _ _ _ h k => fun a b c d => k a b c (h a b c d)) (fun W l o o' _ h hc => fun k c f ho => kc_putObj (b := 0) h hc k c tE f (Nat.zero_le _) ho)
    (fun pre A B h hst => h.below hst) (fun _ _ _ _ h _ => h)
    (fun pre A l o o' h hl ho hc => h.put (by omega) ho hc) (fun _ _ _ _ _ _ h _ _ _ => h)
    (fun _ _ _ _ _ _ _ h _ _ _ => h)
    (fun W' hb hs => HI.out.below hb)
    (fun x a' => a' = { tmps := #[Tv, .int .i64 100000, undef, .pointer (some ⟨w.heap.size, 0, none⟩), .slice none 0 0, .pointer (some ⟨w.heap.size + 1, 0, none⟩), strT x.1, vv x.2, Tv, .func (.func aF) #[] #[.pointer (some ⟨w.heap.size + 2, 0, none⟩)], strT x.1, vv x.2, undef, undef, undef, undef, undef, undef, undef, undef, undef, undef, undef], defers := [] })
    ?assign ?body ?done ?stop
  case assign =>
    rintro k x A K hK
    have HK := Lib.hid hK; clear hK
    unfold vv
    gi_wp2
    exact HK.out _ rfl
  case stop => exact fun _ _ _ _ _ _ h => h.elim
  case done =>
    rintro D ys A hD hz rfl hJ hK
    obtain ⟨v, h1, h2⟩ := hJ.bo
    have c2 := h1.cell
    have hput := hJ.put (o' := .deferred none) (by omega) hK rfl
    gi_wp2
    refine ⟨by simp, .inl ⟨_, _, rfl, run_takeDeferred hK, ?_⟩⟩
    exact ⟨_, results_tmp rfl _ _ _, v, rfl, ownsRow_putObj h2 _ hK rfl, hput.low⟩
  case body =>
    rintro lp bb pre x a' A hbb hbz hJ hpre rfl
    have hpl : pre.length + 1 ≤ l.length := by have := hpre.length_le; rwa [List.length_append, List.length_singleton] at this
    obtain ⟨v, h1, h2⟩ := hJ.bo
    have c1 := h1.cell
    have hne : (((pre.length : Int) + 1) == 100000) = false := by rw [beq_eq_false_iff_ne]; omega
    have HJ := Lib.hid hJ
    have H1 := Lib.hid h1
    have H2 := Lib.hid h2
    have HS := Lib.hid hJ.low.size
    clear hJ h1 h2
    obtain ⟨xk, xv⟩ := x
    unfold vv
    gi_wp2_with (gi_at_builtin; refine wpListIn_app_es rfl (.tmp 12) (.tmp 16) rfl w.heap.size v pre [(xk, xv)] rfl (H2.out.below ((Below.refl _ _).alloc (Nat.le_refl _) _)) A.heap.size 1 1 rfl rfl (EsAt.one A xk xv) (by simp; omega) (by have := HS.out; simp; omega) ?_; intro v' w1 hv hg; have hst := RwI.step HJ.out H1.out H2.out hv hg w3.heap.size; have hps := hv.parts; obtain ⟨A2, cp2, e2, _⟩ := hps; rw [List.length_append, List.length_singleton] at e2; subst e2; have e1 := hst.1.cell; have e3 := hst.1.frozen; have e4 := hst.2.2.2.2.2.1.cell; have e5 := hst.2.2.2.2.2.2.cell; have HST := Lib.hid hst; clear hst hv hg)
    exact ⟨HST.out.2.2.2.2.1, HST.out.2.2.2.1, HST.out.2.2.1⟩
end Go.Proofs.Ytipgjpmaflcpkaa
