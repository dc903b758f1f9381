/- nonce: the iterator over a table's copies, whatever the body keeps, if only the table's rows. nonce: Entries: the iterator over a Store's nonces. nonce: the law's entries: the first nonces of a Store in a row of its own. -/
import Derived.Test.YthpgdojjecdlcaaNnFr
import Derived.Test.YthpgdojjecdlcaaNnGv
set_option maxRecDepth 100000
namespace Go.Proofs.Ythpgdojjecdlcaa
open Go.RowKit Go.Shelf
attribute [local go_sem] Oper.semAt_some
theorem ownsRow_tE {A B : World} {base n z : Nat} {e : TypeId} {v : Value} {xs : List Value} (h : A.ownsRow base e z v n xs) (hk : ∀ (g : Nat) (c : Array Value) (f : Nat × Nat), A.heap[g]? = some (.cells c e f) → B.heap[g]? = some (.cells c e f)) : B.ownsRow base e z v n xs := by
  obtain ⟨h1, h2 | ⟨g, cp, cur, rfl, hbg, hg, h3⟩⟩ := h
  · exact ⟨h1, .inl h2⟩
  · exact ⟨h1, .inr ⟨g, cp, cur, rfl, hbg, hk _ _ _ hg, h3⟩⟩
set_option maxHeartbeats 2000000 in
theorem all1_k (Kp : World → World → Prop) (hKp : ∀ A B, Kp A B → ∀ (g : Nat) (c : Array Value) (f : Nat × Nat), A.heap[g]? = some (.cells c tE f) → B.heap[g]? = some (.cells c tE f)) (d : Nat) (hd0 : 1 ≤ d) (Bt T m cap : Nat) (xs : List Nd) (w : World) (h : Tb w T m cap xs) (hbx : Boxed w Bt 69 (tP T)) :
    SeqG Fence.wide d Try.prog aF #[.pointer (some ⟨Bt, 0, none⟩)] (fun x : List UInt8 × VT => #[strT x.1, vv x.2]) StR Kp (fun _ pre x _ => pre ++ [x] <+: tbs xs) (fun ys => ys = tbs xs) (fun _ => True) w := by
  intro l J Jx W hW hIn hJ hJx hY h0
  clear hIn hJx
  have hT := h.keep hW
  have hn4 : xs.length ≤ 4096 := by have := h.cnt; have := h.cap; omega
  have hB : Boxed W Bt 69 (tP T) := (hW.block _ hbx.lt).trans hbx
  have hc := hB.cell
  have hwz := hW.size
  have HY := Lib.hid hY; clear hY
  have HKp := Lib.hid hKp; clear hKp
  have hct := (callsIn_wide (n := d - 1)).2 (list_any hT)
  refine callsIn_of_wp Try.func58 rfl trivial ?_ rfl
  simp only [Try.ntmps58, List.size_toArray, List.length_cons, List.length_nil, Nat.reduceAdd, Nat.reduceSub, Array.replicate_succ, Array.replicate_zero, List.push_toArray, List.append_toArray, List.nil_append, List.cons_append]
  gi_wp2
  refine ⟨trivial, hct.mono ?_⟩
  rintro e w2 ⟨v, rfl, hrow, hb2⟩
  obtain ⟨As, cs, rfl, _, _⟩ := enRow_form hrow
  have hJ2 : J [] w2 := hJ [] W w2 h0 hb2
  have hz2 := hb2.size
  have HR := Lib.hid hrow
  clear hrow hct hB hc hT h0 hb2
  gi_wp2
  gi_loopw [8] (fun i wr => ∃ (j : Nat), j ≤ xs.length ∧ i = .int .i64 (j : Int) ∧ J ((tbs xs).take j) wr ∧ W.heap.size ≤ wr.heap.size ∧ wr.ownsRow W.heap.size tE 7 (.slice As xs.length cs) xs.length (rowC none xs none))
    (fun i _ => xs.length - (intOf i).toNat)
  case atStart => exact ⟨0, by omega, rfl, hJ2, hz2, HR.out⟩
  case round =>
    obtain ⟨j, hj, rfl, hJs, hzr, hrow⟩ := hrel
    have HJ := Lib.hid hJs; clear hJs
    by_cases hlt : j < xs.length
    · obtain ⟨g, hAs⟩ : ∃ g, As = some ⟨g, 0, none⟩ := by
        rcases hrow.2 with ⟨e, _⟩ | ⟨g, cap', cur, e, _⟩
        · injection e with _ e2 _; omega
        · injection e with e1 _ _; exact ⟨g, e1⟩
      subst hAs
      obtain ⟨O, N, hat⟩ := rowC_at xs none none j hlt
      obtain ⟨y, hy⟩ : ∃ y, y = xs[j] := ⟨_, rfl⟩
      rw [← hy] at hat
      have hcell : ∀ k, k < 7 → wr.cell? ⟨g, j * 7 + k, none⟩ = (ndC y O N)[k]? := fun k hk => (World.ownsRow.cellAt hrow (j * 7 + k) (by omega)).trans (hat k hk)
      have c0 : wr.cell? ⟨g, j * 7, none⟩ = some (strT y.key) := hcell 0 (by omega)
      have c1 : wr.cell? ⟨g, j * 7 + 1, none⟩ = some (strT y.v.s) := hcell 1 (by omega)
      have c2 : wr.cell? ⟨g, j * 7 + 2, none⟩ = some (.int .u64 y.v.a) := hcell 2 (by omega)
      have c3 : wr.cell? ⟨g, j * 7 + 3, none⟩ = some (.bool y.v.sp) := hcell 3 (by omega)
      have c4 : wr.cell? ⟨g, j * 7 + 4, none⟩ = some (.int .u32 y.v.ct) := hcell 4 (by omega)
      have c5 : wr.cell? ⟨g, j * 7 + 5, none⟩ = some (pt O) := hcell 5 (by omega)
      have c6 : wr.cell? ⟨g, j * 7 + 6, none⟩ = some (pt N) := hcell 6 (by omega)
      have htk : (tbs xs).take (j + 1) = (tbs xs).take j ++ [(y.key, y.v)] := by
        unfold tbs
        have hl : j < (xs.map fun x => (x.key, x.v)).length := by rw [List.length_map]; exact hlt
        rw [List.take_succ_eq_append_getElem hl, List.getElem_map, ← hy]
      have hpre : (tbs xs).take j ++ [(y.key, y.v)] <+: tbs xs := by rw [← htk]; exact List.take_prefix _ _
      obtain ⟨A2, hA2⟩ : ∃ A2, A2 = wr.alloc (.cells #[strT y.key, strT y.v.s, .int .u64 y.v.a, .bool y.v.sp, .int .u32 y.v.ct, pt O, pt N] tE) := ⟨_, rfl⟩
      have hBA : Below wr.heap.size wr A2 := by rw [hA2]; exact (Below.refl _ wr).alloc (Nat.le_refl _) _
      have hrowA := enRow_below hrow hBA
      have hzA := hBA.size
      obtain ⟨fn, tmps, assign, body, hyl, hR⟩ := HY.out ((tbs xs).take j) (y.key, y.v) A2 (hJ _ wr A2 HJ.out hBA) (by omega) hpre
      rw [hA2] at hyl
      unfold vv at hyl
      have HRA := Lib.hid hrowA
      have HTK := Lib.hid htk
      clear hat hy hcell hpre hrow htk hrowA hBA
      cases O <;> cases N
      all_goals
        simp only [pt_none, pt_some] at c5 c6 hyl hA2
        gi_wp2
        rw [hA2] at hR
        refine hR.mono ?_
        rw [← hA2]
        rintro e W3 (⟨rfl, hJ3, hz3, hk3, _⟩ | ⟨rfl, hJx3, _, _⟩)
        · have hr3 := ownsRow_tE HRA.out (HKp.out _ _ hk3)
          gi_wp2
          go_roundw
          case rel => exact ⟨j + 1, by omega, by go_num, by rw [HTK.out]; exact hJ3, by omega, hr3⟩
          case measure => simp [intOf]; omega
        · gi_wp2
          refine bodyPost_ret (results_none rfl _ _ _) rfl ?_
          exact ⟨⟨_, rfl⟩, .inr ⟨_, hJx3⟩⟩
    · have hjx : j = xs.length := by omega
      have hall : (tbs xs).take j = tbs xs := List.take_of_length_le (by unfold tbs; rw [List.length_map]; omega)
      rw [hall] at HJ
      gi_wp2
      go_end0
      exact ⟨⟨_, rfl⟩, .inl ⟨_, rfl, HJ.out⟩⟩
end Go.Proofs.Ythpgdojjecdlcaa
set_option maxRecDepth 100000
namespace Go.Proofs.Ythpgdojjecdlcaa
open Go.RowKit Go.Shelf
attribute [local go_sem] Oper.semAt_some
abbrev tNs : TypeId := 65
abbrev tYf : TypeId := 87
abbrev tPs : TypeId := 25
abbrev eF : Nat := 57
/-- All cells but those of entries and of slices of entries lie as they lay. -/
def KN (A B : World) : Prop := ∀ (k : Nat) (c : Array Value) (t : TypeId) (f : Nat × Nat), A.heap[k]? = some (.cells c t f) → t ≠ tNe → t ≠ tNs → B.heap[k]? = some (.cells c t f)
theorem KN.of_below {A B : World} (h : Below A.heap.size A B) : KN A B := fun k _ _ _ ho _ _ => (h.block k (Array.getElem?_eq_some_iff.1 ho).1).trans ho
theorem KN.trans {A B C : World} (h : KN A B) (k : KN B C) : KN A C := fun i c t f ho h1 h2 => k i c t f (h i c t f ho h1 h2) h1 h2
theorem KN.of_kc {A B : World} (h : KC 0 A B) : KN A B := fun k c t f ho _ _ => h k c t f (Nat.zero_le _) ho
theorem Boxed.kn {g : Nat} {A B : World} {t : TypeId} {v : Value} (h : Boxed A g t v) (hk : KN A B) (h1 : t ≠ tNe) (h2 : t ≠ tNs) : Boxed B g t v := hk _ _ _ _ h h1 h2
/-- Done above block b. -/
def StB (b : Nat) (A B : World) : Prop := ∃ row, A.grownBy B row ∧ ∀ r, row = some r → b ≤ r ∧ ∃ o : Obj, A.heap[r]? = some o ∧ o.isCells = false
theorem StB.put {b l : Nat} {A : World} {o o' : Obj} (hb : b ≤ l) (h : A.heap[l]? = some o) (hc : o.isCells = false) : StB b A (A.putObj l o') :=
  ⟨some l, grownBy_putObj' A l o', fun r e => by cases e; exact ⟨hb, o, h, hc⟩⟩
theorem StB.of_below {b B : Nat} {A W : World} (h : Below B A W) (hB : A.heap.size ≤ B) : StB b A W := ⟨none, grown_of_below (h.mono hB) none, fun r e => by cases e⟩
theorem StB.kc {b : Nat} {A B : World} (h : StB b A B) : KC 0 A B := by
  obtain ⟨row, hg, hr⟩ := h
  exact kc_own hg hr
theorem StB.size {b : Nat} {A B : World} (h : StB b A B) : A.heap.size ≤ B.heap.size := by
  obtain ⟨row, hg, hr⟩ := h
  exact hg.size
/-- A call of yield in a round of another loop. -/
theorem roundIn_in {m m' k : Nat} {P : Program} {l : Nat} {f : FuncId} {tmps : Array Value} {assign body : Code} {w : World} {R : Ending → World → Prop}
    (h : RoundIn Fence.wide m P l f tmps assign body w R) : RoundIn (Fence.wide.inRound k) m' P l f tmps assign body w R := ⟨h.1, fun c cs _ => h.2 c cs (fun d h => by cases h)⟩
theorem entries_any (S : Nat) (w : World) : Calls Try.prog 42 #[tP S] w fun e w' => e = .returned (.func (.func eF) #[] #[.pointer (some ⟨w.heap.size, 0, none⟩)]) ∧ w' = w.alloc (.cells #[tP S] tPs) := by
  have hmf : ∀ (fn : Fn) (first cap : Array Value) (w : World), (Instr.makeFunc fn first cap).run Try.prog w = .ok (.func fn first cap) w := fun _ _ _ _ => rfl
  go_enter Try.func42, Try.ntmps42
  go_wp2_with fail
  go_ret
  exact ⟨rfl, rfl⟩
set_option maxHeartbeats 4000000 in
theorem entries1_seq (d : Nat) (hd : 6 ≤ d) (Bx S T m cap : Nat) (f : NF) (xs : List Nd) (w : World) (h : Tb w T m cap xs) (hS : BlkT w S tSt (nfC f T)) (hbx : Boxed w Bx tPs (tP S)) :
    SeqG Fence.wide d Try.prog eF #[.pointer (some ⟨Bx, 0, none⟩)] (fun x : List UInt8 × VT => #[vv x.2]) StB KN (fun _ pre x _ => pre ++ [x] <+: tbs xs) (fun ys => ys = tbs xs) (fun _ => True) w := by
  intro l J Jx W hW hIn hJ hJx hY h0
  clear hIn
  have h1 : 1 ≤ d := by omega
  have hwW : w.heap.size ≤ W.heap.size := hW.size
  have hTW := h.keep hW
  have hSW : BlkT W S tSt (nfC f T) := hS.below hW hS.lt
  have hBW : Boxed W Bx tPs (tP S) := (hW.block _ hbx.lt).trans hbx
  have hSl := hSW.lt
  have hBl := hBW.lt
  have HY := Lib.hid hY; clear hY
  have HJ := Lib.hid hJ; clear hJ
  have HJx := Lib.hid hJx; clear hJx
  have H0 := Lib.hid h0; clear h0
  refine callsIn_of_wp_marks Try.func57 rfl trivial ?_ rfl
  simp only [Try.ntmps57, List.size_toArray, List.length_cons, List.length_nil, Nat.reduceAdd, Nat.reduceSub, Array.replicate_succ, Array.replicate_zero, List.push_toArray, List.append_toArray, List.nil_append, List.cons_append]
  have hB1 : Below W.heap.size W (W.alloc (.cells #[.func (.yield l) #[] #[]] tYf)) := (Below.refl _ W).alloc (Nat.le_refl _) _
  have c0 : (W.alloc (.cells #[.func (.yield l) #[] #[]] tYf)).cell? ⟨Bx, 0, none⟩ = some (tP S) := Boxed.cell ((hB1.block _ hBl).trans hBW)
  have c1 : (W.alloc (.cells #[.func (.yield l) #[] #[]] tYf)).cell? ⟨S, 1, none⟩ = some (tP T) := (hSW.below hB1 hSl).at rfl
  have HB1 := Lib.hid hB1
  have HT := Lib.hid hTW
  clear hB1 hTW hSW hBW h hS hbx hW
  gi_wp2
  refine ⟨trivial, (callsIn_wide.2 (all_any T _)).mono ?_⟩
  rintro e W2 ⟨rfl, hW2⟩
  have bxl : Boxed W2 W.heap.size tYf (.func (.yield l) #[] #[]) := by rw [hW2]; exact (Boxed.new W _ _).alloc _
  have bxw : Boxed W2 (W.heap.size + 1) 69 (tP T) := by
    have := Boxed.new (W.alloc (.cells #[.func (.yield l) #[] #[]] tYf)) 69 (tP T)
    rw [World.size_alloc] at this; rw [hW2]; exact this
  have hz2 : W2.heap.size = W.heap.size + 2 := by rw [hW2]; simp
  have hB2 : Below W.heap.size W W2 := by rw [hW2]; exact ((Below.refl _ _).alloc (Nat.le_refl _) _).alloc (by simp) _
  rw [World.size_alloc]
  clear hW2 c1 c0
  have HSQ := Lib.hid (all1_k KN (fun A B hk g c f' ho => hk _ _ _ _ ho (by decide) (by decide)) (d - 1) (by omega) (W.heap.size + 1) T m cap xs W2 (HT.out.keep hB2) bxw)
  have HL := Lib.hid bxl; clear bxl bxw
  have HB2 := Lib.hid hB2; clear hB2
  gi_wp2
  refine wpIn_rangeFunc_ga rfl h1 (gf := aF) (lb := #[.pointer (some ⟨W.heap.size + 1, 0, none⟩)]) rfl trivial (fun _ _ => rfl) (encs := fun x : List UInt8 × VT => #[strT x.1, vv x.2]) StR KN (fun _ pre x _ => pre ++ [x] <+: tbs xs) (fun ys => ys = tbs xs) (fun _ => True)
    (fun pre A => J pre A ∧ Boxed A W.heap.size tYf (.func (.yield l) #[] #[]) ∧ W2.heap.size ≤ A.heap.size)
    (fun c pre A => c = .ret ∧ Jx pre A)
    HSQ.out (fun _ _ _ => trivial) (fun _ => rfl)
    (fun _ _ _ _ h _ hk => h.block _ hk) (fun _ _ _ h => h.size) (fun _ _ _ h k => h.trans k) (fun _ _ _ _ _ h hc => KN.of_kc (kc_putObj h hc))
    (fun pre A B h hst => ⟨HJ.out _ _ _ h.1 (StB.of_below hst (Nat.le_refl _)), (hst.block _ h.2.1.lt).trans h.2.1, Nat.le_trans h.2.2 hst.size⟩)
    (fun c pre A B h hst => ⟨h.1, HJx.out _ _ _ h.2 (StB.of_below hst (Nat.le_refl _))⟩)
    (fun pre A k o o' h hl ho hc => ⟨HJ.out _ _ _ h.1 (StB.put (by omega) ho hc), kc_putObj (b := 0) ho hc _ _ _ _ (Nat.zero_le _) h.2.1, by simpa [World.putObj] using h.2.2⟩)
    (fun c pre A k o o' h hl ho hc => ⟨h.1, HJx.out _ _ _ h.2 (StB.put (by omega) ho hc)⟩)
    (fun _ _ _ _ _ _ _ h _ _ _ => h)
    (fun W' hb hs => ⟨HJ.out _ _ _ H0.out (StB.of_below (HB2.out.trans (hb.mono (by omega))) (Nat.le_refl _)), (hb.block _ HL.out.lt).trans HL.out, by omega⟩)
    (fun pre A B h _ hb => ⟨HJ.out _ _ _ h.1 (StB.of_below hb (Nat.le_refl _)), (hb.block _ h.2.1.lt).trans h.2.1, Nat.le_trans h.2.2 hb.size⟩)
    (fun _ _ _ _ _ h _ => h) (fun A B hb => KN.of_below hb)
    (fun x A a' V => V = A.alloc (.cells #[strT x.2.s, .int .u64 x.2.a, .bool x.2.sp, .int .u32 x.2.ct] tNe) ∧ a' = { tmps := #[Value.func (Fn.yield l) #[] #[], Value.pointer (some { block := Bx, off := 0 }), Value.pointer (some { block := W.heap.size, off := 0 }), undef, Value.pointer (some { block := A.heap.size, off := 0 }), tP S, Value.bool false, tP S, Value.pointer (some { block := S, off := 0 }), Value.pointer (some { block := S, off := 1 }), tP T, Value.func (Fn.func aF) #[] #[Value.pointer (some { block := W.heap.size + 1, off := 0 })], strT x.1, vv x.2, undef, undef, undef, undef], defers := [] })
    (fun x A a' V h => by rw [h.1]; exact (Below.refl _ A).alloc (Nat.le_refl _) _)
    ?assign ?body ?done ?stop
  case assign =>
    rintro k x A K hK
    have HK := Lib.hid hK; clear hK
    unfold vv
    gi_wp2
    exact HK.out _ _ ⟨rfl, rfl⟩
  case done =>
    rintro D ys A hD hz rfl ⟨hj, b1, hz3⟩ hK
    gi_wp2
    have hj5 := HJ.out _ _ _ hj (StB.put (o' := .deferred none) (show W.heap.size ≤ D by omega) hK rfl)
    refine ⟨by simp, .inl ⟨_, _, rfl, run_takeDeferred hK, ?_⟩⟩
    exact ⟨_, results_none rfl _ _ _, ⟨_, rfl⟩, .inl ⟨_, rfl, hj5⟩⟩
  case stop =>
    rintro D c pre A hD hz ⟨rfl, hj⟩ hK
    gi_wp2
    have hj5 := HJx.out _ _ _ hj (StB.put (o' := .deferred none) (show W.heap.size ≤ D by omega) hK rfl)
    refine ⟨by simp, .inl ⟨_, _, rfl, run_takeDeferred hK, ?_⟩⟩
    exact ⟨_, results_none rfl _ _ _, ⟨_, rfl⟩, .inr ⟨pre, hj5⟩⟩
  case body =>
    rintro k bb pre x a' A hbb hbz ⟨hj, b1, hz⟩ hpre ⟨A0, V, ⟨hV, rfl⟩, hkc, hA0⟩
    obtain ⟨P7, hP7⟩ : ∃ P7, P7 = A0.heap.size := ⟨_, rfl⟩
    have hbk : BlkT A P7 tNe [strT x.2.s, .int .u64 x.2.a, .bool x.2.sp, .int .u32 x.2.ct] := hkc _ _ _ _ (Nat.zero_le _) (by rw [hV, hP7]; exact heap_alloc_new A0 _)
    rw [← hP7]
    have e0 : A.cell? ⟨P7, 0, none⟩ = some (strT x.2.s) := hbk.at rfl
    have e1 : A.cell? ⟨P7, 1, none⟩ = some (.int .u64 x.2.a) := hbk.at rfl
    have e2 : A.cell? ⟨P7, 2, none⟩ = some (.bool x.2.sp) := hbk.at rfl
    have e3 : A.cell? ⟨P7, 3, none⟩ = some (.int .u32 x.2.ct) := hbk.at rfl
    have c2 := b1.cell
    obtain ⟨fn, tmps, assign, body, hyl, hR⟩ := HY.out pre x A hj (by omega) hpre
    have HB := Lib.hid b1
    clear hkc hV hbk hP7 hA0 hpre b1
    unfold vv at hyl ⊢
    gi_wp2
    refine ⟨fun h => (by cases h), (roundIn_in hR).mono ?_⟩
    rintro e W3 (⟨rfl, hJ3, hz3, hk3, hf3⟩ | ⟨rfl, hJx3, hz3, hf3⟩)
    · have HJ3 := Lib.hid hJ3; clear hJ3
      gi_wp2
      refine ⟨⟨by omega, fun g ob hg ho hc => hf3.same g ob (by omega) ho hc⟩, hk3, HJ3.out, Boxed.kn HB.out hk3 (by decide) (by decide), by omega⟩
    · have HJ3 := Lib.hid hJx3; clear hJx3
      gi_wp2
      exact ⟨⟨by omega, fun g ob hg ho hc => hf3.same g ob (by omega) ho hc⟩, rfl, HJ3.out⟩
end Go.Proofs.Ythpgdojjecdlcaa
set_option maxRecDepth 100000
namespace Go.Proofs.Ythpgdojjecdlcaa
open Go.RowKit Go.Shelf
attribute [local go_sem] Oper.semAt_some
theorem info_nn : (Try.prog.info? tNe).map (fun i => (i.zero, i.size, i.bytes)) = some (some (.agg #[.string ⟨#[]⟩, .int .u64 0, .bool false, .int .u32 0]), 4, 32) := by kernel_rfl
/-- The cells of entries in a row. -/
def neC (G : PLn) : List Value := G.flatMap fun q => [strT q.2.s, .int .u64 q.2.a, .bool q.2.sp, .int .u32 q.2.ct]
theorem neC_snoc (G : PLn) (q : List UInt8 × VT) : neC (G ++ [q]) = neC G ++ [strT q.2.s, .int .u64 q.2.a, .bool q.2.sp, .int .u32 q.2.ct] := by unfold neC; rw [List.flatMap_append]; simp
theorem neC_at : ∀ (G : PLn) (i : Nat) (h : i < G.length), (neC G)[i * 4]? = some (strT (G[i]).2.s) ∧ (neC G)[i * 4 + 1]? = some (.int .u64 (G[i]).2.a) ∧ (neC G)[i * 4 + 2]? = some (.bool (G[i]).2.sp) ∧ (neC G)[i * 4 + 3]? = some (.int .u32 (G[i]).2.ct)
  | [], i, h => by simp at h
  | q :: t, 0, _ => ⟨rfl, rfl, rfl, rfl⟩
  | q :: t, i + 1, h => by
    have := neC_at t i (by simpa using h)
    refine ⟨?_, ?_, ?_, ?_⟩
    · rw [show (i + 1) * 4 = i * 4 + 4 by omega]; exact this.1
    · rw [show (i + 1) * 4 + 1 = i * 4 + 1 + 4 by omega]; exact this.2.1
    · rw [show (i + 1) * 4 + 2 = i * 4 + 2 + 4 by omega]; exact this.2.2.1
    · rw [show (i + 1) * 4 + 3 = i * 4 + 3 + 4 by omega]; exact this.2.2.2
/-- A row of entries. -/
abbrev EN (w : World) (base : Nat) (v : Value) (l : PLn) : Prop := w.ownsRow base tNe 4 v l.length (neC l)
theorem EN.form {w : World} {base : Nat} {v : Value} {l : PLn} (h : EN w base v l) : ∃ A c, v = .slice A l.length c := by
  obtain ⟨A, c, e, _, _⟩ := enRow_form h
  exact ⟨A, c, e⟩
theorem EN.belowBase {w w' : World} {base : Nat} {v : Value} {l : PLn} (h : EN w base v l) (hg : w.grownBy w' v.ownBlock) (hb : base ≤ w.heap.size) : Below base w w' := by
  refine (Below.refl base w).grown hg hb (fun r e => ?_)
  rcases h.2 with ⟨h0, _⟩ | ⟨g, _, _, h0, hbg, _⟩
  · rw [h0] at e; simp [Value.ownBlock] at e
  · rw [h0] at e
    have : r = g := by simpa [Value.ownBlock] using e.symm
    omega
theorem wpListIn_app_en {F : Fence} {n : Nat} {w : World} {ops : Array Oper} {rest : List Oper} {o : Oper} {a : Act} {Q : Exit → Act → World → Prop} (hgd : o.guard = none) (s x : Operand) (ho : o.op = .call { callee := .builtin .append, args := #[s, x], argTypes := #[tNs, tNs] })
    (base : Nat) (v : Value) (l : PLn) (q : List UInt8 × VT) (hs : a.eval s = v) (hown : EN w base v l) (g : Nat) (hx : a.eval x = .slice (some ⟨g, 0, none⟩) 1 1)
    (hg : w.heap[g]? = some (.cells #[strT q.2.s, .int .u64 q.2.a, .bool q.2.sp, .int .u32 q.2.ct] tNe (0, 0))) (hlen : l.length ≤ 100000) (hbase : base ≤ w.heap.size)
    (h : ∀ v' w', EN w' base v' (l ++ [q]) → w.grownBy w' v.ownBlock → wpListIn F n Try.prog ops Q rest (a.put o.dst v') w') : wpListIn F n Try.prog ops Q (o :: rest) a w := by
  obtain ⟨i0, hi, hz0, hz1, hz2⟩ := info_parts info_nn
  refine wpListIn_append_own w hgd s x tNs ho base tNe i0 _ 4 32 Try.underlying65 hi hz0 hz1 hz2 rfl (by decide) v l.length (neC l) hs hown ⟨g, 0, none⟩ 1 1 [strT q.2.s, .int .u64 q.2.a, .bool q.2.sp, .int .u32 q.2.ct] hx rfl ?_ ?_ (by unfold maxLen; omega) (by omega) hbase (fun v' w' g1 g2 _ => h v' w' (by show w'.ownsRow base tNe 4 v' (l ++ [q]).length (neC (l ++ [q])); rw [neC_snoc, List.length_append]; exact g1) g2)
  · intro j u hu
    have hadd : (⟨g, 0, none⟩ : Addr).add j = ⟨g, j, none⟩ := by unfold Addr.add; split <;> simp_all
    rw [hadd]
    simpa [World.cell?, hg] using hu
  · intro u hu
    simp at hu
    rcases hu with rfl | rfl | rfl | rfl <;> rfl
/-- entries under way. -/
structure EnI (w : World) (most : Nat) (pre : PLn) (A : World) : Prop where
  bm : Boxed A w.heap.size 3 (.int .i64 (most : Int))
  bo : ∃ v, Boxed A (w.heap.size + 1) tNs v ∧ EN A w.heap.size v pre
  low : Below w.heap.size w A
theorem EnI.stb {w A B : World} {most b : Nat} {pre : PLn} (h : EnI w most pre A) (hs : StB b A B) (hb : w.heap.size ≤ b) : EnI w most pre B := by
  have hk := hs.kc
  obtain ⟨v, h1, h2⟩ := h.bo
  obtain ⟨row, hg, hr⟩ := hs
  exact ⟨hk _ _ _ _ (Nat.zero_le _) h.bm, ⟨v, hk _ _ _ _ (Nat.zero_le _) h1, ownsRow_tE h2 fun g c f ho => hk _ _ _ _ (Nat.zero_le _) ho⟩, h.low.grown hg h.low.size (fun r e => Nat.le_trans hb (hr r e).1)⟩
theorem EnI.below {w A B : World} {most : Nat} {pre : PLn} (h : EnI w most pre A) (hb : Below A.heap.size A B) : EnI w most pre B := h.stb (StB.of_below (b := A.heap.size) hb (Nat.le_refl _)) h.low.size
theorem EnI.put {w A : World} {most : Nat} {pre : PLn} (h : EnI w most pre A) {l : Nat} {o o' : Obj} (hl : w.heap.size ≤ l) (ho : A.heap[l]? = some o) (hc : o.isCells = false) : EnI w most pre (A.putObj l o') := h.stb (StB.put hl ho hc) (Nat.le_refl _)
theorem EnI.step {w A w1 : World} {most : Nat} {pre : PLn} {x : List UInt8 × VT} {v v' : Value} {o : Obj} (h : EnI w most pre A) (h1 : Boxed A (w.heap.size + 1) tNs v) (h2 : EN A w.heap.size v pre) (hv : EN w1 w.heap.size v' (pre ++ [x])) (hg : (A.alloc o).grownBy w1 v.ownBlock) (B : Nat) :
    Boxed w1 (w.heap.size + 1) tNs v ∧ Boxed w1 w.heap.size 3 (.int .i64 (most : Int)) ∧ EnI w most (pre ++ [x]) (w1.setCell ⟨w.heap.size + 1, 0, none⟩ v') ∧ KN A (w1.setCell ⟨w.heap.size + 1, 0, none⟩ v') ∧ KeepsFrom B A (w1.setCell ⟨w.heap.size + 1, 0, none⟩ v')
      ∧ Boxed (w1.setCell ⟨w.heap.size + 1, 0, none⟩ v') (w.heap.size + 1) tNs v' ∧ Boxed (w1.setCell ⟨w.heap.size + 1, 0, none⟩ v') w.heap.size 3 (.int .i64 (most : Int)) := by
  have n1 := apart_box h2 h1 (by decide)
  have n2 := apart_box h2 h.bm (by decide)
  have b1 : Boxed w1 (w.heap.size + 1) tNs v := (h1.alloc o).kept hg (fun e => n1 e.symm)
  have b2 : Boxed w1 w.heap.size 3 (.int .i64 (most : Int)) := (h.bm.alloc o).kept hg (fun e => n2 e.symm)
  have g1 := grown_set w1 ⟨w.heap.size + 1, 0, none⟩ v'
  have b3 : Boxed (w1.setCell ⟨w.heap.size + 1, 0, none⟩ v') w.heap.size 3 (.int .i64 (most : Int)) := b2.kept g1 (by simp)
  have hsz1 := hg.size
  have hszA : (A.alloc o).heap.size = A.heap.size + 1 := by simp
  have hbox : ∃ c, A.heap[w.heap.size + 1]? = some (Obj.cells c tNs (0, 0)) := ⟨_, h1⟩
  have hblk : ∀ (k : Nat) (ob : Obj), A.heap[k]? = some ob → (∀ c f, ob ≠ Obj.cells c tNe f) → (∀ c f, ob ≠ Obj.cells c tNs f) → (w1.setCell ⟨w.heap.size + 1, 0, none⟩ v').heap[k]? = some ob := by
    intro k ob ho c1 c2
    have hk := (Array.getElem?_eq_some_iff.1 ho).1
    have k1 : k ≠ w.heap.size + 1 := by
      rintro rfl
      obtain ⟨c, hc⟩ := hbox
      rw [ho] at hc
      exact c2 c (0, 0) (Option.some.inj hc)
    refine (g1.block k (by omega) (by simpa using k1)).trans ((hg.block k (by omega) (fun e => ?_)).trans ((Below.heap_alloc A o k hk).trans ho))
    rcases h2.2 with ⟨h0, _⟩ | ⟨g, _, _, h0, _, hg1, _⟩
    · rw [h0] at e; simp [Value.ownBlock] at e
    · rw [h0] at e
      have : k = g := by simpa [Value.ownBlock] using e
      subst this
      rw [ho] at hg1
      exact c1 _ _ (Option.some.inj hg1)
  refine ⟨b1, b2, ⟨b3, ⟨v', b1.set v', World.ownsRow.kept hv g1 (.inr (apart_box hv b1 (by decide)))⟩, ?_⟩, ?_, ?_, b1.set v', b3⟩
  · exact ((h.low.alloc h.low.size o).trans (EN.belowBase (enRow_below h2 ((Below.refl _ _).alloc (Nat.le_refl _) o)) hg (by have := h.low.size; omega))).setCell (p := ⟨w.heap.size + 1, 0, none⟩) (by show w.heap.size ≤ w.heap.size + 1; omega) v'
  · intro k c t f ho h1 h2
    exact hblk k _ ho (fun c' f' e => by cases e; exact h1 rfl) (fun c' f' e => by cases e; exact h2 rfl)
  · refine ⟨by have := g1.size; omega, fun k ob _ ho hc => hblk k ob ho (fun c' f' e => by subst e; cases hc) (fun c' f' e => by subst e; cases hc)⟩
set_option maxHeartbeats 4000000 in
theorem first_en {w : World} {base S T m cap : Nat} {f : NF} {l : PLn} (h : NS w base S T m cap f l) (most : Nat) (hm : 1 ≤ most) (hm2 : most ≤ 1000) :
    Calls Try.prog 22 #[tP S, .int .i64 (most : Int)] w fun e w' => ∃ v, e = .returned v ∧ EN w' w.heap.size v (l.take most) ∧ Below w.heap.size w w' := by
  have hSl := h.blk.lt
  refine (callsIn_wide (n := 12)).1 ?_
  refine callsIn_of_wp_marks Try.func22 rfl trivial ?_ rfl
  simp only [Try.ntmps22, List.size_toArray, List.length_cons, List.length_nil, Nat.reduceAdd, Nat.reduceSub, Array.replicate_succ, Array.replicate_zero, List.push_toArray, List.append_toArray, List.nil_append, List.cons_append]
  have H := Lib.hid h; clear h
  gi_wp2
  refine ⟨trivial, (callsIn_wide.2 (entries_any S _)).mono ?_⟩
  rintro e w3 ⟨rfl, hw3⟩
  have hB3 : Below w.heap.size w w3 := by rw [hw3]; exact (((Below.refl _ w).alloc (Nat.le_refl _) _).alloc (by simp) _).alloc (by simp; omega) _
  have hq : EnI w most [] w3 ∧ Boxed w3 (w.heap.size + 2) tPs (tP S) ∧ w3.heap.size = w.heap.size + 3 := by
    have q0 := Boxed.new w 3 (.int .i64 (most : Int))
    have q1 := Boxed.new (w.alloc (.cells #[.int .i64 (most : Int)] 3)) tNs (.slice none 0 0)
    have q2 := Boxed.new ((w.alloc (.cells #[.int .i64 (most : Int)] 3)).alloc (.cells #[.slice none 0 0] tNs)) tPs (tP S)
    simp only [World.size_alloc] at q1 q2
    refine ⟨⟨?_, ⟨.slice none 0 0, ?_, World.ownsRow_nil _ _ _ _⟩, hB3⟩, ?_, ?_⟩
    · rw [hw3]; exact (q0.alloc _).alloc _
    · rw [hw3]; exact q1.alloc _
    · rw [hw3]; exact q2
    · rw [hw3]; simp
  simp only [World.size_alloc, Nat.add_assoc, Nat.reduceAdd]
  clear hw3
  obtain ⟨hI, hb3, hz3⟩ := hq
  obtain ⟨xs, htb, hxl, -, -, -⟩ := (H.out.keep hB3).tb
  have hxl : l = tbs xs := hxl.symm
  subst hxl
  have hln : (tbs xs).length ≤ 4096 := by have := htb.cnt; have := htb.cap; unfold tbs; rw [List.length_map]; omega
  have HSQ := Lib.hid (entries1_seq 11 (by omega) (w.heap.size + 2) S T m cap f xs w3 htb ((H.out.keep hB3).blk) hb3)
  have HI := Lib.hid hI
  clear hI hb3 hB3 htb
  gi_wp2
  refine wpIn_rangeFunc_ga rfl (by omega) (gf := eF) (lb := #[.pointer (some ⟨w.heap.size + 2, 0, none⟩)]) rfl trivial (fun _ _ => rfl) (encs := fun x : List UInt8 × VT => #[vv x.2]) StB KN (fun _ pre x _ => pre ++ [x] <+: tbs xs) (fun ys => ys = tbs xs) (fun _ => True)
    (fun pre A => EnI w most pre A ∧ pre.length < most ∧ w3.heap.size ≤ A.heap.size) (fun c pre A => EnI w most pre A ∧ c = .exit 0 ∧ pre.length = most ∧ pre <+: tbs xs)
    HSQ.out (fun _ _ _ => trivial) (fun _ => rfl)
    (fun b A B k h hk hA => by
      obtain ⟨row, hg, hr⟩ := h
      exact hg.block k hA (fun e => by have := (hr k e.symm).1; omega)) (fun _ _ _ h => h.size) (fun _ _ _ h k => h.trans k) (fun _ _ _ _ _ h hc => KN.of_kc (kc_putObj h hc))
    (fun pre A B h hst => ⟨h.1.stb hst (by omega), h.2.1, Nat.le_trans h.2.2 hst.size⟩) (fun c pre A B h hst => ⟨h.1.stb hst (by omega), h.2⟩)
    (fun pre A l o o' h hl ho hc => ⟨h.1.put (by omega) ho hc, h.2.1, by simpa [World.putObj] using h.2.2⟩) (fun c pre A l o o' h hl ho hc => ⟨h.1.put (by omega) ho hc, h.2⟩)
    (fun _ _ _ _ _ _ _ h _ _ _ => h)
    (fun W' hb hs => ⟨HI.out.below hb, by simp; omega, by omega⟩)
    (fun pre A B h _ hb => ⟨h.1.below hb, h.2.1, Nat.le_trans h.2.2 hb.size⟩)
    (fun _ _ _ _ _ h _ => h) (fun A B hb => KN.of_below hb)
    (fun x A a' V => V = A.alloc (.cells #[strT x.2.s, .int .u64 x.2.a, .bool x.2.sp, .int .u32 x.2.ct] tNe) ∧ a' = { tmps := #[tP S, Value.int IntKind.i64 (most : Int), undef, Value.pointer (some { block := w.heap.size, off := 0 }), Value.slice none 0 0, Value.pointer (some { block := w.heap.size + 1, off := 0 }), Value.pointer (some { block := A.heap.size, off := 0 }), tP S, Value.func (Fn.func eF) #[] #[Value.pointer (some { block := w.heap.size + 2, off := 0 })], vv x.2, undef, undef, undef, undef, undef, undef, undef, undef, undef], defers := [] })
    (fun x A a' V h => by rw [h.1]; exact (Below.refl _ A).alloc (Nat.le_refl _) _)
    ?assign ?body ?done ?stop
  case assign =>
    rintro k x A K hK
    have HK := Lib.hid hK; clear hK
    unfold vv
    gi_wp2
    exact HK.out _ _ ⟨rfl, rfl⟩
  case done =>
    rintro D ys A hD hz rfl ⟨hJ, hpm, _⟩ hK
    obtain ⟨v, h1, h2⟩ := hJ.bo
    have c2 := h1.cell
    have hput := hJ.put (o' := .deferred none) (by omega) hK rfl
    gi_wp2
    refine ⟨by simp, .inl ⟨_, _, rfl, run_takeDeferred hK, ?_⟩⟩
    rw [List.take_of_length_le (by omega)]
    exact ⟨_, results_tmp rfl _ _ _, v, rfl, ownsRow_putObj h2 _ hK rfl, hput.low⟩
  case stop =>
    rintro D c pre A hD hz ⟨hJ, rfl, hpm, hpre⟩ hK
    obtain ⟨v, h1, h2⟩ := hJ.bo
    have c2 := h1.cell
    have hput := hJ.put (o' := .deferred none) (by omega) hK rfl
    have he : pre = (tbs xs).take most := by rw [← hpm]; exact List.prefix_iff_eq_take.1 hpre
    rw [he] at h2
    have H2 := Lib.hid h2
    have HPL := Lib.hid hput.low
    clear he h2 hput hpre hpm hJ h1
    gi_wp2
    refine ⟨by simp, .inl ⟨_, _, rfl, run_takeDeferred hK, ?_⟩⟩
    exact ⟨_, results_tmp rfl _ _ _, v, rfl, ownsRow_putObj H2.out _ hK rfl, HPL.out⟩
  case body =>
    rintro lp bb pre x a' A hbb hbz ⟨hJ, hpm, hz⟩ hpre ⟨A0, V, ⟨hV, rfl⟩, hkc, hA0⟩
    obtain ⟨P7, hP7⟩ : ∃ P7, P7 = A0.heap.size := ⟨_, rfl⟩
    have hbk : BlkT A P7 tNe [strT x.2.s, .int .u64 x.2.a, .bool x.2.sp, .int .u32 x.2.ct] := hkc _ _ _ _ (Nat.zero_le _) (by rw [hV, hP7]; exact heap_alloc_new A0 _)
    rw [← hP7]
    have e0 : A.cell? ⟨P7, 0, none⟩ = some (strT x.2.s) := hbk.at rfl
    have e1 : A.cell? ⟨P7, 1, none⟩ = some (.int .u64 x.2.a) := hbk.at rfl
    have e2 : A.cell? ⟨P7, 2, none⟩ = some (.bool x.2.sp) := hbk.at rfl
    have e3 : A.cell? ⟨P7, 3, none⟩ = some (.int .u32 x.2.ct) := hbk.at rfl
    obtain ⟨v, h1, h2⟩ := hJ.bo
    have c1 := h1.cell
    have HJ := Lib.hid hJ
    have H1 := Lib.hid h1
    have H2 := Lib.hid h2
    have HS := Lib.hid hJ.low.size
    have HPR := Lib.hid hpre
    clear hJ h1 h2 hkc hV hbk hP7 hA0 hpre
    unfold vv
    gi_wp2_with (gi_at_builtin; refine wpListIn_app_en rfl (.tmp 10) (.tmp 12) rfl w.heap.size v pre x rfl (enRow_below H2.out ((Below.refl _ _).alloc (Nat.le_refl _) _)) A.heap.size rfl (heap_alloc_new A _) (by omega) (by have := HS.out; simp; omega) ?_; intro v' w1 hv hg; have hst := EnI.step HJ.out H1.out H2.out hv hg w3.heap.size; have hps := hv.form; obtain ⟨A2, cp2, e2'⟩ := hps; rw [List.length_append, List.length_singleton] at e2'; subst e2'; have e11 := hst.1.cell; have e13 := hst.1.frozen; have e14 := hst.2.2.2.2.2.1.cell; have e15 := hst.2.2.2.2.2.2.cell; have HST := Lib.hid hst; clear hst hv hg)
    · have he : pre.length + 1 = most := by
        have h : ((pre.length : Int) + 1 == (most : Int)) = true := by assumption
        have := beq_iff_eq.1 h
        omega
      exact ⟨HST.out.2.2.2.2.1, HST.out.2.2.1, rfl, by rw [List.length_append, List.length_singleton]; exact he, HPR.out⟩
    · have he : pre.length + 1 ≠ most := by
        intro e
        have h : ((pre.length : Int) + 1 == (most : Int)) = false := by assumption
        have := beq_eq_false_iff_ne.1 h
        omega
      exact ⟨HST.out.2.2.2.2.1, HST.out.2.2.2.1, HST.out.2.2.1, by rw [List.length_append, List.length_singleton]; omega, Nat.le_trans hz HST.out.2.2.2.2.1.size⟩
end Go.Proofs.Ythpgdojjecdlcaa
