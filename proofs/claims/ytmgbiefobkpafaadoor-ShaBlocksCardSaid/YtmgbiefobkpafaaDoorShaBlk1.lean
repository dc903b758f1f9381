/- What sha.Blocks tells: the iterator over the copies of the blocks. -/
import Derived.Test.YtmgbiefobkpafaaDoorShaBlk
namespace Go.Proofs.YtmgbiefobkpafaaDoor
open Go.RowKit Go.Shelf
attribute [local go_sem] Oper.semAt_some
/-- What is cells from block b on, bytes apart, lies as it lay. -/
def KT (b : Nat) (A B : World) : Prop := ∀ k c t f, b ≤ k → A.heap[k]? = some (.cells c t f) → t ≠ 5 → B.heap[k]? = some (.cells c t f)
/-- Done above block b. -/
def StB (b : Nat) (A B : World) : Prop := ∃ row, A.grownBy B row ∧ ∀ r, row = some r → b ≤ r ∧ ∃ o : Obj, A.heap[r]? = some o ∧ o.isCells = false
theorem StB.put {b l : Nat} {A : World} {o o' : Obj} (hb : b ≤ l) (h : A.heap[l]? = some o) (hc : o.isCells = false) : StB b A (A.putObj l o') :=
  ⟨some l, grownBy_putObj' A l o', fun r e => by cases e; exact ⟨hb, o, h, hc⟩⟩
theorem StB.of_below {b B : Nat} {A W : World} (h : Below B A W) (hB : A.heap.size ≤ B) : StB b A W := ⟨none, grown_of_below (h.mono hB) none, fun r e => by cases e⟩
theorem Boxed.kt {b g : Nat} {A B : World} {t : TypeId} {v : Value} (h : Boxed A g t v) (hk : KT b A B) (hb : b ≤ g) (ht : t ≠ 5) : Boxed B g t v := hk _ _ _ _ hb h ht
/-- A piece that was told: its slice, and its bytes. -/
abbrev Pc : Type := Value × List UInt8
abbrev gBk : Nat := 18
abbrev BkY (q : List UInt8) (b : Nat) (pre : List Pc) (x : Pc) (A : World) : Prop := OwnB A b x.1 x.2 ∧ x.2 = (q.drop (64 * pre.length)).take 64 ∧ pre.length < q.length / 64
theorem wpIn_wide {P : Program} {o : Oper} {Q : Exit → Act → World → Prop} {a : Act} {w : World} {K : Act → World → Prop} {n : Nat} (h : o.wp P a w K Q) : o.wpIn Fence.wide n P a w K Q := by
  refine ⟨fun _ _ => trivial, ?_⟩
  show o.uponIn _ _ _ _ _ _ ((o.semAt none a.eval).run P w)
  rw [Oper.semAt_none]
  unfold Oper.wp at h
  generalize (execOp a.eval o).run P w = r at h ⊢
  have hz : ∀ p : Prop, (Fence.wide.depth.isSome = true → p) := fun p hh => by simp [Fence.wide] at hh
  cases r with
  | ok x w' =>
    cases x with
    | enter f args => exact ⟨hz _, callsIn_wide.2 h⟩
    | row row args =>
      refine ⟨hz _, fun c cs _ => ?_⟩
      obtain ⟨v, w'', r, s⟩ := h c cs
      exact ⟨v, w'', r, stepsIn_wide.2 s⟩
    | _ => first | exact h | exact h.elim
  | halt x w' => cases x <;> first | exact h | exact h.elim
/-- append of bytes as one step of a region that draws, inside the wide fence. -/
theorem step_appIn {ops : Array Oper} {o : Oper} {a : Act} {w : World} {K : Act → World → Prop} {Q : Exit → Act → World → Prop} {E : Prop} {n : Nat}
    (hgd : o.guard = none) (s x : Operand) (ho : o.op = .call { callee := .builtin .append, args := #[s, x], argTypes := #[22, 22] })
    (base : Nat) (v : Value) (l ms : List UInt8) (hs : a.eval s = v) (hown : OwnB w base v l) (sb so m c : Nat) (hx : a.eval x = .slice (some ⟨sb, so, none⟩) m c) (hm : ms.length = m) (hsrc : Bs w sb so ms)
    (hlen : l.length + m ≤ 1099511627776) (hbase : base ≤ w.heap.size)
    (h : ∀ v' w', OwnB w' base v' (l ++ ms) → w.grownBy w' v.ownBlock → K (a.put o.dst v') w') : if Region.wanted o (yielded ops a.tmps) = true then Oper.wpIn Fence.wide n Tryd.prog o a w K Q else E := by
  have h := step_app (ops := ops) (Q := Q) (E := False) hgd s x ho base v l ms hs hown sb so m c hx hm hsrc hlen hbase h
  rw [if_pos (show Region.wanted o (yielded ops a.tmps) = true by simp [Region.wanted, hgd])] at h ⊢
  exact wpIn_wide h
set_option maxRecDepth 100000 in
set_option maxHeartbeats 2000000 in
theorem blocks1_seq (d : Nat) (hd : 6 ≤ d) (w : World) (bx b o cap : Nat) (q : List UInt8) (hbx : bx < w.heap.size) (hb : b < w.heap.size) (hq : q.length ≤ cap) (hcap : q.length ≤ 1000000 ∧ cap ≤ 9223372036854775807) :
    SeqG Fence.wide d Tryd.prog gBk #[.pointer (some ⟨bx, 0, none⟩)] (fun x : Pc => #[x.1]) StB (KT w.heap.size) (BkY q) (fun xs => xs.length = q.length / 64) (fun A => A.cell? ⟨bx, 0, none⟩ = some (.slice (some ⟨b, o, none⟩) q.length cap) ∧ Bs A b o q) w := by
  intro l J Jx W hW hIn hJ hJx hY h0
  have h1 : 1 ≤ d := by omega
  have h1' : 1 ≤ d - 1 := by omega
  have hwW : w.heap.size ≤ W.heap.size := hW.size
  obtain ⟨c0, _⟩ := hIn _ _ h0
  obtain ⟨n, hn⟩ : ∃ n, n = q.length := ⟨_, rfl⟩
  rw [← hn] at c0 hq hcap
  have HN := Lib.hid hn; clear hn
  have HY := Lib.hid hY; clear hY
  have HJ := Lib.hid hJ; clear hJ
  have HJx := Lib.hid hJx; clear hJx
  have HIn := Lib.hid hIn; clear hIn
  have H0 := Lib.hid h0; clear h0
  clear hW
  refine callsIn_of_wp_marks Tryd.func18 rfl trivial ?_ rfl
  simp only [Tryd.ntmps18, List.size_toArray, List.length_cons, List.length_nil, Nat.reduceAdd, Nat.reduceSub, Array.replicate_succ, Array.replicate_zero, List.push_toArray, List.append_toArray, List.nil_append, List.cons_append]
  have c1 : (W.alloc (.cells #[.func (.yield l) #[] #[]] 44)).cell? ⟨bx, 0, none⟩ = some (.slice (some ⟨b, o, none⟩) n cap) := by
    rw [← c0]; exact (((Below.refl W.heap.size W).alloc (Nat.le_refl _) _).cell (p := ⟨bx, 0, none⟩) (by show bx < _; omega))
  gi_wp2
  refine ⟨trivial, (whole_in Fence.wide _ trivial rfl _ _ _ _).mono ?_⟩
  rintro e W2 ⟨rfl, hW2⟩
  have bxl : Boxed W2 W.heap.size 44 (.func (.yield l) #[] #[]) := by rw [hW2]; exact (Boxed.new W _ _).alloc _
  have bxw : Boxed W2 (W.heap.size + 1) 22 (.slice (some ⟨b, o, none⟩) n cap) := by
    have := Boxed.new (W.alloc (.cells #[.func (.yield l) #[] #[]] 44)) 22 (.slice (some ⟨b, o, none⟩) n cap)
    rw [World.size_alloc] at this; rw [hW2]; exact this
  have hz2 : W2.heap.size = W.heap.size + 2 := by rw [hW2]; simp
  have hB2 : Below W.heap.size W W2 := by rw [hW2]; exact ((Below.refl _ _).alloc (Nat.le_refl _) _).alloc (by simp) _
  rw [World.size_alloc]
  clear hW2 c1 c0
  have HL := Lib.hid bxl; clear bxl
  have HWB := Lib.hid bxw; clear bxw
  have HB2 := Lib.hid hB2; clear hB2
  gi_wp2
  refine wpIn_rangeFunc_g rfl h1 (gf := gWh) (lb := #[.pointer (some ⟨W.heap.size + 1, 0, none⟩)]) rfl trivial (fun _ _ => rfl) (encs := fun j : Nat => #[blk b o j]) (fun _ _ _ => False) (fun _ _ => True) (fun _ pre x _ => x = pre.length ∧ pre.length < n / 64) (fun xs => xs.length = n / 64) (fun A => A.cell? ⟨W.heap.size + 1, 0, none⟩ = some (.slice (some ⟨b, o, none⟩) n cap))
    (fun pre A => ∃ opre : List Pc, opre.length = pre.length ∧ J opre A ∧ Boxed A W.heap.size 44 (.func (.yield l) #[] #[]) ∧ Boxed A (W.heap.size + 1) 22 (.slice (some ⟨b, o, none⟩) n cap) ∧ W2.heap.size ≤ A.heap.size)
    (fun c _ A => c = .ret ∧ ∃ opre, Jx opre A)
    (whole1_g Fence.wide (d - 1) trivial rfl (by omega) (W.heap.size + 1) b o n cap hq ⟨by omega, hcap.2⟩ W2)
    (fun pre A h => by obtain ⟨_, _, _, _, h, _⟩ := h; exact h.cell) (fun _ => rfl)
    (fun _ _ _ _ h => h.elim) (fun _ _ _ h => h.elim) (fun _ _ _ _ _ => trivial) (fun _ _ _ _ _ _ _ => trivial)
    (fun _ _ _ _ h => h.elim) (fun _ _ _ _ _ h => h.elim)
    (fun pre A k o1 o2 h hl ho hc => by
      obtain ⟨opre, e, hj, b1, b2, hz⟩ := h
      exact ⟨opre, e, HJ.out _ _ _ hj (StB.put (by omega) ho hc), b1.kept (grownBy_putObj' A k o2) (by intro e; cases e; omega), b2.kept (grownBy_putObj' A k o2) (by intro e; cases e; omega), by simpa [World.putObj] using hz⟩)
    (fun c pre A k o1 o2 h hl ho hc => ⟨h.1, h.2.elim fun opre hj => ⟨opre, HJx.out _ _ _ hj (StB.put (by omega) ho hc)⟩⟩)
    (fun _ _ _ _ _ _ _ h _ _ _ => h)
    (fun W' hb hs => ⟨[], rfl, HJ.out _ _ _ H0.out (StB.of_below (HB2.out.trans (hb.mono (by omega))) (Nat.le_refl _)), (hb.block _ HL.out.lt).trans HL.out, (hb.block _ HWB.out.lt).trans HWB.out, by omega⟩)
    (fun j a' => a' = { tmps := #[Value.func (Fn.yield l) #[] #[], Value.pointer (some { block := bx, off := 0 }), Value.pointer (some { block := W.heap.size, off := 0 }), blk b o j, Value.slice (some { block := b, off := o }) n cap,
        Value.func (Fn.func gWh) #[] #[Value.pointer (some { block := W.heap.size + 1, off := 0 })], blk b o j, undef, undef, undef, undef, undef, undef], defers := [] })
    ?assign ?body ?done ?stop
  case assign =>
    rintro k x A K hK
    have HK := Lib.hid hK; clear hK
    gi_wp2
    exact HK.out _ rfl
  case done =>
    rintro D xs A hD hz hxs ⟨opre, hlen, hj, b1, b2, hz3⟩ hK
    gi_wp2
    have hj5 := HJ.out _ _ _ hj (StB.put (o' := .deferred none) (show W.heap.size ≤ D by omega) hK rfl)
    refine ⟨by simp, .inl ⟨_, _, rfl, run_takeDeferred hK, ?_⟩⟩
    exact ⟨_, results_none rfl _ _ _, ⟨_, rfl⟩, .inl ⟨opre, by rw [hlen, hxs, HN.out], hj5⟩⟩
  case stop =>
    rintro D c pre A hD hz ⟨rfl, opre, hj⟩ hK
    gi_wp2
    have hj5 := HJx.out _ _ _ hj (StB.put (o' := .deferred none) (show W.heap.size ≤ D by omega) hK rfl)
    refine ⟨by simp, .inl ⟨_, _, rfl, run_takeDeferred hK, ?_⟩⟩
    exact ⟨_, results_none rfl _ _ _, ⟨_, rfl⟩, .inr ⟨opre, hj5⟩⟩
  case body =>
    rintro k bb pre j a' A hbb hbz ⟨opre, hlen, hj, b1, b2, hz⟩ ⟨rfl, hlt⟩ rfl
    have hms : ((q.drop (64 * opre.length)).take 64).length = 64 := by rw [List.length_take, List.length_drop, hlen, ← HN.out]; omega
    have hbs := (((HIn.out _ _ hj).2.drop (64 * opre.length)).take 64)
    obtain ⟨ms, hmse⟩ : ∃ ms, ms = (q.drop (64 * opre.length)).take 64 := ⟨_, rfl⟩
    rw [← hmse] at hms hbs
    rw [hlen] at hbs
    have c2 := b1.cell
    have hJd : ∀ W5, Below A.heap.size A W5 → J opre W5 := fun W5 h => HJ.out _ _ _ hj (StB.of_below (h.mono (Nat.le_refl _)) (Nat.le_refl _))
    have HJD := Lib.hid hJd; clear hJd
    have hbl : b < A.heap.size := by omega
    have hbs1 : Bs ((A.alloc (.cells (noughts 64) 5)).drew) b (o + 64 * pre.length) ms := hbs.below (((Below.refl A.heap.size A).drew).alloc (Nat.le_refl _) _) hbl
    have ho1 : OwnB ((A.alloc (.cells (noughts 64) 5)).drew) A.heap.size (.slice (some ⟨A.heap.size, 0, none⟩) 0 64) [] := OwnB.of_heap (Nat.le_refl _) (heap_alloc_new A.drew _) (noughts_size _) (by unfold maxLen; omega) rfl (by simp) (by omega)
    have HBS := Lib.hid hbs1; clear hbs1 hbs
    have HO1 := Lib.hid ho1; clear ho1
    have hmk : ∀ W : World, (Instr.makeSlice 22 (.int .i64 0) (.int .i64 64)).run Tryd.prog W = .ok (.slice (some ⟨W.heap.size, 0, none⟩) 0 64) (W.alloc (.cells (noughts 64) 5)) := fun W => make_bytes 0 64 (by omega) (by omega) W
    gi_wp2
    refine wpIn_region_any_r rfl (by kernel_rfl) (by kernel_rfl) ?_
    refine wpAnyIn_take (i := 2) (v := blk b o pre.length) rfl rfl (by kernel_rfl) (by kernel_rfl) (by kernel_rfl) (fun _ _ _ h => h) ⟨Or.inl ⟨by rfl, fun w => by go_simp⟩, fun _ => rfl⟩ ?_
    go_frame
    have c2d : A.drew.cell? ⟨W.heap.size, 0, none⟩ = some (.func (.yield l) #[] #[]) := c2
    have mk := hmk A.drew
    refine wpAnyIn_ready (rs := [0, 1]) (by kernel_rfl) (by simp) ?_
    have hA1 : Below A.heap.size A ((A.alloc (.cells (noughts 64) 5)).drew) := ((Below.refl A.heap.size A).drew).alloc (Nat.le_refl _) _
    have HA1 := Lib.hid hA1; clear hA1
    refine AllReadyIn.cons rfl (fun K hK => ?_) ?_
    · go_simp
      refine hK _ _ ?_; clear hK K
      refine wpAnyIn_ready (rs := [1]) (by kernel_rfl) (by simp) (AllReadyIn.cons rfl (fun K hK => ?_) AllReadyIn.nil)
      go_simp
      refine hK _ _ ?_; clear hK K
      refine wpAnyIn_ready (rs := [3]) (by kernel_rfl) (by simp) (AllReadyIn.cons rfl (fun K hK => ?_) AllReadyIn.nil)
      refine step_appIn rfl (.tmp 8) (.tmp 9) rfl A.heap.size (.slice (some ⟨A.heap.size, 0, none⟩) 0 64) [] ms rfl HO1.out b (o + 64 * pre.length) 64 64 rfl hms HBS.out (by simp) HA1.out.size ?_
      intro v5 W5 hO5 hg5
      rw [List.nil_append] at hO5
      have hB5 := HA1.out.trans (HO1.out.belowBase hg5 HA1.out.size)
      refine hK _ _ ?_; clear hK K hg5
      have c5 : W5.cell? ⟨W.heap.size, 0, none⟩ = some (.func (.yield l) #[] #[]) := (hB5.cell (p := ⟨W.heap.size, 0, none⟩) (by show W.heap.size < A.heap.size; omega)).trans c2
      have hz5 := hB5.size
      have b15 : Boxed W5 W.heap.size 44 (.func (.yield l) #[] #[]) := (hB5.block _ b1.lt).trans b1
      have b25 : Boxed W5 (W.heap.size + 1) 22 (.slice (some ⟨b, o, none⟩) n cap) := (hB5.block _ b2.lt).trans b2
      obtain ⟨fn, tmps, assign, body, hy, hR⟩ := HY.out opre (v5, ms) W5 (HJD.out _ hB5) (by omega) ⟨hO5.lower (by omega), hmse, by rw [hlen, ← HN.out]; exact hlt⟩
      try go_frame
      refine wpAnyIn_ready (rs := [4]) (by kernel_rfl) (by simp) (AllReadyIn.cons rfl (fun K hK => ?_) AllReadyIn.nil)
      go_simp
      refine ⟨fun h => (by cases h), (roundIn_wide hR).mono ?_⟩
      rintro e W3 (⟨rfl, hJ3, hz3, hk3, hf3⟩ | ⟨rfl, hJx3, hz3, hf3⟩)
      · refine hK _ _ ?_; clear hK K
        refine wpAnyIn_ready (rs := [5]) (by kernel_rfl) (by simp) (AllReadyIn.cons rfl (fun K hK => ?_) AllReadyIn.nil)
        go_simp
        refine hK _ _ ?_; clear hK K
        refine wpAnyIn_done (by kernel_rfl) ?_ _
        have HJ3 := Lib.hid hJ3; clear hJ3
        gi_wp2
        refine ⟨⟨by omega, fun g ob hg ho hc => hf3.same g ob (by omega) ((hB5.block g (Array.getElem?_eq_some_iff.1 ho).1).trans ho) hc⟩, trivial, opre ++ [(v5, ms)], by simp [hlen], HJ3.out, Boxed.kt b15 hk3 hwW (by decide), Boxed.kt b25 hk3 (by omega) (by decide), by omega⟩
      · refine hK _ _ ?_; clear hK K
        refine wpAnyIn_ready (rs := [5]) (by kernel_rfl) (by simp) (AllReadyIn.cons rfl (fun K hK => ?_) AllReadyIn.nil)
        go_simp
        refine hK _ _ ?_; clear hK K
        refine wpAnyIn_done (by kernel_rfl) ?_ _
        have HJ3 := Lib.hid hJx3; clear hJx3
        gi_wp2
        exact ⟨⟨by omega, fun g ob hg ho hc => hf3.same g ob (by omega) ((hB5.block g (Array.getElem?_eq_some_iff.1 ho).1).trans ho) hc⟩, rfl, _, HJ3.out⟩
    refine AllReadyIn.cons rfl (fun K hK => ?_) AllReadyIn.nil
    go_simp
    refine hK _ _ ?_; clear hK K
    have c2e : (A.alloc (.cells (noughts 64) 5)).drew.cell? ⟨W.heap.size, 0, none⟩ = some (.func (.yield l) #[] #[]) := (HA1.out.cell (p := ⟨W.heap.size, 0, none⟩) (by show W.heap.size < A.heap.size; omega)).trans c2
    refine wpAnyIn_ready (rs := [0, 3]) (by kernel_rfl) (by simp) ?_
    refine AllReadyIn.cons rfl (fun K hK => ?_) ?_
    · go_simp
      refine hK _ _ ?_; clear hK K
      refine wpAnyIn_ready (rs := [3]) (by kernel_rfl) (by simp) (AllReadyIn.cons rfl (fun K hK => ?_) AllReadyIn.nil)
      refine step_appIn rfl (.tmp 8) (.tmp 9) rfl A.heap.size (.slice (some ⟨A.heap.size, 0, none⟩) 0 64) [] ms rfl HO1.out b (o + 64 * pre.length) 64 64 rfl hms HBS.out (by simp) HA1.out.size ?_
      intro v5 W5 hO5 hg5
      rw [List.nil_append] at hO5
      have hB5 := HA1.out.trans (HO1.out.belowBase hg5 HA1.out.size)
      refine hK _ _ ?_; clear hK K hg5
      have c5 : W5.cell? ⟨W.heap.size, 0, none⟩ = some (.func (.yield l) #[] #[]) := (hB5.cell (p := ⟨W.heap.size, 0, none⟩) (by show W.heap.size < A.heap.size; omega)).trans c2
      have hz5 := hB5.size
      have b15 : Boxed W5 W.heap.size 44 (.func (.yield l) #[] #[]) := (hB5.block _ b1.lt).trans b1
      have b25 : Boxed W5 (W.heap.size + 1) 22 (.slice (some ⟨b, o, none⟩) n cap) := (hB5.block _ b2.lt).trans b2
      obtain ⟨fn, tmps, assign, body, hy, hR⟩ := HY.out opre (v5, ms) W5 (HJD.out _ hB5) (by omega) ⟨hO5.lower (by omega), hmse, by rw [hlen, ← HN.out]; exact hlt⟩
      try go_frame
      refine wpAnyIn_ready (rs := [4]) (by kernel_rfl) (by simp) (AllReadyIn.cons rfl (fun K hK => ?_) AllReadyIn.nil)
      go_simp
      refine ⟨fun h => (by cases h), (roundIn_wide hR).mono ?_⟩
      rintro e W3 (⟨rfl, hJ3, hz3, hk3, hf3⟩ | ⟨rfl, hJx3, hz3, hf3⟩)
      · refine hK _ _ ?_; clear hK K
        refine wpAnyIn_ready (rs := [5]) (by kernel_rfl) (by simp) (AllReadyIn.cons rfl (fun K hK => ?_) AllReadyIn.nil)
        go_simp
        refine hK _ _ ?_; clear hK K
        refine wpAnyIn_done (by kernel_rfl) ?_ _
        have HJ3 := Lib.hid hJ3; clear hJ3
        gi_wp2
        refine ⟨⟨by omega, fun g ob hg ho hc => hf3.same g ob (by omega) ((hB5.block g (Array.getElem?_eq_some_iff.1 ho).1).trans ho) hc⟩, trivial, opre ++ [(v5, ms)], by simp [hlen], HJ3.out, Boxed.kt b15 hk3 hwW (by decide), Boxed.kt b25 hk3 (by omega) (by decide), by omega⟩
      · refine hK _ _ ?_; clear hK K
        refine wpAnyIn_ready (rs := [5]) (by kernel_rfl) (by simp) (AllReadyIn.cons rfl (fun K hK => ?_) AllReadyIn.nil)
        go_simp
        refine hK _ _ ?_; clear hK K
        refine wpAnyIn_done (by kernel_rfl) ?_ _
        have HJ3 := Lib.hid hJx3; clear hJx3
        gi_wp2
        exact ⟨⟨by omega, fun g ob hg ho hc => hf3.same g ob (by omega) ((hB5.block g (Array.getElem?_eq_some_iff.1 ho).1).trans ho) hc⟩, rfl, _, HJ3.out⟩
    refine AllReadyIn.cons rfl (fun K hK => ?_) AllReadyIn.nil
    · refine step_appIn rfl (.tmp 8) (.tmp 9) rfl A.heap.size (.slice (some ⟨A.heap.size, 0, none⟩) 0 64) [] ms rfl HO1.out b (o + 64 * pre.length) 64 64 rfl hms HBS.out (by simp) HA1.out.size ?_
      intro v5 W5 hO5 hg5
      rw [List.nil_append] at hO5
      have hB5 := HA1.out.trans (HO1.out.belowBase hg5 HA1.out.size)
      refine hK _ _ ?_; clear hK K hg5
      have c6 : W5.cell? ⟨W.heap.size, 0, none⟩ = some (.func (.yield l) #[] #[]) := (hB5.cell (p := ⟨W.heap.size, 0, none⟩) (by show W.heap.size < A.heap.size; omega)).trans c2
      go_frame
      refine wpAnyIn_ready (rs := [0]) (by kernel_rfl) (by simp) (AllReadyIn.cons rfl (fun K hK => ?_) AllReadyIn.nil)
      go_simp
      refine hK _ _ ?_; clear hK K
      have c5 : W5.cell? ⟨W.heap.size, 0, none⟩ = some (.func (.yield l) #[] #[]) := (hB5.cell (p := ⟨W.heap.size, 0, none⟩) (by show W.heap.size < A.heap.size; omega)).trans c2
      have hz5 := hB5.size
      have b15 : Boxed W5 W.heap.size 44 (.func (.yield l) #[] #[]) := (hB5.block _ b1.lt).trans b1
      have b25 : Boxed W5 (W.heap.size + 1) 22 (.slice (some ⟨b, o, none⟩) n cap) := (hB5.block _ b2.lt).trans b2
      obtain ⟨fn, tmps, assign, body, hy, hR⟩ := HY.out opre (v5, ms) W5 (HJD.out _ hB5) (by omega) ⟨hO5.lower (by omega), hmse, by rw [hlen, ← HN.out]; exact hlt⟩
      try go_frame
      refine wpAnyIn_ready (rs := [4]) (by kernel_rfl) (by simp) (AllReadyIn.cons rfl (fun K hK => ?_) AllReadyIn.nil)
      go_simp
      refine ⟨fun h => (by cases h), (roundIn_wide hR).mono ?_⟩
      rintro e W3 (⟨rfl, hJ3, hz3, hk3, hf3⟩ | ⟨rfl, hJx3, hz3, hf3⟩)
      · refine hK _ _ ?_; clear hK K
        refine wpAnyIn_ready (rs := [5]) (by kernel_rfl) (by simp) (AllReadyIn.cons rfl (fun K hK => ?_) AllReadyIn.nil)
        go_simp
        refine hK _ _ ?_; clear hK K
        refine wpAnyIn_done (by kernel_rfl) ?_ _
        have HJ3 := Lib.hid hJ3; clear hJ3
        gi_wp2
        refine ⟨⟨by omega, fun g ob hg ho hc => hf3.same g ob (by omega) ((hB5.block g (Array.getElem?_eq_some_iff.1 ho).1).trans ho) hc⟩, trivial, opre ++ [(v5, ms)], by simp [hlen], HJ3.out, Boxed.kt b15 hk3 hwW (by decide), Boxed.kt b25 hk3 (by omega) (by decide), by omega⟩
      · refine hK _ _ ?_; clear hK K
        refine wpAnyIn_ready (rs := [5]) (by kernel_rfl) (by simp) (AllReadyIn.cons rfl (fun K hK => ?_) AllReadyIn.nil)
        go_simp
        refine hK _ _ ?_; clear hK K
        refine wpAnyIn_done (by kernel_rfl) ?_ _
        have HJ3 := Lib.hid hJx3; clear hJx3
        gi_wp2
        exact ⟨⟨by omega, fun g ob hg ho hc => hf3.same g ob (by omega) ((hB5.block g (Array.getElem?_eq_some_iff.1 ho).1).trans ho) hc⟩, rfl, _, HJ3.out⟩
end Go.Proofs.YtmgbiefobkpafaaDoor
