/- An entry's numbers. slices.Grow and slices.Concat at ints. -/
import Derived.Test.YtlnjpmpddomjiaaGreatDoorGmBeCh
import Derived.Test.YtlnjpmpddomjiaaGreatDoorGmBeJn
import Derived.Test.YtlnjpmpddomjiaaGreatDoorGmRegR
import Derived.Lib.AtoiErrMem
import Derived.Test.YtlnjpmpddomjiaaGreatDoorGmSame
set_option maxRecDepth 100000
namespace Go.Proofs.YtlnjpmpddomjiaaGreatDoor
open Go.RowKit Go.Shelf
attribute [local go_sem] Oper.semAt_some
/-- Bytes that stand at the beginning of a block. -/
def Bk (A : World) (g : Nat) (ls : List UInt8) : Prop := ∃ cs f, A.heap[g]? = some (.cells cs 5 f) ∧ ∀ j (h : j < ls.length), cs[j]? = some (vb ls[j])
theorem Bk.bs {A : World} {g : Nat} {ls : List UInt8} (h : Bk A g ls) : Bs A g 0 ls := by
  obtain ⟨cs, f, h1, h2⟩ := h
  intro j hj
  rw [Nat.zero_add]
  simp [World.cell?, h1, h2 j hj]
theorem Bk.lt {A : World} {g : Nat} {ls : List UInt8} (h : Bk A g ls) : g < A.heap.size := by
  obtain ⟨cs, f, h1, _⟩ := h
  exact (Array.getElem?_eq_some_iff.1 h1).1
theorem Bk.at {A B : World} {g : Nat} {ls : List UInt8} (h : Bk A g ls) (e : B.heap[g]? = A.heap[g]?) : Bk B g ls := by
  obtain ⟨cs, f, h1, h2⟩ := h
  exact ⟨cs, f, e.trans h1, h2⟩
theorem conv_bk (s : List UInt8) (w : World) (hs : s.length ≤ 100000) : ∃ c W, (convert 9 34 (str s)).run Tryz.prog w = .ok (.slice (some ⟨w.heap.size, 0, none⟩) s.length c) W ∧ Below w.heap.size w W ∧ Bk W w.heap.size s ∧ s.length ≤ c ∧ c ≤ 9223372036854775807 ∧ W.heap.size = w.heap.size + 1 := by
  have hg := grownCap_ge w (ByteArray.mk s.toArray).size 0 5
  have hg2 := grownCap_le_maxLen w (ByteArray.mk s.toArray).size 0 5 (by simp [ByteArray.size, maxLen]; omega)
  have hz : (ByteArray.mk s.toArray).size = s.length := by simp [ByteArray.size]
  refine ⟨_, _, Lib.run_convert_string_bytes w 9 34 5 ⟨s.toArray⟩ Tryz.underlying9 Tryz.underlying34 Tryz.underlying5, Lib.bytesWorld_below w _ _, ⟨_, _, Lib.bytesWorld_at_new w _ _, fun j h => ?_⟩, by rw [hz] at hg; exact hg, by unfold maxLen at hg2; exact hg2, by rw [Lib.bytesWorld_size]⟩
  unfold Lib.bytesCells
  simp [Array.getElem?_append, h, vb, bn]
theorem flat4 : ∀ (ns : List Nat) (k : Nat) (hk : k < ns.length), ∃ r1 r2, r1.length = 4 * k ∧ (ns.map len4).flatten = r1 ++ (len4 (ns[k]'hk) ++ r2)
  | [], k, hk => by simp at hk
  | x :: t, 0, _ => ⟨[], (t.map len4).flatten, rfl, by simp⟩
  | x :: t, k + 1, hk => by
    obtain ⟨r1, r2, h1, h2⟩ := flat4 t k (by simpa using hk)
    exact ⟨len4 x ++ r1, r2, by rw [List.length_append, h1]; show 4 + _ = _; omega, by rw [List.map_cons, List.flatten_cons, h2, List.append_assoc]; rfl⟩
theorem flat4_len (ns : List Nat) : (ns.map len4).flatten.length = 4 * ns.length := by
  induction ns with
  | nil => rfl
  | cons x t ih => rw [List.map_cons, List.flatten_cons, List.length_append, ih, List.length_cons]; show 4 + _ = _; omega
theorem range_all (ns : List Nat) : (List.range ns.length).map (fun k => ns.getD k 0) = ns := by
  apply List.ext_getElem?
  intro i
  by_cases h : i < ns.length
  · simp [h, List.getD_eq_getElem?_getD]
  · rw [List.getElem?_eq_none (by simp; omega), List.getElem?_eq_none (by omega)]
/-- numbers under way. -/
structure Np (w : World) (ls : List UInt8) (n c : Nat) (pre : List Nat) (va : Value) (A : World) : Prop where
  bo : Boxed A (w.heap.size + 1) 39 va
  own : OwnJ A (w.heap.size + 5) va pre
  bk : Bk A (w.heap.size + 2) ls
  b1 : Boxed A (w.heap.size + 3) 34 (.slice (some ⟨w.heap.size + 2, 0, none⟩) (4 * n) c)
  b2 : Boxed A (w.heap.size + 4) 3 (.int .i64 4)
  low : Below w.heap.size w A
  sz : w.heap.size + 5 ≤ A.heap.size
section
variable {w A B A1 : World} {ls : List UInt8} {n c : Nat} {pre : List Nat} {va v1 : Value}
theorem Np.ne (h : Np w ls n c pre va A) {b : Nat} (hb : b < w.heap.size + 5) : some b ≠ va.ownBlock := fun e => by
  have := (OwnJ.lt h.own b e.symm).1
  omega
theorem Np.kc (h : Np w ls n c pre va A) (hk : KC 0 A B) (hl : Below w.heap.size A B) : Np w ls n c pre va B :=
  ⟨hk _ _ _ _ (Nat.zero_le _) h.bo, ownsRow_kc h.own (Nat.zero_le _) hk, by obtain ⟨cs, f, h1, h2⟩ := h.bk; exact ⟨cs, f, hk _ _ _ _ (Nat.zero_le _) h1, h2⟩, hk _ _ _ _ (Nat.zero_le _) h.b1, hk _ _ _ _ (Nat.zero_le _) h.b2, h.low.trans hl, Nat.le_trans h.sz hl.size⟩
theorem Np.below (h : Np w ls n c pre va A) (hb : Below A.heap.size A B) : Np w ls n c pre va B :=
  h.kc (fun k c t f _ ho => (hb.block k (Array.getElem?_eq_some_iff.1 ho).1).trans ho) (hb.mono (by have := h.sz; omega))
theorem Np.put {l : Nat} {o o' : Obj} (h : Np w ls n c pre va A) (hl : w.heap.size ≤ l) (ho : A.heap[l]? = some o) (hc : o.isCells = false) : Np w ls n c pre va (A.putObj l o') :=
  h.kc (kc_putObj ho hc) (below_own (B := w.heap.size) (Nat.le_refl _) (by have := h.sz; omega) (grownBy_putObj' A l o') (fun r e => by cases e; exact ⟨hl, o, ho, hc⟩))
/-- One more number. -/
theorem Np.out {y : Nat} (h : Np w ls n c pre va A) (hg : A.grownBy A1 va.ownBlock) (hv : OwnJ A1 (w.heap.size + 5) v1 (pre ++ [y])) :
    Boxed A1 (w.heap.size + 1) 39 va ∧ Np w ls n c (pre ++ [y]) v1 (A1.setCell ⟨w.heap.size + 1, 0, none⟩ v1) ∧ KeepsFrom (w.heap.size + 5) A (A1.setCell ⟨w.heap.size + 1, 0, none⟩ v1) := by
  have g1 := grown_set A1 ⟨w.heap.size + 1, 0, none⟩ v1
  have bo1 := h.bo.kept hg (h.ne (by omega))
  have hsz := h.sz
  have s1 := hg.size
  have s2 := g1.size
  have lw : Below w.heap.size A A1 := (Below.refl w.heap.size A).grown hg (by omega) (fun j e => by have := (OwnJ.lt h.own j e).1; omega)
  have hv1 : v1.ownBlock ≠ some (w.heap.size + 1) := fun e => by have := (OwnJ.lt hv _ e).1; omega
  refine ⟨bo1, ⟨bo1.set v1, World.ownsRow.kept hv g1 (.inr hv1), (h.bk.at (hg.block _ h.bk.lt (h.ne (by omega)))).at (g1.block _ (by have := h.bk.lt; omega) (by simp)), (h.b1.kept hg (h.ne (by omega))).kept g1 (by simp), (h.b2.kept hg (h.ne (by omega))).kept g1 (by simp),
    (h.low.trans lw).setCell (p := ⟨w.heap.size + 1, 0, none⟩) (by show w.heap.size ≤ w.heap.size + 1; omega) v1, by omega⟩, by omega, fun g ob hgl ho hc => ?_⟩
  have hk0 := (Array.getElem?_eq_some_iff.1 ho).1
  refine (g1.block g (by omega) (by simp; omega)).trans ((hg.block g (by omega) ?_).trans ho)
  intro e
  rcases h.own.2 with ⟨h0, _⟩ | ⟨g', cap, cur, h0, _, hg', _⟩
  · rw [h0] at e; simp [Value.ownBlock] at e
  · rw [h0] at e
    have : g = g' := by simpa [Value.ownBlock] using e
    subst this
    rw [ho] at hg'; cases hg'; cases hc
end
section
variable {ops : Array Oper} {Q : Exit → Act → World → Prop} {K : Act → World → Prop} {a : Act} {w : World} {i : Nat} {o : Oper}
theorem wpOp_appJ (d : Tmp) (hi : ops[i]? = some o) (hd : o.dst = some d) (hgd : o.guard = none) (s x : Operand) (ho : o.op = .call { callee := .builtin .append, args := #[s, x], argTypes := #[39, 39] })
    (base : Nat) (v : Value) (xs : List Nat) (hs : a.eval s = v) (hown : OwnJ w base v xs) (gb : Nat) (y : Nat) (hx : a.eval x = .slice (some ⟨gb, 0, none⟩) 1 1)
    (hnew : Blk w gb [jv y]) (hn : xs.length ≤ 100000) (hbase : base ≤ w.heap.size)
    (h : ∀ v' w', OwnJ w' base v' (xs ++ [y]) → w.grownBy w' v.ownBlock → K (a.put (some d) v') w') : wpOp Tryz.prog ops Q i K a w := by
  rw [← hd] at h
  have hw : Region.wanted o (yielded ops a.tmps) = true := by simp [Region.wanted, hgd]
  obtain ⟨i0, hi0, hz0, hz1, hz2⟩ := info_parts info_j
  obtain ⟨tt, hnew⟩ := hnew
  have := step_append_lies (P := Tryz.prog) w (ops := ops) (o := o) (a := a) (K := K) (Q := Q) (E := True) hgd s x 39 ho base 3 i0 (.int .i64 0) 1 8 Tryz.underlying39 hi0 hz0 hz1 hz2 rfl (by decide) v xs.length (xs.map jv) hs hown ⟨gb, 0, none⟩ 1 1 [jv y] hx rfl (World.news_of_block hnew) (by simp [jv, Value.oneCell']) (by omega) (by unfold maxLen; omega) (by omega) hbase w.heap.size rfl (fun g cap w' h1 h2 h3 _ => h _ w' (by unfold OwnJ; rw [List.length_append, List.map_append]; exact h1) h2)
  rw [if_pos hw] at this
  exact wpOp_of_wp hi hw this
end
set_option maxHeartbeats 4000000 in
theorem numbers_any (e : EnL) (ns : List Nat) (w : World) (hl : ns.length ≤ 5000) (hls : e.lst = (ns.map len4).flatten) (hns : ∀ x ∈ ns, x < 4294967296) :
    Calls Tryz.prog 61 #[eagg e] w fun x w' => ∃ v', x = .returned v' ∧ OwnJ w' w.heap.size v' ns ∧ Below w.heap.size w w' := by
  obtain ⟨kd, ky, tx, ro, ls, mk⟩ := e
  simp only at hls
  have hlen := flat4_len ns
  rw [← hls] at hlen
  have hcells : ∀ k (hk : k < ns.length) (A : World) (g : Nat), Bs A g 0 ls → Bs A g (4 * k) (len4 (ns[k]'hk)) := by
    intro k hk A g hb j hj
    obtain ⟨r1, r2, h1, h2⟩ := flat4 ns k hk
    rw [← hls] at h2
    have hj4 : j < 4 := hj
    have := hb (4 * k + j) (by omega)
    rw [Nat.zero_add] at this
    rw [this]
    congr 1
    have hq : ls[4 * k + j]? = (len4 (ns[k]'hk))[j]? := by
      rw [h2, List.getElem?_append_right (by omega), h1, Nat.add_sub_cancel_left, List.getElem?_append_left hj]
    rw [List.getElem?_eq_getElem (by omega), List.getElem?_eq_getElem hj] at hq
    injection hq with hq
    rw [hq]
  have HC := Lib.hid hcells; clear hcells
  clear hls
  have HNS := Lib.hid hns; clear hns
  obtain ⟨V0, hV0⟩ : ∃ V, V = (w.alloc (.cells #[.int .i64 kd, str ky, str tx, .int .i64 ro, str ls, str mk] 78)).alloc (.cells #[.slice none 0 0] 39) := ⟨_, rfl⟩
  have hz0 : V0.heap.size = w.heap.size + 2 := by rw [hV0]; simp
  have hb0 : Below w.heap.size w V0 := by rw [hV0]; exact ((Below.refl _ _).alloc (Nat.le_refl _) _).alloc (by simp) _
  have hx0 : Boxed V0 (w.heap.size + 1) 39 (.slice none 0 0) := by
    rw [hV0]
    have := Boxed.new (w.alloc (.cells #[.int .i64 kd, str ky, str tx, .int .i64 ro, str ls, str mk] 78)) 39 (.slice none 0 0)
    rwa [World.size_alloc] at this
  obtain ⟨C, V1, hcv, hb1, hk1, hC1, hC2, hz1⟩ := conv_bk ls V0 (by omega)
  obtain ⟨N, hN⟩ : ∃ N, N = ns.length := ⟨_, rfl⟩
  rw [hz0] at hcv hz1 hk1
  rw [hlen, ← hN] at hcv hC1
  have hN5 : N ≤ 5000 := by omega
  have HN := Lib.hid hN; clear hN hlen
  have HCH := Lib.hid (chunk_any (some ⟨w.heap.size + 2, 0, none⟩) (4 * N) C V1)
  refine (callsIn_wide (n := 10)).1 ?_
  refine callsIn_of_wp_marks Tryz.func61 rfl trivial ?_ rfl
  simp only [Tryz.ntmps61, List.size_toArray, List.length_cons, List.length_nil, Nat.reduceAdd, Nat.reduceSub, Array.replicate_succ, Array.replicate_zero, List.push_toArray, List.append_toArray, List.nil_append, List.cons_append]
  rw [hV0] at hcv
  gi_wp2
  refine ⟨trivial, (callsIn_wide.2 HCH.out).mono ?_⟩
  rintro e V2 ⟨rfl, hV2⟩
  have hz2 : V2.heap.size = w.heap.size + 5 := by rw [hV2]; simp [hz1]
  have hP : Np w ls N C [] (.slice none 0 0) V2 := by
    have q1 := Boxed.new V1 34 (.slice (some ⟨w.heap.size + 2, 0, none⟩) (4 * N) C)
    have q2 := Boxed.new (V1.alloc (.cells #[.slice (some ⟨w.heap.size + 2, 0, none⟩) (4 * N) C] 34)) 3 (.int .i64 4)
    rw [World.size_alloc, hz1] at q2
    rw [hz1] at q1
    have hbb : Below V1.heap.size V1 V2 := by rw [hV2]; exact ((Below.refl _ _).alloc (Nat.le_refl _) _).alloc (by simp) _
    refine ⟨?_, World.ownsRow_nil _ _ _ 1, hk1.at (hbb.block _ (by omega)), ?_, ?_, hb0.trans ((hb1.mono (by omega)).trans (hbb.mono (by omega))), by omega⟩
    · exact (hbb.block _ (by omega)).trans ((hb1.block _ (by omega)).trans hx0)
    · rw [hV2]; exact q1.alloc _
    · rw [hV2]; exact q2
  clear hV2 hb0 hx0 hb1 hk1 HCH hcv hV0
  have HP := Lib.hid hP; clear hP
  have hseq := chunk1_g (10 - 1) (by omega) (w.heap.size + 3) (w.heap.size + 2) N C (by omega) hC1 V2
  unfold ChY at hseq
  have HSQ := Lib.hid hseq; clear hseq
  simp only [hz1, Nat.add_assoc, Nat.reduceAdd]
  gi_wp2
  refine wpIn_rangeFunc_g rfl (by omega) (gf := gCh) (lb := #[.pointer (some ⟨w.heap.size + 3, 0, none⟩), .pointer (some ⟨w.heap.size + 4, 0, none⟩)]) rfl trivial (fun _ _ => rfl) (encs := fun k : Nat => #[.slice (some ⟨w.heap.size + 2, 4 * k, none⟩) 4 4]) StC (fun _ _ => True) (fun _ pre x _ => pre ++ [x] <+: List.range N) (fun ys => ys = List.range N)
    (ChIn (w.heap.size + 3) (w.heap.size + 2) N C)
    (fun pre A => ∃ va, Np w ls N C (pre.map (fun k => ns.getD k 0)) va A)
    (fun _ _ _ => False)
    HSQ.out (fun pre A h => by obtain ⟨va, h⟩ := h; exact ⟨h.b1, h.b2⟩) (fun _ => rfl)
    (fun _ _ _ _ h _ hk => h.block _ hk) (fun _ _ _ h => h.size) (fun _ _ _ _ _ => trivial) (fun _ _ _ _ _ _ _ => trivial)
    (fun pre A B h hst => by obtain ⟨va, h⟩ := h; exact ⟨va, h.below hst⟩)
    (fun c pre A B h hst => h)
    (fun pre A l o o' h hl ho hc => by obtain ⟨va, h⟩ := h; exact ⟨va, h.put (by omega) ho hc⟩)
    (fun c pre A l o o' h hl ho hc => h)
    (fun _ _ _ _ _ _ _ h _ _ _ => h)
    (fun W' hb hs => ⟨_, HP.out.below hb⟩)
    (fun x a' => a' = { tmps := #[eagg ⟨kd, ky, tx, ro, ls, mk⟩, .pointer (some ⟨w.heap.size, 0, none⟩), .slice none 0 0, .pointer (some ⟨w.heap.size + 1, 0, none⟩), .slice (some ⟨w.heap.size + 2, 4 * x, none⟩) 4 4, .pointer (some ⟨w.heap.size, 4, none⟩), str ls, .slice (some ⟨w.heap.size + 2, 0, none⟩) (4 * N) C,
        .func (.func gCh) #[] #[.pointer (some ⟨w.heap.size + 3, 0, none⟩), .pointer (some ⟨w.heap.size + 4, 0, none⟩)], .slice (some ⟨w.heap.size + 2, 4 * x, none⟩) 4 4, undef, undef, undef, undef, undef, undef], defers := [] })
    ?assign ?body ?done ?stop
  case assign =>
    rintro k x A K hK
    have HK := Lib.hid hK; clear hK
    gi_wp2
    exact HK.out _ rfl
  case done =>
    rintro D xs A hD hz rfl ⟨va, hJ⟩ hK
    have c4 := hJ.bo.cell
    have hJ2 := hJ.put (o' := .deferred none) (l := D) (by omega) hK rfl
    have HJ2 := Lib.hid hJ2; clear hJ2
    have HRA := Lib.hid (range_all ns)
    rw [← HN.out] at HRA
    clear hJ
    gi_wp2
    show LeavesInM _ _ _ _ _ _ _ _ _
    refine ⟨by simp, .inl ⟨_, _, rfl, run_takeDeferred hK, ?_⟩⟩
    exact ⟨_, results_tmp rfl _ _ _, _, rfl, by have h := HJ2.out.own.le (base' := w.heap.size) (by omega); rw [HRA.out] at h; exact h, HJ2.out.low⟩
  case stop =>
    rintro D c pre A hD hz h hK
    exact h.elim
  case body =>
    rintro k bb pre x a' A hbb hbz ⟨va, hJ⟩ hpre rfl
    have hxN : x < N := by
      have : x ∈ List.range N := hpre.subset (by simp)
      simpa using this
    have hplen : (pre.map (fun k => ns.getD k 0)).length ≤ 100000 := by
      have := hpre.length_le
      rw [List.length_append, List.length_range] at this
      rw [List.length_map]; omega
    have hsz := hJ.sz
    have hbase := hJ.low.size
    obtain ⟨y, hy⟩ : ∃ y, y = ns.getD x 0 := ⟨_, rfl⟩
    have hPM : (pre ++ [x]).map (fun k => ns.getD k 0) = pre.map (fun k => ns.getD k 0) ++ [y] := by rw [List.map_append, hy]; rfl
    obtain ⟨PM, hPM0⟩ : ∃ P, P = pre.map (fun k => ns.getD k 0) := ⟨_, rfl⟩
    rw [← hPM0] at hPM hplen hJ
    have hxn : x < ns.length := by rw [← HN.out]; exact hxN
    have hye : y = ns[x]'hxn := by rw [hy, List.getD_eq_getElem?_getD, List.getElem?_eq_getElem hxn]; rfl
    have hy32 : y < 4294967296 := by rw [hye]; exact HNS.out _ (List.getElem_mem _)
    have HRD := Lib.hid (fun (X : World) (hX : Np w ls N C PM va X) => readNumber_any X.heap.size (.slice (some ⟨w.heap.size + 2, 4 * x, none⟩) 4 4) (UInt8.ofNat (y / 16777216)) (UInt8.ofNat (y / 65536)) (UInt8.ofNat (y / 256)) (UInt8.ofNat y) X
      ⟨_, _, rfl, (fun e => by cases e), by simp, by omega, fun _ => ⟨_, _, rfl, hX.bk.lt, by have := HC.out x hxn X _ hX.bk.bs; rw [← hye] at this; exact this⟩⟩)
    have HNUM := Lib.hid (num4_len4 y hy32)
    rw [HNUM.out] at HRD
    have HJ := Lib.hid hJ
    have HPM := Lib.hid hPM
    have HPRE := Lib.hid hpre
    clear hpre hPM hPM0 hy hye hJ
    gi_wp2
    refine wpIn_region_held_round (S := fun _ => True) (by kernel_rfl) (by kernel_rfl) (by rintro ⟨_, _, h⟩; exact h) ?_
    have HX := Lib.hid trivial
    refine takeH 1 11 (.slice (some ⟨w.heap.size + 2, 4 * x, none⟩) 4 4) rfl rfl (by kernel_rfl) (by kernel_rfl) (by kernel_rfl) (fun _ _ _ h => h) rfl (fun w' h => by go_simp) trivial ?_
    go_frame
    have H1 := Lib.hid (HJ.out.below (Below.refl _ _).drew)
    obtain ⟨A1, hA1⟩ : ∃ X, X = A.drew := ⟨_, rfl⟩
    rw [← hA1] at H1 ⊢
    have HB1 := Lib.hid (show Below A.heap.size A A1 from by rw [hA1]; exact (Below.refl _ _).drew)
    clear hA1
    refine wpAnyH_all (rs := [0, 2]) (by kernel_rfl) (by simp) ?_
    simp only [List.mem_cons, List.not_mem_nil, or_false, forall_eq_or_imp, forall_eq]
    refine ⟨?_, ?_⟩
    · have qH1 := H1.out.bo.cell
      refine wpOp_valueD 10 rfl rfl rfl va (by go_simp) ⟨trivial, ?_⟩
      clear qH1
      go_frame
      refine wpAnyH_all (rs := [2]) (by kernel_rfl) (by simp) ?_
      simp only [List.mem_singleton, forall_eq]
      refine wpOp_callD 12 rfl rfl rfl 46 #[.slice (some ⟨w.heap.size + 2, 4 * x, none⟩) 4 4] (by go_simp) ?_
      refine (HRD.out A1 H1.out).mono ?_
      rintro e A2 ⟨rfl, q, hA2⟩
      have HB2 := Lib.hid (show Below A1.heap.size A1 A2 from by rw [hA2]; exact ⟨rfl, rfl, rfl, Nat.le_refl _, fun _ _ => rfl⟩)
      have H2 := Lib.hid (H1.out.below HB2.out)
      clear hA2
      refine ⟨_, rfl, trivial, ?_⟩
      go_frame
      obtain ⟨A3, hA3⟩ : ∃ X, X = A2.alloc (.cells #[.int .i64 (y : Int)] 3) := ⟨_, rfl⟩
      have HB3 := Lib.hid (show Below A2.heap.size A2 A3 from by rw [hA3]; exact (Below.refl _ _).alloc (Nat.le_refl _) _)
      have H3 := Lib.hid (H2.out.below HB3.out)
      have HNB := Lib.hid (show Blk A3 A2.heap.size [jv y] from by rw [hA3]; exact Blk.new A2 [jv y] _)
      refine wpAnyH_all (rs := [3]) (by kernel_rfl) (by simp) ?_
      simp only [List.mem_singleton, forall_eq]
      refine wpOp_valueE 13 rfl rfl rfl (.slice (some ⟨A2.heap.size, 0, none⟩) 1 1) A3 (by rw [hA3]; go_simp) ⟨trivial, ?_⟩
      clear hA3
      go_frame
      refine wpAnyH_all (rs := [4]) (by kernel_rfl) (by simp) ?_
      simp only [List.mem_singleton, forall_eq]
      refine wpOp_appJ 14 rfl rfl rfl (.tmp 10) (.tmp 13) rfl (w.heap.size + 5) va PM rfl H3.out.own A2.heap.size y rfl HNB.out hplen (by have := H3.out.sz; omega) ?_
      intro v4 A4 hO4 hg4
      obtain ⟨hb4, hP4, hF4⟩ := H3.out.out hg4 hO4
      obtain ⟨A5, c5, rfl, _⟩ := hO4.jIn
      have HP4 := Lib.hid hP4
      have HF4 := Lib.hid hF4
      have n1 := hb4.cell
      have n2 := hb4.frozen
      clear hb4 hP4 hF4 hO4 hg4
      refine ⟨trivial, ?_⟩
      go_frame
      refine wpAnyH_all (rs := [5]) (by kernel_rfl) (by simp) ?_
      simp only [List.mem_singleton, forall_eq]
      refine wpOp_storeE rfl rfl rfl (w' := A4.setCell ⟨w.heap.size + 1, 0, none⟩ (.slice A5 (PM ++ [y]).length c5)) (by go_simp) ⟨trivial, ?_⟩
      refine wpAnyH_done (by kernel_rfl) ?_ _
      refine NoPanic.normal ?_
      have HA3 := HB1.out.trans ((HB2.out.mono HB1.out.size).trans (HB3.out.mono (Nat.le_trans HB1.out.size HB2.out.size)))
      exact ⟨⟨by have h1 := HA3.size; have h2 := HF4.out.1; omega, fun g ob h1 h2 h3 => HF4.out.2 g ob (by omega) ((HA3.block g (Array.getElem?_eq_some_iff.1 h2).1).trans h2) h3⟩, trivial, ⟨_, by rw [HPM.out]; exact HP4.out⟩⟩
    · refine wpOp_callD 12 rfl rfl rfl 46 #[.slice (some ⟨w.heap.size + 2, 4 * x, none⟩) 4 4] (by go_simp) ?_
      refine (HRD.out A1 H1.out).mono ?_
      rintro e A2 ⟨rfl, q, hA2⟩
      have HB2 := Lib.hid (show Below A1.heap.size A1 A2 from by rw [hA2]; exact ⟨rfl, rfl, rfl, Nat.le_refl _, fun _ _ => rfl⟩)
      have H2 := Lib.hid (H1.out.below HB2.out)
      clear hA2
      refine ⟨_, rfl, trivial, ?_⟩
      go_frame
      obtain ⟨A3, hA3⟩ : ∃ X, X = A2.alloc (.cells #[.int .i64 (y : Int)] 3) := ⟨_, rfl⟩
      have HB3 := Lib.hid (show Below A2.heap.size A2 A3 from by rw [hA3]; exact (Below.refl _ _).alloc (Nat.le_refl _) _)
      have H3 := Lib.hid (H2.out.below HB3.out)
      have HNB := Lib.hid (show Blk A3 A2.heap.size [jv y] from by rw [hA3]; exact Blk.new A2 [jv y] _)
      refine wpAnyH_all (rs := [0, 3]) (by kernel_rfl) (by simp) ?_
      simp only [List.mem_cons, List.not_mem_nil, or_false, forall_eq_or_imp, forall_eq]
      refine ⟨?_, ?_⟩
      · have qH2 := H2.out.bo.cell
        refine wpOp_valueD 10 rfl rfl rfl va (by go_simp) ⟨trivial, ?_⟩
        clear qH2
        go_frame
        refine wpAnyH_all (rs := [3]) (by kernel_rfl) (by simp) ?_
        simp only [List.mem_singleton, forall_eq]
        refine wpOp_valueE 13 rfl rfl rfl (.slice (some ⟨A2.heap.size, 0, none⟩) 1 1) A3 (by rw [hA3]; go_simp) ⟨trivial, ?_⟩
        clear hA3
        go_frame
        refine wpAnyH_all (rs := [4]) (by kernel_rfl) (by simp) ?_
        simp only [List.mem_singleton, forall_eq]
        refine wpOp_appJ 14 rfl rfl rfl (.tmp 10) (.tmp 13) rfl (w.heap.size + 5) va PM rfl H3.out.own A2.heap.size y rfl HNB.out hplen (by have := H3.out.sz; omega) ?_
        intro v4 A4 hO4 hg4
        obtain ⟨hb4, hP4, hF4⟩ := H3.out.out hg4 hO4
        obtain ⟨A5, c5, rfl, _⟩ := hO4.jIn
        have HP4 := Lib.hid hP4
        have HF4 := Lib.hid hF4
        have n1 := hb4.cell
        have n2 := hb4.frozen
        clear hb4 hP4 hF4 hO4 hg4
        refine ⟨trivial, ?_⟩
        go_frame
        refine wpAnyH_all (rs := [5]) (by kernel_rfl) (by simp) ?_
        simp only [List.mem_singleton, forall_eq]
        refine wpOp_storeE rfl rfl rfl (w' := A4.setCell ⟨w.heap.size + 1, 0, none⟩ (.slice A5 (PM ++ [y]).length c5)) (by go_simp) ⟨trivial, ?_⟩
        refine wpAnyH_done (by kernel_rfl) ?_ _
        refine NoPanic.normal ?_
        have HA3 := HB1.out.trans ((HB2.out.mono HB1.out.size).trans (HB3.out.mono (Nat.le_trans HB1.out.size HB2.out.size)))
        exact ⟨⟨by have h1 := HA3.size; have h2 := HF4.out.1; omega, fun g ob h1 h2 h3 => HF4.out.2 g ob (by omega) ((HA3.block g (Array.getElem?_eq_some_iff.1 h2).1).trans h2) h3⟩, trivial, ⟨_, by rw [HPM.out]; exact HP4.out⟩⟩
      · refine wpOp_valueE 13 rfl rfl rfl (.slice (some ⟨A2.heap.size, 0, none⟩) 1 1) A3 (by rw [hA3]; go_simp) ⟨trivial, ?_⟩
        clear hA3
        go_frame
        refine wpAnyH_all (rs := [0]) (by kernel_rfl) (by simp) ?_
        simp only [List.mem_singleton, forall_eq]
        have qH3 := H3.out.bo.cell
        refine wpOp_valueD 10 rfl rfl rfl va (by go_simp) ⟨trivial, ?_⟩
        clear qH3
        go_frame
        refine wpAnyH_all (rs := [4]) (by kernel_rfl) (by simp) ?_
        simp only [List.mem_singleton, forall_eq]
        refine wpOp_appJ 14 rfl rfl rfl (.tmp 10) (.tmp 13) rfl (w.heap.size + 5) va PM rfl H3.out.own A2.heap.size y rfl HNB.out hplen (by have := H3.out.sz; omega) ?_
        intro v4 A4 hO4 hg4
        obtain ⟨hb4, hP4, hF4⟩ := H3.out.out hg4 hO4
        obtain ⟨A5, c5, rfl, _⟩ := hO4.jIn
        have HP4 := Lib.hid hP4
        have HF4 := Lib.hid hF4
        have n1 := hb4.cell
        have n2 := hb4.frozen
        clear hb4 hP4 hF4 hO4 hg4
        refine ⟨trivial, ?_⟩
        go_frame
        refine wpAnyH_all (rs := [5]) (by kernel_rfl) (by simp) ?_
        simp only [List.mem_singleton, forall_eq]
        refine wpOp_storeE rfl rfl rfl (w' := A4.setCell ⟨w.heap.size + 1, 0, none⟩ (.slice A5 (PM ++ [y]).length c5)) (by go_simp) ⟨trivial, ?_⟩
        refine wpAnyH_done (by kernel_rfl) ?_ _
        refine NoPanic.normal ?_
        have HA3 := HB1.out.trans ((HB2.out.mono HB1.out.size).trans (HB3.out.mono (Nat.le_trans HB1.out.size HB2.out.size)))
        exact ⟨⟨by have h1 := HA3.size; have h2 := HF4.out.1; omega, fun g ob h1 h2 h3 => HF4.out.2 g ob (by omega) ((HA3.block g (Array.getElem?_eq_some_iff.1 h2).1).trans h2) h3⟩, trivial, ⟨_, by rw [HPM.out]; exact HP4.out⟩⟩
end Go.Proofs.YtlnjpmpddomjiaaGreatDoor
namespace Go.Proofs.YtlnjpmpddomjiaaGreatDoor
open Go.RowKit
/-- The ints, nil or not, lie below block B. -/
def JS (w : World) (B : Nat) (v : Value) (ls : List Nat) : Prop :=
  ∃ A c, v = .slice A ls.length c ∧ (A = none → c = 0) ∧ ls.length ≤ c ∧ c ≤ 9223372036854775807 ∧ (0 < ls.length → ∃ g o, A = some ⟨g, o, none⟩ ∧ g < B ∧ ∀ j (hj : j < ls.length), w.cell? ⟨g, o + j, none⟩ = some (jv ls[j]))
theorem JS.below {w w' : World} {B B' : Nat} {v : Value} {ls : List Nat} (h : JS w B v ls) (hb : Below B' w w') (hB : B ≤ B') : JS w' B v ls := by
  obtain ⟨A, c, e, h0, h1, h2, h⟩ := h
  refine ⟨A, c, e, h0, h1, h2, fun hl => ?_⟩
  obtain ⟨g, o, hg, hlt, h3⟩ := h hl
  exact ⟨g, o, hg, hlt, fun j hj => (hb.cell (p := ⟨g, o + j, none⟩) (by show g < B'; omega)).trans (h3 j hj)⟩
theorem JS.more {w : World} {B B' : Nat} {v : Value} {ls : List Nat} (h : JS w B v ls) (hB : B ≤ B') : JS w B' v ls := by
  obtain ⟨A, c, e, h0, h1, h2, h⟩ := h
  refine ⟨A, c, e, h0, h1, h2, fun hl => ?_⟩
  obtain ⟨g, o, hg, hlt, h3⟩ := h hl
  exact ⟨g, o, hg, by omega, h3⟩
theorem OwnJ.js {w : World} {base : Nat} {v : Value} {ls : List Nat} (h : OwnJ w base v ls) : JS w w.heap.size v ls := by
  obtain ⟨A, c, e, h1, h2, h3⟩ := h.jIn
  refine ⟨A, c, e, fun hA => ?_, h1, h2, fun hl => ?_⟩
  · rcases h.2 with ⟨h4, _⟩ | ⟨g, cap, cur, h4, _⟩
    · rw [h4] at e; injection e with _ _ e; exact e.symm
    · rw [h4, hA] at e; injection e with e; cases e
  · obtain ⟨g, hg, hlt, h5⟩ := h3 hl
    exact ⟨g, 0, hg, hlt, fun j hj => by rw [Nat.zero_add]; exact h5 j hj⟩
theorem OwnJ.belowBase {w w' : World} {base : Nat} {v : Value} {ls : List Nat} (h : OwnJ w base v ls) (hg : w.grownBy w' v.ownBlock) (hb : base ≤ w.heap.size) : Below base w w' :=
  (Below.refl base w).grown hg hb (fun j e => (OwnJ.lt h j e).1)
theorem OwnJ.of_heap {w : World} {base g cap n : Nat} {cur : Array Value} {l : List Nat} (hb : base ≤ g) (hg : w.heap[g]? = some (.cells cur 3 (0, 0))) (hc : cur.size = cap) (hm : cap ≤ maxLen) (hn : l.length = n) (hl : cur.toList.take n = l.map jv) (hnc : n ≤ cap) :
    OwnJ w base (.slice (some ⟨g, 0, none⟩) n cap) l := by
  subst hn
  exact ⟨by simp, .inr ⟨g, cap, cur, rfl, hb, hg, hnc, hm, by simp [hc], by simpa using hl⟩⟩
theorem wpList_appJs {w : World} {ops : Array Oper} {rest : List Oper} {o : Oper} {a : Act} {Q : Exit → Act → World → Prop} (hgd : o.guard = none) (s x : Operand) (ho : o.op = .call { callee := .builtin .append, args := #[s, x], argTypes := #[39, 39] })
    (base : Nat) (v : Value) (l ms : List Nat) (hs : a.eval s = v) (hown : OwnJ w base v l) (B : Nat) (vx : Value) (hx : a.eval x = vx) (hsrc : JS w B vx ms)
    (hlen : l.length + ms.length ≤ 1099511627776) (hbase : base ≤ w.heap.size)
    (h : ∀ v' w', OwnJ w' base v' (l ++ ms) → w.grownBy w' v.ownBlock → wpList Tryz.prog ops Q rest (a.put o.dst v') w') : wpList Tryz.prog ops Q (o :: rest) a w := by
  obtain ⟨A, c, rfl, h0, h1, h2, h3⟩ := hsrc
  obtain ⟨i0, hi, hz0, hz1, hz2⟩ := info_parts info_j
  cases A with
  | none =>
    obtain rfl := h0 rfl
    obtain rfl : ms = [] := List.eq_nil_of_length_eq_zero (by omega)
    exact wpList_append_own_none hgd s x 39 ho base 3 i0 1 Tryz.underlying39 hi v l.length (l.map jv) hs hown hx (h v w (by simpa using hown) (World.grownBy.refl w _))
  | some ad =>
    refine wpList_append_own w hgd s x 39 ho base 3 i0 (.int .i64 0) 1 8 Tryz.underlying39 hi hz0 hz1 hz2 rfl (by decide) v l.length (l.map jv) hs hown ad ms.length c (ms.map jv) hx (by simp) ?_ ?_ (by unfold maxLen; omega) (by omega) hbase ?_
    · intro j u hu
      rw [List.getElem?_map] at hu
      by_cases hj : j < ms.length
      · obtain ⟨b, o, e, _, hbs⟩ := h3 (by omega)
        obtain rfl := Option.some.inj e
        rw [Addr.add_mid]
        rw [List.getElem?_eq_getElem hj] at hu; cases hu; exact hbs j hj
      · rw [List.getElem?_eq_none (by omega)] at hu; cases hu
    · intro u hu; rw [List.mem_map] at hu; obtain ⟨b, _, rfl⟩ := hu; rfl
    · intro v' w' g1 g2 _
      refine h v' w' ?_ g2
      unfold OwnJ
      rw [List.length_append, List.map_append]
      exact g1
set_option maxHeartbeats 1000000 in
theorem growJ_pos (n : Nat) (h0 : 0 < n) (hn : n ≤ 100000) (w : World) : Calls Tryz.prog 84 #[.slice none 0 0, .int .i64 (n : Int)] w fun e w' => ∃ v', e = .returned v' ∧ OwnJ w' w.heap.size v' [] ∧ Below w.heap.size w w' := by
  have hb5 : Tryz.t3.bytes = 8 := by kernel_rfl
  have hnx : Builtin.nextslicecap n 0 = n := by unfold Builtin.nextslicecap; rw [if_pos (by omega)]
  go_enter Tryz.func84, Tryz.ntmps84
  go_wp2_with fail
  have hge := grownCap_ge w n 0 3
  have hle := grownCap_le_maxLen w n 0 3 (by unfold maxLen; omega)
  go_ret
  refine ⟨_, rfl, ?_, ((Below.refl _ _).alloc (Nat.le_refl _) _).drew⟩
  exact OwnJ.of_heap (g := w.heap.size) (cap := grownCap w n 0 3) (n := 0) (Nat.le_refl _) (heap_alloc_new w _) (by rw [Array.size_append, size_zeroCells, size_zeroCells]; show n * 1 + (grownCap w n 0 3 - n) * 1 = _; omega) hle rfl (by simp) (by omega)
set_option maxHeartbeats 1000000 in
theorem growJ_nought (w : World) : Calls Tryz.prog 84 #[.slice none 0 0, .int .i64 0] w fun e w' => ∃ v', e = .returned v' ∧ OwnJ w' w.heap.size v' [] ∧ Below w.heap.size w w' := by
  go_enter Tryz.func84, Tryz.ntmps84
  go_wp2_with fail
  go_ret
  exact ⟨_, rfl, OwnJ.nil _ _, Below.refl _ _⟩
theorem growJ_any (n : Nat) (hn : n ≤ 100000) (w : World) : Calls Tryz.prog 84 #[.slice none 0 0, .int .i64 (n : Int)] w fun e w' => ∃ v', e = .returned v' ∧ OwnJ w' w.heap.size v' [] ∧ Below w.heap.size w w' := by
  by_cases h : n = 0
  · subst h; exact growJ_nought w
  · exact growJ_pos n (by omega) hn w
set_option maxRecDepth 100000 in
set_option maxHeartbeats 1000000 in
theorem concatJ_any (gb : Nat) (v1 v2 : Value) (l1 l2 : List Nat) (w : World) (hg : gb < w.heap.size) (hc1 : w.cell? ⟨gb, 0, none⟩ = some v1) (hc2 : w.cell? ⟨gb, 1, none⟩ = some v2)
    (h1 : JS w w.heap.size v1 l1) (h2 : JS w w.heap.size v2 l2) (hl1 : l1.length ≤ 10000) (hl2 : l2.length ≤ 10000) :
    Calls Tryz.prog 63 #[.slice (some ⟨gb, 0, none⟩) 2 2] w fun e w' => ∃ v', e = .returned v' ∧ OwnJ w' w.heap.size v' (l1 ++ l2) ∧ Below w.heap.size w w' := by
  have H1 := Lib.hid h1
  have H2 := Lib.hid h2
  obtain ⟨A1, c1, rfl, _, k11, k12, _⟩ := h1
  obtain ⟨A2, c2, rfl, _, k21, k22, _⟩ := h2
  have HC1 := Lib.hid hc1; clear hc1
  have HC2 := Lib.hid hc2; clear hc2
  go_enter Tryz.func63, Tryz.ntmps63
  go_wp2_with fail
  go_loop [3, 5, 11] (fun z _ i => ∃ k s : Nat, k ≤ 2 ∧ i = .int .i64 (k : Int) ∧ z = .int .i64 (s : Int) ∧ s = (if k = 0 then 0 else if k = 1 then l1.length else l1.length + l2.length)) (fun _ _ i => 2 - (intOf i).toNat)
  case atStart => exact ⟨0, 0, by omega, rfl, rfl, rfl⟩
  case round =>
    obtain ⟨k, s, hk, rfl, rfl, hs⟩ := hrel
    have Hs := Lib.hid hs; clear hs
    obtain rfl | rfl | rfl : k = 0 ∨ k = 1 ∨ k = 2 := by omega
    · obtain rfl : s = 0 := Hs.out
      have hc := HC1.out
      go_wp2_with fail
      go_round
      case rel => exact ⟨1, l1.length, by omega, rfl, by go_num, rfl⟩
      case measure => simp [intOf]
    · obtain rfl : s = l1.length := Hs.out
      have hc := HC2.out
      go_wp2_with fail
      go_round
      case rel => exact ⟨2, l1.length + l2.length, by omega, rfl, by go_num, rfl⟩
      case measure => simp [intOf]
    · have Hs2 : Hid (s = l1.length + l2.length) := Lib.hid Hs.out
      have hs3 : s ≤ 20000 := by rw [Hs2.out]; omega
      go_wp2_with fail
      refine (growJ_any s (by omega) w).mono ?_
      rintro e w1 ⟨v0, rfl, hO, hb⟩
      have HO := Lib.hid hO; clear hO
      have HB := Lib.hid hb; clear hb
      go_wp2_with fail
      go_loopw [6, 8, 27] (fun o _ i wr => ∃ k : Nat, k ≤ 2 ∧ i = .int .i64 (k : Int) ∧ OwnJ wr w.heap.size o (if k = 0 then [] else if k = 1 then l1 else l1 ++ l2) ∧ Below w.heap.size w wr) (fun _ _ i _ => 2 - (intOf i).toNat)
      case atStart => exact ⟨0, by omega, rfl, HO.out, HB.out⟩
      case round =>
        clear HO HB
        obtain ⟨k, hk, rfl, hO, hBl⟩ := hrel
        have HO := Lib.hid hO; clear hO
        have HBl := Lib.hid hBl; clear hBl
        obtain rfl | rfl | rfl : k = 0 ∨ k = 1 ∨ k = 2 := by omega
        · have hc : wr.cell? ⟨gb, 0, none⟩ = some (.slice A1 l1.length c1) := (HBl.out.cell (p := ⟨gb, 0, none⟩) hg).trans HC1.out
          have HO1 : Hid (OwnJ wr w.heap.size u6 []) := Lib.hid HO.out
          go_wp2_with (at_builtin; ((with_reducible refine wpList_appJs ?g1 (.tmp 31) (.tmp 32) ?g2 w.heap.size u6 [] l1 ?g3 ?g4 w.heap.size (.slice A1 l1.length c1) ?g5 ?g6 ?g7 ?g8 ?_); (case g1 => rfl); (case g2 => rfl); (case g3 => rfl); (case g4 => exact HO1.out); (case g5 => rfl); (case g6 => exact H1.out.below HBl.out (Nat.le_refl _)); (case g7 => simp; omega); (case g8 => exact HBl.out.size); intro v' w2 hv hgr; have Hv := Lib.hid hv; clear hv; have Hg := Lib.hid (HBl.out.trans (HO1.out.belowBase hgr HBl.out.size)); clear hgr))
          go_roundw
          case rel => exact ⟨1, by omega, rfl, by simpa using Hv.out, Hg.out⟩
          case measure => simp [intOf]
        · have hc : wr.cell? ⟨gb, 1, none⟩ = some (.slice A2 l2.length c2) := (HBl.out.cell (p := ⟨gb, 1, none⟩) hg).trans HC2.out
          have HO1 : Hid (OwnJ wr w.heap.size u6 l1) := Lib.hid HO.out
          go_wp2_with (at_builtin; ((with_reducible refine wpList_appJs ?g1 (.tmp 31) (.tmp 32) ?g2 w.heap.size u6 l1 l2 ?g3 ?g4 w.heap.size (.slice A2 l2.length c2) ?g5 ?g6 ?g7 ?g8 ?_); (case g1 => rfl); (case g2 => rfl); (case g3 => rfl); (case g4 => exact HO1.out); (case g5 => rfl); (case g6 => exact H2.out.below HBl.out (Nat.le_refl _)); (case g7 => omega); (case g8 => exact HBl.out.size); intro v' w2 hv hgr; have Hv := Lib.hid hv; clear hv; have Hg := Lib.hid (HBl.out.trans (HO1.out.belowBase hgr HBl.out.size)); clear hgr))
          go_roundw
          case rel => exact ⟨2, by omega, rfl, by simpa using Hv.out, Hg.out⟩
          case measure => simp [intOf]
        · have HO1 : Hid (OwnJ wr w.heap.size u6 (l1 ++ l2)) := Lib.hid HO.out
          go_wp2_with fail
          go_ret
          exact ⟨_, rfl, HO1.out, HBl.out⟩
end Go.Proofs.YtlnjpmpddomjiaaGreatDoor
