/- The law's helper: a text's first pieces. -/
import Derived.Test.YtbjhaihfkncdoaaCollect
namespace Go.Proofs.Ytbjhaihfkncdoaa
open Go.RowKit Go.Shelf
attribute [local go_sem] Oper.semAt_some
theorem has_exists {n : Nat} (L : List UInt8) (hn : 1 ≤ n) : ∃ k, Has n L k := by
  refine ⟨(L.length + (n - 1)) / n, ?_, fun j hj => ?_⟩
  · have h1 := Nat.div_add_mod (L.length + (n - 1)) n
    have h2 := Nat.mod_lt (L.length + (n - 1)) (show 0 < n by omega)
    rw [Nat.mul_comm] at h1
    omega
  · have h1 := Nat.div_mul_le_self (L.length + (n - 1)) n
    have h2 : (j + 1) * n ≤ (L.length + (n - 1)) / n * n := Nat.mul_le_mul_right n hj
    rw [Nat.succ_mul] at h2
    omega
theorem has_most {n : Nat} {L : List UInt8} {k m : Nat} (h : Has n L k) (hm : ∀ j, j < m → j * n < L.length) : m ≤ k := by
  rcases Nat.lt_or_ge k m with h1 | h1
  · have := hm k h1; have := h.1; omega
  · exact h1
theorem has_same {n n' : Nat} {L : List UInt8} {k : Nat} (h : Has n' L k) (hn : L.length ≠ 0 → n' = n) : Has n L k ∧ pieces n' L k = pieces n L k := by
  by_cases h0 : L.length = 0
  · have hk : k = 0 := by
      match k with
      | 0 => rfl
      | k + 1 => have := h.2 k (by omega); omega
    subst hk
    exact ⟨⟨by omega, fun j hj => by omega⟩, rfl⟩
  · rw [← hn h0]; exact ⟨h, rfl⟩
theorem GIn.new (w : World) (n : Nat) (L : List UInt8) (h1 : L.length ≠ 0 → 1 ≤ n) (h2 : n ≤ 9223372036854775807) (h3 : L.length ≤ 1000) :
    GIn ((w.alloc (.cells #[str L] 9)).alloc (.cells #[.int .i64 (n : Int)] 3)) w.heap.size (w.heap.size + 1) n L := by
  refine ⟨h1, h2, h3, by simp; omega, by simp, ((Boxed.new w 9 (str L)).alloc _).cell, ?_⟩
  have := Boxed.new (w.alloc (.cells #[str L] 9)) 3 (.int .i64 (n : Int))
  rwa [World.size_alloc] at this
set_option maxRecDepth 100000 in
set_option maxHeartbeats 2000000 in
theorem first_any (L : List UInt8) (sz : Int) (mm : Nat) (w : World) (hL : L.length ≤ 1000) (h1 : sz ≤ 9223372036854775807) (h2 : -9223372036854775808 ≤ sz) (hm : 1 ≤ mm) (hm2 : mm ≤ 1000) :
    Calls Try.prog 29 #[str L, .int .i64 sz, .int .i64 (mm : Int)] w fun e W' => ∃ v k, e = .returned v ∧ OwnT W' w.heap.size v (pieces (npc sz L) L (min k mm)) ∧ Has (npc sz L) L k ∧ Below w.heap.size w W' := by
  obtain ⟨i0, hi, hz0, hz1, hz2⟩ := info_parts info_s
  obtain ⟨N, hN⟩ : ∃ N, N = npc sz L := ⟨_, rfl⟩
  have hN1 : 1 ≤ N := by rw [hN]; exact npc_pos sz L
  rw [← hN]
  have HN := Lib.hid hN; clear hN
  refine (callsIn_wide (n := 6)).1 ?_
  refine callsIn_of_wp_marks Try.func29 rfl trivial ?_ rfl
  simp only [Try.ntmps29, List.size_toArray, List.length_cons, List.length_nil, Nat.reduceAdd, Nat.reduceSub, Array.replicate_succ, Array.replicate_zero, List.push_toArray, List.append_toArray, List.nil_append, List.cons_append]
  gi_wp2_with (refine ⟨trivial, ?_⟩; gi_at_call 24; refine (callsIn_wide.2 (groups_any L sz _ hL h1 h2)).mono ?_; rintro e w' ⟨rfl, n, hn, hnm, rfl⟩)
  have hG := GIn.new ((w.alloc (.cells #[.int .i64 (mm : Int)] 3)).alloc (.cells #[.slice none 0 0] 38)) n L (fun h => by rw [hn h]; exact npc_pos sz L) hnm hL
  simp only [World.size_alloc] at hG
  have bM := (((Boxed.new w 3 (.int .i64 (mm : Int))).alloc (.cells #[.slice none 0 0] 38)).alloc (.cells #[str L] 9)).alloc (.cells #[.int .i64 (n : Int)] 3)
  have bO := ((Boxed.new (w.alloc (.cells #[.int .i64 (mm : Int)] 3)) 38 (.slice none 0 0)).alloc (.cells #[str L] 9)).alloc (.cells #[.int .i64 (n : Int)] 3)
  rw [World.size_alloc] at bO
  have hB0 : Below w.heap.size w ((((w.alloc (.cells #[.int .i64 (mm : Int)] 3)).alloc (.cells #[.slice none 0 0] 38)).alloc (.cells #[str L] 9)).alloc (.cells #[.int .i64 (n : Int)] 3)) :=
    ((((Below.refl _ w).alloc (Nat.le_refl _) _).alloc (by simp) _).alloc (by simp; omega) _).alloc (by simp; omega) _
  generalize hW0 : World.alloc _ _ = W0 at hG bM bO hB0 ⊢
  have hsz : W0.heap.size = w.heap.size + 4 := by rw [← hW0]; simp
  clear hW0
  have hwz := hB0.size
  refine wpIn_rangeFunc_ownG rfl (by omega) (gf := gF) (lb := #[.pointer (some ⟨w.heap.size + 1 + 1, 0, none⟩), .pointer (some ⟨w.heap.size + 1 + 1 + 1, 0, none⟩)]) rfl trivial (enters_of Try.func40 (by kernel_rfl) rfl)
    (hG.stops Fence.wide (6 - 1) trivial rfl (by omega)) kpB_t (kpB_b hG.bz) (Below.refl _ _) (fun _ => rfl)
    (fun pre W => (∃ v, Boxed W (w.heap.size + 1) 38 v ∧ W.ownsRow w.heap.size 9 1 v pre.length (pre.map str) ∧ pre.length < mm) ∧ (Below w.heap.size w W ∧ (Boxed W (w.heap.size + 1 + 1 + 1) 3 (.int .i64 (n : Int)) ∧ Boxed W w.heap.size 3 (.int .i64 (mm : Int)))))
    (fun c pre W => (∃ v, Boxed W (w.heap.size + 1) 38 v ∧ W.ownsRow w.heap.size 9 1 v pre.length (pre.map str) ∧ (c = .exit 0 ∧ pre.length = mm)) ∧ Below w.heap.size w W)
    (OwnFrom.and (Own.from (holdsRow_own w.heap.size (w.heap.size + 1) 38 9 1 (fun pre : List (List UInt8) => pre.length) (fun pre => pre.map str) (fun pre _ => pre.length < mm)) _) (OwnFrom.and (ownFrom_below (Nat.le_refl _) hwz) (OwnFrom.and (Own.from (boxed_own _ _ (fun _ => _)) _) (Own.from (boxed_own _ _ (fun _ => _)) _))))
    (fun c => OwnFrom.and (Own.from (holdsRow_own w.heap.size (w.heap.size + 1) 38 9 1 (fun pre : List (List UInt8) => pre.length) (fun pre => pre.map str) (fun pre _ => c = .exit 0 ∧ pre.length = mm)) _) (ownFrom_below (Nat.le_refl _) hwz))
    ⟨⟨_, bO, World.ownsRow_nil _ _ _ _, by simp; omega⟩, hB0, hG.z, bM⟩
    (fun x => { tmps := #[str L, .int .i64 sz, .int .i64 (mm : Int), undef, undef, .pointer (some ⟨w.heap.size, 0, none⟩), .slice none 0 0, .pointer (some ⟨w.heap.size + 1, 0, none⟩), str x, str L, .int .i64 sz, gV (w.heap.size + 1 + 1) (w.heap.size + 1 + 1 + 1), str x, undef, undef, undef, undef, undef, undef, undef, undef, undef], defers := [] }) ?assign ?body ?done ?stop
  case assign =>
    intro l x W K hK
    gi_wp2
    exact hK
  case body =>
    rintro l pre x W ⟨⟨v, hv, hrow, hpm⟩, hB, hZ, hM⟩ hlt
    have hc := hv.cell
    have hcm := hM.cell
    gi_wp2_with (gi_at_builtin; refine wpListIn_append_own _ rfl _ _ 38 rfl w.heap.size 9 i0 (str []) 1 16 Try.underlying38 hi hz0 hz1 hz2 rfl (by decide) _ _ _ rfl (hrow.alloc _) ⟨W.heap.size, 0, none⟩ 1 1 [str x] rfl rfl (cell_one_new _ _ _) (by simp [Value.oneCell']) (by unfold maxLen; omega) (by omega) (by have := hB.size; simp; omega) ?_; intro v' w1 hown' hgrow _; obtain ⟨g', cap', rfl⟩ := ownsRow_succ hown'; obtain ⟨hv1, hv2, hr2, hk2, hb2⟩ := hv.appended (by decide) hrow hB.size (by omega) hown' hgrow; have hc1 := hv1.cell; have hf1 := hv1.frozen; have hZ2 := ((hZ.alloc _).kept hgrow (hZ.not_row (by decide) hrow)).other (show w.heap.size + 1 + 1 + 1 ≠ w.heap.size + 1 by omega) (.slice (some ⟨g', 0, none⟩) (pre.length + 1) cap'); have hM2 := ((hM.alloc _).kept hgrow (hM.not_row (by decide) hrow)).other (show w.heap.size ≠ w.heap.size + 1 by omega) (.slice (some ⟨g', 0, none⟩) (pre.length + 1) cap'); have hcm2 := hM2.cell; have hcv2 := hv2.cell)
    · have he : pre.length + 1 = mm := by
        have h : ((pre.length : Int) + 1 == (mm : Int)) = true := by assumption
        have := beq_iff_eq.1 h
        omega
      exact ⟨hk2.from _, ⟨_, hv2, by simpa using hr2, rfl, by simpa using he⟩, hB.trans hb2⟩
    · have he : pre.length + 1 ≠ mm := by
        intro e
        have h : ((pre.length : Int) + 1 == (mm : Int)) = false := by assumption
        have := beq_eq_false_iff_ne.1 h
        omega
      exact ⟨hk2.from _, fun _ => hZ2, ⟨_, hv2, by simpa using hr2, by simp; omega⟩, hB.trans hb2, hZ2, hM2⟩
  case done =>
    rintro D ys W hD ⟨k, hk, rfl⟩ ⟨⟨v, hv, hrow, hpm⟩, hB, _, _⟩ hK
    have hc := hv.cell
    rw [pieces_len] at hpm
    obtain ⟨hk', hpe⟩ := has_same hk (n := N) (fun h => by rw [hn h, HN.out])
    rw [hpe] at hrow
    gi_wp2
    refine ⟨by simp, .inl ⟨_, _, rfl, run_takeDeferred hK, ?_⟩⟩
    refine ⟨_, results_tmp rfl _ _ _, v, k, rfl, ?_, hk', hB.trans (belowK_b (w := w) (Nat.le_refl _) W D _ _ (by omega) hK rfl rfl)⟩
    rw [Nat.min_eq_left (by omega)]
    exact ownsRow_putObj hrow _ hK rfl
  case stop =>
    rintro D c pre W hD ⟨k, hk, rfl⟩ ⟨⟨v, hv, hrow, rfl, hpm⟩, hB⟩ hK
    have hc := hv.cell
    rw [pieces_len] at hpm
    subst hpm
    have h0 : L.length ≠ 0 := by have := hk 0 hm; omega
    obtain rfl : n = N := by rw [hn h0, HN.out]
    obtain ⟨K, hH⟩ := has_exists L hN1
    gi_wp2
    refine ⟨by simp, .inl ⟨_, _, rfl, run_takeDeferred hK, ?_⟩⟩
    refine ⟨_, results_tmp rfl _ _ _, v, K, rfl, ?_, hH, hB.trans (belowK_b (w := w) (Nat.le_refl _) W D _ _ (by omega) hK rfl rfl)⟩
    rw [Nat.min_eq_right (has_most hH hk)]
    exact ownsRow_putObj hrow _ hK rfl
end Go.Proofs.Ytbjhaihfkncdoaa
