/- b64.Wrap. -/
import Derived.Test.YtbjhaihfkncdoaaDoorBuilder
namespace Go.Proofs.YtbjhaihfkncdoaaDoor
open Go.RowKit Go.Shelf
attribute [local go_sem] Oper.semAt_some
set_option maxRecDepth 100000 in
set_option maxHeartbeats 2000000 in
theorem wrap_any (L : List UInt8) (sz : Int) (w : World) (hL : L.length ≤ 1000) (h1 : sz ≤ 9223372036854775807) (h2 : -9223372036854775808 ≤ sz) :
    Calls Tryd.prog 15 #[str L, .int .i64 sz] w fun e W' => ∃ k, Has (npc sz L) L k ∧ e = .returned (str (wrapT (pieces (npc sz L) L k))) ∧ Below w.heap.size w W' := by
  obtain ⟨N, hN⟩ : ∃ N, N = npc sz L := ⟨_, rfl⟩
  rw [← hN]
  have HN := Lib.hid hN; clear hN
  refine (callsIn_wide (n := 6)).1 ?_
  refine callsIn_of_wp_marks Tryd.func15 rfl trivial ?_ rfl
  simp only [Tryd.ntmps15, List.size_toArray, List.length_cons, List.length_nil, Nat.reduceAdd, Nat.reduceSub, Array.replicate_succ, Array.replicate_zero, List.push_toArray, List.append_toArray, List.nil_append, List.cons_append]
  gi_wp2_with (refine ⟨trivial, ?_⟩; gi_at_call 43; refine (callsIn_wide.2 (groups_any L sz _ hL h1 h2)).mono ?_; rintro e w' ⟨rfl, n, hn, hnm, rfl⟩)
  have hG := GIn.new (w.alloc (.cells #[.pointer none, .slice none 0 0] tB)) n L (fun h => by rw [hn h]; exact npc_pos sz L) hnm hL
  simp only [World.size_alloc] at hG
  have bB := bld_below (bld_new w) (((Below.refl _ _).alloc (Nat.le_refl _) (.cells #[str L] 9)).alloc (by simp) (.cells #[.int .i64 (n : Int)] 3))
  have hB0 : Below w.heap.size w (((w.alloc (.cells #[.pointer none, .slice none 0 0] tB)).alloc (.cells #[str L] 9)).alloc (.cells #[.int .i64 (n : Int)] 3)) :=
    (((Below.refl _ w).alloc (Nat.le_refl _) _).alloc (by simp) _).alloc (by simp; omega) _
  generalize hW0 : World.alloc _ _ = W0 at hG bB hB0 ⊢
  have hsz : W0.heap.size = w.heap.size + 3 := by rw [← hW0]; simp
  clear hW0
  have hwz := hB0.size
  have hBz : w.heap.size + 1 + 1 ≠ w.heap.size := by omega
  refine wpIn_rangeFunc_ownG rfl (by omega) (gf := gF) (lb := #[.pointer (some ⟨w.heap.size + 1, 0, none⟩), .pointer (some ⟨w.heap.size + 1 + 1, 0, none⟩)]) rfl trivial (enters_of Tryd.func70 (by kernel_rfl) rfl)
    (groups_stopsT Fence.wide (6 - 1) trivial rfl (by omega) _ _ n L hG.n1 hG.nm hL _ hG.bs hG.s hG.z) kpB_t (kpB_b hG.bz) (Below.refl _ _) (fun _ => rfl)
    (fun pre W => Bld w.heap.size (wrapT (pre.map (·.1))) W ∧ Below w.heap.size w W ∧ Boxed W (w.heap.size + 1 + 1) 3 (.int .i64 (n : Int)))
    (fun _ _ _ => False)
    (OwnFrom.and (Own.from (bld_own w.heap.size (fun pre : List T1000 => wrapT (pre.map (·.1)))) _) (OwnFrom.and (ownFrom_below (Nat.le_refl _) hwz) (Own.from (boxed_own _ _ (fun _ => _)) _)))
    (fun _ _ _ _ _ hs _ _ => hs)
    ⟨bB, hB0, hG.z⟩
    (fun x => { tmps := #[str L, .int .i64 sz, undef, undef, .string { data := #[] }, .pointer (some ⟨w.heap.size, 0, none⟩), str x.1, str L, .int .i64 sz, gV (w.heap.size + 1) (w.heap.size + 1 + 1), str x.1, undef, undef, undef, undef, undef, undef], defers := [] }) ?assign ?body ?done ?stop
  case assign =>
    intro l x W K hK
    gi_wp2
    exact hK
  case body =>
    rintro l pre x W ⟨hB, hb, hz⟩ hlt
    have hpl := wrapT_len pre
    have hx := x.2
    have hs := wrapT_snoc (pre.map (·.1)) x.1
    rw [show pre.map (·.1) ++ [x.1] = (pre ++ [x]).map (·.1) by simp] at hs
    have Hs := Lib.hid hs; clear hs
    obtain ⟨o, ho⟩ : ∃ o, o = wrapT (pre.map (·.1)) := ⟨_, rfl⟩
    have hol : o.length ≤ 1001000 := by rw [ho]; omega
    rw [← ho] at hB Hs
    clear ho
    gi_wp2
    refine ⟨trivial, ?_⟩
    refine (CallsIn.inRound l (callsIn_wide.2 (bld_len _ o W hB))).mono ?_
    rintro e W1 ⟨rfl, rfl⟩
    by_cases h0 : o.length = 0
    · have h0' : ¬ ((0 : Int) < (o.length : Int)) := by omega
      gi_wp2
      refine ⟨trivial, (CallsIn.inRound l (callsIn_wide.2 (bld_write _ o x.1 W1 hB (by omega)))).mono ?_⟩
      rintro e W2 ⟨rfl, hB2, hb2, hk2⟩
      gi_wp2
      exact ⟨(kept_others hB hb2.size hk2).from _, kept_box hBz hk2, by rw [Hs.out, if_pos h0]; exact hB2, hb.trans hb2, kept_box hBz hk2 hz⟩
    · have h0' : (0 : Int) < (o.length : Int) := by omega
      gi_wp2
      refine ⟨trivial, (CallsIn.inRound l (callsIn_wide.2 (bld_write _ o [10] W1 hB (by simp; omega)))).mono ?_⟩
      rintro e W2 ⟨rfl, hB2, hb2, hk2⟩
      gi_wp2
      refine ⟨trivial, (CallsIn.inRound l (callsIn_wide.2 (bld_write _ (o ++ [10]) x.1 W2 hB2 (by simp; omega)))).mono ?_⟩
      rintro e W3 ⟨rfl, hB3, hb3, hk3⟩
      gi_wp2
      have hk := hk2.trans hk3
      exact ⟨(kept_others hB (Nat.le_trans hb2.size hb3.size) hk).from _, kept_box hBz hk, by rw [Hs.out, if_neg h0]; exact hB3, (hb.trans hb2).trans hb3, kept_box hBz hk hz⟩
  case done =>
    rintro D ys W hD ⟨k, hk, hys⟩ ⟨hB, hb, _⟩ hK
    rw [hys] at hB
    obtain ⟨hk', hpe⟩ := has_same hk (n := N) (fun h => by rw [hn h, HN.out])
    rw [hpe] at hB
    gi_wp2
    refine ⟨trivial, (callsIn_wide.2 (bld_string _ _ W hB)).mono ?_⟩
    rintro e W2 ⟨rfl, hb2, hk2⟩
    have hK2 := (kept_others hB hb2.size hk2).same D _ hK rfl
    gi_wp2
    refine ⟨by simp, .inl ⟨_, _, rfl, run_takeDeferred hK2, ?_⟩⟩
    exact ⟨_, results_tmp rfl _ _ _, k, hk', rfl, (hb.trans hb2).trans (belowK_b (w := w) (Nat.le_refl _) W2 D _ _ (by omega) hK2 rfl rfl)⟩
  case stop =>
    rintro D c pre W _ _ h _
    exact h.elim
end Go.Proofs.YtbjhaihfkncdoaaDoor
