/- slices.Collect and slices.AppendSeq over the pieces; the law's own helper first. -/
import Derived.Test.YtbjhaihfkncdoaaSeq
import Derived.Maps.AppendAt
namespace Go.Proofs.Ytbjhaihfkncdoaa
open Go.RowKit Go.Shelf
attribute [local go_sem] Oper.semAt_some
/-- The iterator over the pieces of L, of n bytes each. -/
abbrev gV (Bs Bz : Nat) : Value := .func (.func gF) #[] #[.pointer (some ⟨Bs, 0, none⟩), .pointer (some ⟨Bz, 0, none⟩)]
structure GIn (w : World) (Bs Bz n : Nat) (L : List UInt8) : Prop where
  n1 : L.length ≠ 0 → 1 ≤ n
  nm : n ≤ 9223372036854775807
  len : L.length ≤ 1000
  bs : Bs < w.heap.size
  bz : Bz < w.heap.size
  s : w.cell? ⟨Bs, 0, none⟩ = some (str L)
  z : Boxed w Bz 3 (.int .i64 (n : Int))
theorem GIn.later {w w' : World} {Bs Bz n : Nat} {L : List UInt8} (h : GIn w Bs Bz n L) (hb : Below w.heap.size w w') : GIn w' Bs Bz n L :=
  ⟨h.n1, h.nm, h.len, Nat.lt_of_lt_of_le h.bs hb.size, Nat.lt_of_lt_of_le h.bz hb.size, (hb.cell (p := ⟨Bs, 0, none⟩) h.bs).trans h.s, h.z.kept (grown_of_below hb none) (by simp)⟩
theorem GIn.stops {w : World} {Bs Bz n : Nat} {L : List UInt8} (h : GIn w Bs Bz n L) (F : Fence) (d : Nat) (h7 : F.fn gF) (hro : F.round = none) (hd : 1 ≤ d) :
    SeqStopsK F d Try.prog gF #[.pointer (some ⟨Bs, 0, none⟩), .pointer (some ⟨Bz, 0, none⟩)] (fun x : List UInt8 => #[str x]) (KpB Bz n) (fun ys => ∃ k, Has n L k ∧ ys = pieces n L k) (fun pre => ∃ k, (∀ j, j < k → j * n < L.length) ∧ pre = pieces n L k) L.length w :=
  groups_stopsZ F d h7 hro hd Bs Bz n L h.n1 h.nm w h.bs h.s h.z
set_option maxRecDepth 100000 in
set_option maxHeartbeats 2000000 in
theorem appendSeq_in (F : Fence) (d : Nat) (h3 : F.fn 39) (h5 : F.fn gF) (hro : F.round = none) (hd : 3 ≤ d) (Bs Bz n : Nat) (L : List UInt8) (w : World) (hG : GIn w Bs Bz n L) :
    CallsIn F d Try.prog 39 #[.slice none 0 0, gV Bs Bz] w fun e W' => ∃ v k, e = .returned v ∧ OwnT W' w.heap.size v (pieces n L k) ∧ Has n L k ∧ Below w.heap.size w W' := by
  have h1 : 1 ≤ d := by omega
  have hlen := hG.len
  obtain ⟨i0, hi, hz0, hz1, hz2⟩ := info_parts info_s
  refine callsIn_of_wp_marks Try.func39 rfl h3 ?_ hro
  simp only [Try.ntmps39, List.size_toArray, List.length_cons, List.length_nil, Nat.reduceAdd, Nat.reduceSub, Array.replicate_succ, Array.replicate_zero, List.push_toArray, List.append_toArray, List.nil_append, List.cons_append]
  gi_wp2
  have bO := Boxed.new w 38 (.slice none 0 0)
  have hB0 : Below w.heap.size w (w.alloc (.cells #[.slice none 0 0] 38)) := (Below.refl _ w).alloc (Nat.le_refl _) _
  refine wpIn_rangeFunc_ownG hro h1 (gf := gF) (lb := #[.pointer (some ⟨Bs, 0, none⟩), .pointer (some ⟨Bz, 0, none⟩)]) rfl h5 (enters_of Try.func40 (by kernel_rfl) rfl)
    ((hG.later hB0).stops F (d - 1) h5 hro (by omega)) kpB_t (kpB_b (by have := hG.bz; simp; omega)) (Below.refl _ _) (fun _ => rfl)
    (fun pre W => (∃ v, Boxed W w.heap.size 38 v ∧ W.ownsRow w.heap.size 9 1 v pre.length (pre.map str) ∧ (v = .slice none 0 0 ↔ pre = [])) ∧ Below w.heap.size w W)
    (fun _ _ _ => False)
    (OwnFrom.and (Own.from (holdsRow_own w.heap.size w.heap.size 38 9 1 (fun pre => pre.length) (fun pre => pre.map str) (fun pre v => v = .slice none 0 0 ↔ pre = [])) _) (ownFrom_below (Nat.le_refl _) (by simp)))
    (fun _ _ _ _ _ hs _ _ => hs)
    ⟨⟨_, bO, World.ownsRow_nil _ _ _ _, by simp⟩, hB0⟩
    (fun x => { tmps := #[.slice none 0 0, gV Bs Bz, .pointer (some ⟨w.heap.size, 0, none⟩), undef, .slice none 0 0, str x, gV Bs Bz, str x, undef, undef, undef, undef, undef], defers := [] }) ?assign ?body ?done ?stop
  case assign =>
    intro l x W K hK
    gi_wp2
    exact hK
  case body =>
    rintro l pre x W ⟨⟨v, hv, hrow, hnil⟩, hB⟩ hlt
    have hc := hv.cell
    gi_wp2_with (gi_at_builtin; refine wpListIn_append_own _ rfl _ _ 38 rfl w.heap.size 9 i0 (str []) 1 16 Try.underlying38 hi hz0 hz1 hz2 rfl (by decide) _ _ _ rfl (hrow.alloc _) ⟨W.heap.size, 0, none⟩ 1 1 [str x] rfl rfl (cell_one_new _ _ _) (by simp [Value.oneCell']) (by unfold maxLen; omega) (by omega) (by have := hB.size; simp; omega) ?_; intro v' w1 hown' hgrow _; obtain ⟨g', cap', rfl⟩ := ownsRow_succ hown'; obtain ⟨hv1, hv2, hr2, hk2, hb2⟩ := hv.appended (by decide) hrow hB.size (Nat.le_refl _) hown' hgrow; have hc1 := hv1.cell; have hf1 := hv1.frozen)
    exact ⟨hk2.from _, fun hz => (hb2.block Bz hG.bz).trans hz, ⟨_, hv2, by simpa using hr2, by simp⟩, hB.trans hb2⟩
  case done =>
    rintro D ys W hD ⟨k, hk, rfl⟩ ⟨⟨v, hv, hrow, hnil⟩, hB⟩ hK
    have hc := hv.cell
    gi_wp2
    refine ⟨by simp, .inl ⟨_, _, rfl, run_takeDeferred hK, ?_⟩⟩
    exact ⟨_, results_tmp rfl _ _ _, v, k, rfl, ownsRow_putObj hrow _ hK rfl, hk, hB.trans (belowK_b (w := w) (Nat.le_refl _) W D _ _ (by simp at hD; omega) hK rfl rfl)⟩
  case stop =>
    rintro D c pre W _ _ h _
    exact h.elim
theorem collect_in (F : Fence) (d : Nat) (h2 : F.fn 23) (h3 : F.fn 39) (h5 : F.fn gF) (hro : F.round = none) (hd : 4 ≤ d) (Bs Bz n : Nat) (L : List UInt8) (w : World) (hG : GIn w Bs Bz n L) :
    CallsIn F d Try.prog 23 #[gV Bs Bz] w fun e W' => ∃ v k, e = .returned v ∧ OwnT W' w.heap.size v (pieces n L k) ∧ Has n L k ∧ Below w.heap.size w W' := by
  refine callsIn_of_wp Try.func23 rfl h2 ?_ hro
  simp only [Try.ntmps23, List.size_toArray, List.length_cons, List.length_nil, Nat.reduceAdd, Nat.reduceSub, Array.replicate_succ, Array.replicate_zero, List.push_toArray, List.append_toArray, List.nil_append, List.cons_append]
  have h1 : 1 ≤ d := by omega
  gi_wp2
  refine (appendSeq_in F (d - 1) h3 h5 hro (by omega) Bs Bz n L w hG).mono ?_
  rintro e w' ⟨v, k, rfl, hO, hH, hb⟩
  gi_wp2
  go_ret
  exact ⟨_, k, rfl, hO, hH, hb⟩
end Go.Proofs.Ytbjhaihfkncdoaa
