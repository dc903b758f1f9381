/- The statement B64Groups' own text, walked. -/
import Derived.Test.YtbjhaihfkncdoaaWrap
import Derived.Test.YtbjhaihfkncdoaaAwake3
namespace Go.Proofs.Ytbjhaihfkncdoaa
open Go.RowKit Go.Shelf
/-- The slice v holds the texts ps. -/
def TS (w : World) (B : Nat) (v : Value) (ps : List (List UInt8)) : Prop :=
  ∃ A c, v = .slice A ps.length c ∧ ps.length ≤ c ∧ c ≤ 9223372036854775807 ∧ (0 < ps.length → ∃ b, A = some ⟨b, 0, none⟩ ∧ b < B ∧ ∀ j, j < ps.length → w.cell? ⟨b, j, none⟩ = some (str (ps.getD j [])))
theorem OwnT.ts {w : World} {base : Nat} {v : Value} {ps : List (List UInt8)} (h : OwnT w base v ps) : TS w w.heap.size v ps := by
  rcases h.form with ⟨rfl, rfl⟩ | ⟨g, c, rfl, h1, h2, h3, h4, h5⟩
  · exact ⟨none, 0, rfl, by simp, by omega, by simp⟩
  · refine ⟨_, c, rfl, h3, by unfold maxLen at h4; omega, fun _ => ⟨g, rfl, h2, fun j hj => ?_⟩⟩
    rw [h5 j hj, List.getD_eq_getElem?_getD, List.getElem?_eq_getElem hj]; rfl
theorem TS.below {w w' : World} {B B' : Nat} {v : Value} {ps : List (List UInt8)} (h : TS w B v ps) (hb : Below B' w w') (hB : B ≤ B') : TS w' B v ps := by
  obtain ⟨A, c, h1, h2, h3, h4⟩ := h
  refine ⟨A, c, h1, h2, h3, fun h0 => ?_⟩
  obtain ⟨b, e, hb', hc⟩ := h4 h0
  exact ⟨b, e, hb', fun j hj => (hb.cell (p := ⟨b, j, none⟩) (by show b < B'; omega)).trans (hc j hj)⟩
theorem TS.take {w : World} {B : Nat} {v : Value} {ps : List (List UInt8)} (h : TS w B v ps) (k : Nat) (hk : k ≤ ps.length) : ∃ A c, v = .slice A ps.length c ∧ k ≤ c ∧ TS w B (.slice A k c) (ps.take k) := by
  obtain ⟨A, c, rfl, h2, h3, h4⟩ := h
  have e : (ps.take k).length = k := by rw [List.length_take]; omega
  refine ⟨A, c, rfl, by omega, A, c, by rw [e], by omega, h3, fun h0 => ?_⟩
  obtain ⟨b, rfl, hb, hc⟩ := h4 (by omega)
  refine ⟨b, rfl, hb, fun j hj => ?_⟩
  rw [hc j (by omega)]
  simp only [List.getD_eq_getElem?_getD, List.getElem?_take]
  rw [if_pos (by omega)]
theorem equal_same (B1 B2 : Nat) (v1 v2 : Value) (ps : List (List UInt8)) (w : World) (h1 : TS w B1 v1 ps) (h2 : TS w B2 v2 ps) :
    Calls Try.prog 26 #[v1, v2] w fun e w' => e = .returned (.bool true) ∧ Below w.heap.size w w' := by
  obtain ⟨A1, c1, rfl, k1, k2, k3⟩ := h1
  obtain ⟨A2, c2, rfl, m1, m2, m3⟩ := h2
  by_cases h0 : 0 < ps.length
  · obtain ⟨b1, rfl, _, hc1⟩ := k3 h0
    obtain ⟨b2, rfl, _, hc2⟩ := m3 h0
    have hl : (ps.map fun x => ByteArray.mk x.toArray).length = ps.length := List.length_map ..
    have hd : ∀ j, j < ps.length → Value.string ((ps.map fun x => ByteArray.mk x.toArray).getD j ByteArray.empty) = str (ps.getD j []) := fun j hj => by
      simp [List.getD_eq_getElem?_getD, List.getElem?_eq_getElem hj]
    refine (Try.slices_Equal_string b1 0 ps.length c1 b2 0 ps.length c2 (ps.map fun x => ByteArray.mk x.toArray) (ps.map fun x => ByteArray.mk x.toArray) w (by omega) (by omega) (by omega) (by omega)
      (fun j hj => by rw [Nat.zero_add, hd j (by omega)]; exact hc1 j (by omega)) (fun j hj => by rw [Nat.zero_add, hd j (by omega)]; exact hc2 j (by omega))).mono ?_
    rintro e w' ⟨rfl, q, rfl⟩
    exact ⟨by simp, below_drewN (Below.refl _ _) q⟩
  · have h00 : ps.length = 0 := by omega
    rw [h00]
    refine (Try.slices_Equal_string_empty A1 A2 c1 0 c2 w (by omega)).mono ?_
    rintro e w' ⟨rfl, rfl⟩
    exact ⟨by simp, Below.refl _ _⟩
theorem slice_hT (A : Option Addr) (n c k : Nat) (hk : k ≤ c) (w : World) : (Instr.slice 38 (.slice A n c) none (some (.int .i64 (k : Int))) none).run Try.prog w = .ok (.slice A k c) w := by
  rw [run_slice_h w 38 A n c Try.underlying38 .i64 k (by omega) (by omega)]
  by_cases h0 : c = 0 <;> simp [sliced, go_sem, h0]
set_option maxRecDepth 100000 in
set_option maxHeartbeats 1000000 in
theorem groups_law (s : List UInt8) (sz u : Int) (w : World) (hs : s.length ≤ 9223372036854775807) (h1 : sz ≤ 9223372036854775807) (h2 : -9223372036854775808 ≤ sz) (u0 : 0 ≤ u) (u1 : u ≤ 255) :
    Calls Try.prog 5 #[str s, .int .i64 sz, .int .u8 u] w fun e w' => e = .returned (.bool true) ∧ Below w.heap.size w w' := by
  obtain ⟨mm, hmm⟩ : ∃ mm : Nat, 1 + u % 5 = (mm : Int) := ⟨(1 + u % 5).toNat, by omega⟩
  have hm1 : 1 ≤ mm := by omega
  have hm5 : mm ≤ 5 := by omega
  go_enter Try.func5, Try.ntmps5
  go_wp2_with fail
  refine (awake3 w).mono ?_
  rintro e w1 ⟨rfl, hb⟩
  have HB1 := Lib.hid hb; clear hb
  go_wp2_with fail
  refine (cutText_any s 200 w1 hs (by decide) (by decide)).mono ?_
  rintro e w2 ⟨rfl, rfl⟩
  obtain ⟨L, hL⟩ : ∃ L, L = s.take (200 : Int).toNat := ⟨_, rfl⟩
  have hLl : L.length ≤ 200 := by rw [hL, List.length_take]; exact Nat.min_le_left _ _
  rw [← hL]
  clear hL
  go_wp2_with fail
  refine (groups_any L sz w1 (by omega) h1 h2).mono ?_
  rintro e w2 ⟨rfl, n, hn, hnm, rfl⟩
  go_wp2_with fail
  have hG := GIn.new w1 n L (fun h => by rw [hn h]; exact npc_pos sz L) hnm (by omega)
  have HB2 := Lib.hid ((HB1.out.alloc HB1.out.size (.cells #[str L] 9)).alloc (by have := HB1.out.size; simp; omega) (.cells #[.int .i64 (n : Int)] 3)); clear HB1
  generalize hW2 : World.alloc _ _ = w2 at hG HB2 ⊢
  clear hW2
  obtain ⟨N, hN⟩ : ∃ N, N = npc sz L := ⟨_, rfl⟩
  rw [← hN] at hn
  have HN := Lib.hid hN; clear hN
  refine ((callsIn_wide (n := 6)).1 (collect_in Fence.wide 6 trivial trivial trivial rfl (by omega) _ _ n L w2 hG)).mono ?_
  rintro e w3 ⟨v1, k, rfl, hO, hH, hb⟩
  obtain ⟨hH1, hp⟩ := has_same hH hn
  rw [hp] at hO
  have HV1 := Lib.hid hO.ts; clear hO hH hp hn
  have HB3 := Lib.hid (HB2.out.trans (hb.mono HB2.out.size)); clear hb HB2 hG
  go_wp2_with fail
  refine (refGroups_any sz L w3 (by omega) h1 h2).mono ?_
  rintro e w4 ⟨v2, k', rfl, hO, hH, hb⟩
  rw [← HN.out] at hO hH
  obtain rfl := hH1.one hH
  have HV2 := Lib.hid hO.ts; clear hO
  have HV1' := Lib.hid (HV1.out.below hb (Nat.le_refl _)); clear HV1
  have HB4 := Lib.hid (HB3.out.trans (hb.mono HB3.out.size)); clear hb HB3
  have HH := Lib.hid hH; clear hH hH1
  go_wp2_with fail
  refine (equal_same _ _ v1 v2 _ w4 HV1'.out HV2.out).mono ?_
  rintro e w5 ⟨rfl, hb⟩
  have HV5 := Lib.hid (HV2.out.below hb (Nat.le_refl _)); clear HV1' HV2
  have hs45 := hb.size
  have HB5 := Lib.hid (HB4.out.trans (hb.mono HB4.out.size)); clear hb HB4
  go_wp2_with fail
  refine (wrap_any L sz w5 (by omega) h1 h2).mono ?_
  rintro e w6 ⟨k', hH, rfl, hb⟩
  rw [← HN.out] at hH ⊢
  obtain rfl := HH.out.one hH
  clear hH
  have hs56 := hb.size
  have HV6 := Lib.hid (HV5.out.below hb hs45); clear HV5
  have HB6 := Lib.hid (HB5.out.trans (hb.mono HB5.out.size)); clear hb HB5
  obtain ⟨y, hy⟩ : ∃ y, y = wrapT (pieces N L k) := ⟨_, rfl⟩
  rw [← hy]
  have HY := Lib.hid hy; clear hy
  go_wp2_with fail
  refine (refWrap_any sz L w6 (by omega) h1 h2).mono ?_
  rintro e w7 ⟨k', hH, rfl, hb⟩
  rw [← HN.out] at hH ⊢
  obtain rfl := HH.out.one hH
  clear hH
  rw [← HY.out]
  have hs67 := hb.size
  have HV7 := Lib.hid (HV6.out.below hb (by omega)); clear HV6
  have HB7 := Lib.hid (HB6.out.trans (hb.mono HB6.out.size)); clear hb HB6
  go_wp2_with fail
  refine (first_any L sz mm w7 (by omega) h1 h2 hm1 (by omega)).mono ?_
  rintro e w8 ⟨v3, k', rfl, hO, hH, hb⟩
  rw [← HN.out] at hO hH
  obtain rfl := HH.out.one hH
  clear hH
  have HV3 := Lib.hid hO.ts; clear hO
  have HV8 := Lib.hid (HV7.out.below hb (by omega)); clear HV7
  have HB8 := Lib.hid (HB7.out.trans (hb.mono HB7.out.size)); clear hb HB7
  obtain ⟨q, hq⟩ : ∃ q, q = min k mm := ⟨_, rfl⟩
  have hqk : q ≤ k := by omega
  obtain ⟨A, c, e2, hqc, hT⟩ := HV8.out.take q (by rw [pieces_len]; exact hqk)
  rw [pieces_len] at e2
  subst e2
  rw [pieces_take N L k q hqk] at hT
  rw [← hq] at HV3
  have HT := Lib.hid hT; clear hT HV8
  have hmin : min (k : Int) (mm : Int) = (q : Int) := by omega
  have hrun := slice_hT A k c q hqc
  clear hq
  go_wp2_with fail
  refine (equal_same _ _ v3 (.slice A q c) _ w8 HV3.out HT.out).mono ?_
  rintro e w9 ⟨rfl, hb⟩
  have HB9 := Lib.hid (HB8.out.trans (hb.mono HB8.out.size)); clear hb HB8
  go_wp2_with fail
  go_ret
  exact ⟨rfl, HB9.out⟩
theorem wf_64 {n : Int} (h : (Lit.int .i64 n).wf = true) : -9223372036854775808 ≤ n ∧ n ≤ 9223372036854775807 := by
  unfold Lit.wf at h
  simp only [Bool.and_eq_true, decide_eq_true_eq] at h
  have a : IntKind.i64.min = -9223372036854775808 := by decide
  have b : IntKind.i64.max = 9223372036854775807 := by decide
  omega
theorem wf_8 {n : Int} (h : (Lit.int .u8 n).wf = true) : 0 ≤ n ∧ n ≤ 255 := by
  unfold Lit.wf at h
  simp only [Bool.and_eq_true, decide_eq_true_eq] at h
  have a : IntKind.u8.min = 0 := by decide
  have b : IntKind.u8.max = 255 := by decide
  omega
theorem groups_wf (s : List UInt8) (sz u : Int) (w : World) (hs : s.length ≤ 9223372036854775807) (h1 : (Lit.int .i64 sz).wf = true) (h2 : (Lit.int .u8 u).wf = true) :
    Calls Try.prog 5 #[str s, .int .i64 sz, .int .u8 u] w fun e w' => e = .returned (.bool true) ∧ Below w.heap.size w w' :=
  groups_law s sz u w hs (wf_64 h1).2 (wf_64 h1).1 (wf_8 h2).1 (wf_8 h2).2
end Go.Proofs.Ytbjhaihfkncdoaa
