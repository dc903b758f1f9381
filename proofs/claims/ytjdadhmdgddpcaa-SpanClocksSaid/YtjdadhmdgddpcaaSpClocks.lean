/- The statement SpanClocks, walked: a clock in memory; a slice of numbers that came in. -/
import Derived.Test.YtjdadhmdgddpcaaSpWf
import Derived.Test.YtjdadhmdgddpcaaMem
import Derived.Test.YtjdadhmdgddpcaaArgs0
namespace Go.Proofs.Ytjdadhmdgddpcaa
open Go.ChangeShapes Go.WideShapes Go.ChangeAt Go.RowKit
theorem cells_u64 : Try.prog.cellsOf 22 = 1 := by kernel_rfl
/-- The slice v holds the numbers zs. -/
def Sq (w : World) (B : Nat) (v : Value) (zs : List Int) : Prop :=
  ∃ A c, v = .slice A zs.length c ∧ zs.length ≤ c ∧ c ≤ 9223372036854775807 ∧ (0 < zs.length → ∃ b o, A = some ⟨b, o, none⟩ ∧ b < B ∧ ∀ j (h : j < zs.length), w.cell? ⟨b, o + j, none⟩ = some (u64v zs[j])) ∧ ∀ j (h : j < zs.length), 0 ≤ zs[j] ∧ zs[j] < 18446744073709551616
section
variable {H : Type} {enc : TypeId × Value → H}
theorem open_sq {W : World} {base : Nat} {v : Value} {d : DataW H} {ps : List MemPlace} (hval : Value.okWide Try.prog W .any base 37 v) (h : DataW.Trod enc Try.prog W 0 (fun _ => true) true 37 v d ps) :
    ∃ l : List Int, Sq W W.heap.size v l := by
  obtain ⟨a1, len, cap, rfl⟩ := okWide_slice Try.underlying37 hval
  obtain ⟨fuel, hf⟩ := h
  rcases open_ints Try.underlying37 Try.underlying22 cells_u64 hf with ⟨hcs, _⟩ | ⟨a, len', cap', zs, hcs, _, hl, hm, hz, _, hcell, hwz⟩
  · simp [Value.cells] at hcs
    obtain ⟨rfl, rfl, rfl⟩ := hcs
    exact ⟨[], none, 0, rfl, by simp, by omega, fun h => by simp at h, fun j h => by simp at h⟩
  · simp [Value.cells] at hcs
    obtain ⟨rfl, rfl, rfl⟩ := hcs
    simp only [if_true] at hz
    have hlen : (zs.take len).length = len := by simp; omega
    have e : ∀ j, j < len → ∀ (h2 : j < zs.length), zs.getD j 0 = zs[j] := fun j hj h2 => by simp [List.getD, List.getElem?_eq_getElem h2]
    refine ⟨zs.take len, some a, cap, by rw [hlen], by rw [hlen]; exact hl, by unfold maxLen at hm; omega, fun h0 => ?_, fun j h => ?_⟩
    · rw [hlen] at h0
      obtain ⟨ab, ao, spot⟩ := a
      have hspot : spot = none := by simpa [Addr.add] using World.cell?_spot (hcell 0 (by omega))
      subst hspot
      have hlt : ab < W.heap.size := by
        have := hcell 0 (by omega)
        rw [Addr.add_lit] at this
        exact World.block_lt_of_cell? W ⟨ab, ao + 0, none⟩ this
      refine ⟨ab, ao, rfl, hlt, fun j hj => ?_⟩
      rw [hlen] at hj
      have hcj := hcell j (by omega)
      rw [Addr.add_lit] at hcj
      rw [hcj, e j hj (by omega), List.getElem_take]
    · rw [hlen] at h
      have hb := range_u64 hwz j
      have e2 : zs[j]?.getD 0 = zs[j]'(by omega) := by simp [List.getElem?_eq_getElem (show j < zs.length by omega)]
      rw [e2] at hb
      rw [List.getElem_take]
      omega
end
set_option maxRecDepth 100000 in
theorem newClock_any (n : Int) (w : World) (h0 : 0 ≤ n) (h1 : n < 18446744073709551616) :
    Calls Try.prog 19 #[u64v n] w fun e w' => e = .returned (.pointer (some ⟨w.heap.size, 0, none⟩)) ∧ Blk w' w.heap.size [u64v (tI n)] ∧ Below w.heap.size w w' := by
  go_enter Try.func19, Try.ntmps19
  go_wp2_with fail
  refine (tick_any n w h0 h1).mono ?_
  rintro e w1 ⟨rfl, rfl⟩
  go_wp2_with fail
  go_ret
  exact ⟨rfl, Blk.newAt _ _ _ rfl rfl, (Below.refl _ _).alloc (Nat.le_refl _) _⟩
set_option maxRecDepth 100000 in
theorem now_any (g : Nat) (c : Int) (w : World) (h : Blk w g [u64v c]) :
    Calls Try.prog 20 #[.pointer (some ⟨g, 0, none⟩)] w fun e w' => e = .returned (u64v c) ∧ w' = w := by
  have c0 := h.at (o := 0) rfl
  clear h
  go_enter Try.func20, Try.ntmps20
  go_wp2_with fail
  go_ret
  exact ⟨rfl, rfl⟩
set_option maxRecDepth 100000 in
theorem now_nil (w : World) : Calls Try.prog 20 #[.pointer none] w fun e w' => e = .returned (u64v 0) ∧ w' = w := by
  go_enter Try.func20, Try.ntmps20
  go_wp2_with fail
  go_ret
  exact ⟨rfl, rfl⟩
set_option maxRecDepth 100000 in
theorem tickClock_nil (n : Int) (w : World) : Calls Try.prog 21 #[.pointer none, u64v n] w fun e w' => e = .returned (u64v 0) ∧ w' = w := by
  go_enter Try.func21, Try.ntmps21
  go_wp2_with fail
  go_ret
  exact ⟨rfl, rfl⟩
set_option maxRecDepth 100000 in
theorem tickClock_any (g : Nat) (c n : Int) (w : World) (h : Blk w g [u64v c]) (c0 : 0 ≤ c) (c1 : c < 18446744073709551616) (h0 : 0 ≤ n) (h1 : n < 18446744073709551616) :
    Calls Try.prog 21 #[.pointer (some ⟨g, 0, none⟩), u64v n] w fun e w' => e = .returned (u64v (tI (tI c + tI n))) ∧ Blk w' g [u64v (tI (tI c + tI n))] ∧ w.grownBy w' (some g) := by
  have d0 := h.at (o := 0) rfl
  have f0 := h.free 0
  have H := Lib.hid h; clear h
  go_enter Try.func21, Try.ntmps21
  go_wp2_with fail
  refine (add_any c n w c0 c1 h0 h1).mono ?_
  rintro e w1 ⟨rfl, rfl⟩
  obtain ⟨x, hx⟩ : ∃ x, x = tI (tI c + tI n) := ⟨_, rfl⟩
  rw [← hx]
  have HX := Lib.hid hx; clear hx
  go_wp2_with fail
  go_ret
  rw [← HX.out]
  exact ⟨rfl, H.out.set 0 _, grown_set _ _ _⟩
set_option maxRecDepth 100000 in
theorem within_any (a b c : Int) (w : World) (a0 : 0 ≤ a) (a1 : a < 18446744073709551616) (b0 : 0 ≤ b) (b1 : b < 18446744073709551616) :
    Calls Try.prog 22 #[u64v a, u64v b, u64v c] w fun e w' => e = .returned (.bool (decide (b ≤ a ∧ a - b ≤ c))) ∧ w' = w := by
  by_cases h : b ≤ a
  all_goals
    go_enter Try.func22, Try.ntmps22
    go_wp2_with fail
    go_ret
    exact ⟨by first | (simp [h]; done) | (simp; omega), rfl⟩
set_option maxRecDepth 100000 in
set_option maxHeartbeats 2000000 in
theorem spanClocks_law (B : Nat) (nw fr wi : Int) (v : Value) (zs : List Int) (w : World) (n0 : 0 ≤ nw) (n1 : nw < 18446744073709551616) (hs : Sq w B v zs) (f0 : 0 ≤ fr) (f1 : fr < 18446744073709551616) (hB : B ≤ w.heap.size) :
    Calls Try.prog 7 #[u64v nw, v, u64v fr, u64v wi] w fun e w' => e = .returned (.bool true) ∧ Below w.heap.size w w' := by
  obtain ⟨A, cp, rfl, hc1, hc2, hc3, hc4⟩ := hs
  have H3 := Lib.hid hc3; clear hc3
  have H4 := Lib.hid hc4; clear hc4
  obtain ⟨t, ht⟩ : ∃ t, t = tI nw := ⟨_, rfl⟩
  have ht0 : 0 ≤ t ∧ t ≤ 1099511627776 := by rw [ht, tI_def]; omega
  have HT := Lib.hid ht; clear ht
  go_enter Try.func7, Try.ntmps7
  go_wp2_with fail
  refine (awake_any w).mono ?_
  rintro e w1 ⟨rfl, hb⟩
  have HB1 := Lib.hid hb; clear hb
  go_wp2_with fail
  refine (newClock_any nw w1 n0 n1).mono ?_
  rintro e w2 ⟨rfl, hk, hb2⟩
  rw [← HT.out] at hk
  obtain ⟨g, hg⟩ : ∃ g, g = w1.heap.size := ⟨_, rfl⟩
  rw [← hg] at hk ⊢
  have hgw : w.heap.size ≤ g := by have := HB1.out.size; omega
  have HB2 := Lib.hid (HB1.out.trans (hb2.mono HB1.out.size)); clear HB1 hb2 hg
  have HK := Lib.hid hk; clear hk
  go_wp2_with fail
  refine (refTick_any nw w2 n0 n1).mono ?_
  rintro e w3 ⟨rfl, rfl⟩
  rw [← HT.out]
  go_wp2_with fail
  clear HT
  go_loopw [10, 11, 12, 23] (fun c _ _ i wr => ∃ (k : Nat) (x : Int), k ≤ zs.length ∧ i = .int .i64 k ∧ c = u64v x ∧ 0 ≤ x ∧ x ≤ 1099511627776 ∧ Blk wr g [u64v x] ∧ Below w.heap.size w wr) (fun _ _ _ i _ => zs.length - (intOf i).toNat)
  case atStart => exact ⟨0, t, by omega, by simp, rfl, ht0.1, ht0.2, HK.out, HB2.out⟩
  case round =>
    obtain ⟨k, x, hk, rfl, rfl, hx0, hx1, hKr, hBr⟩ := hrel
    have HKr := Lib.hid hKr; clear hKr
    have HBr := Lib.hid hBr; clear hBr
    by_cases hlt : k < zs.length
    · obtain ⟨b, o, rfl, hb, hcs⟩ := H3.out (by omega)
      obtain ⟨hz0, hz1⟩ := H4.out k hlt
      have hc := hcs k hlt
      obtain ⟨z, hz⟩ : ∃ z, z = zs[k] := ⟨_, rfl⟩
      rw [← hz] at hz0 hz1 hc
      have hcell : wr.cell? ⟨b, o + k, none⟩ = some (u64v z) := (HBr.out.cell (p := ⟨b, o + k, none⟩) (by show b < w.heap.size; omega)).trans hc
      clear hz hcs hc
      by_cases h20 : k < 20
      · obtain ⟨y, hy⟩ : ∃ y, y = tI (tI x + tI z) := ⟨_, rfl⟩
        have hxy : x ≤ y ∧ y ≤ 1099511627776 := by
          have h1 := tI_range hz0
          rw [hy, tI_def, tI_id hx1]; omega
        have hd : decide (y < x) = false := by simp; omega
        have hA := fun W => refAdd_any x z W hx0 (by omega) hz0 hz1
        have hTk := fun W h => tickClock_any g x z W h hx0 (by omega) hz0 hz1
        rw [← hy] at hA hTk
        have HA := Lib.hid hA; clear hA
        have HTk := Lib.hid hTk; clear hTk hy
        go_wp2_with fail
        refine (HA.out _).mono ?_
        rintro e w5 ⟨rfl, rfl⟩
        go_wp2_with fail
        refine (now_any g x w5 HKr.out).mono ?_
        rintro e w6 ⟨rfl, rfl⟩
        go_wp2_with fail
        refine (HTk.out w6 HKr.out).mono ?_
        rintro e w7 ⟨rfl, hk7, hg7⟩
        have HK7 := Lib.hid hk7; clear hk7
        have HB7 := Lib.hid (HBr.out.grown hg7 HBr.out.size (fun j e => by cases e; omega)); clear hg7
        go_wp2_with fail
        refine (now_any g y w7 HK7.out).mono ?_
        rintro e w8 ⟨rfl, rfl⟩
        go_wp2_with fail
        go_roundw
        case rel => exact ⟨k + 1, y, by omega, by go_num, rfl, by omega, by omega, HK7.out, HB7.out⟩
        case measure => simp [intOf]; omega
      · have hin : ∀ W, Calls Try.prog 22 #[u64v nw, u64v fr, u64v wi] W fun e w' => e = .returned (.bool (decide (fr ≤ nw ∧ nw - fr ≤ wi))) ∧ w' = W := fun W => within_any nw fr wi W n0 n1 f0 f1
        have HIN := Lib.hid hin; clear hin
        by_cases hfn : fr ≤ nw
        all_goals
          go_wp2_with fail
          refine (now_any g x wr HKr.out).mono ?_
          rintro e w5 ⟨rfl, rfl⟩
          go_wp2_with fail
          refine (now_nil w5).mono ?_
          rintro e w6 ⟨rfl, rfl⟩
          go_wp2_with fail
          refine (tickClock_nil 5 w6).mono ?_
          rintro e w7 ⟨rfl, rfl⟩
          go_wp2_with fail
          refine (HIN.out w7).mono ?_
          rintro e w8 ⟨rfl, rfl⟩
          go_wp2_with fail
          go_ret
          exact ⟨by first | rfl | (simp; done) | (simp [hfn]; done) | (simp; omega), HBr.out⟩
    · obtain rfl : k = zs.length := by omega
      have hin : ∀ W, Calls Try.prog 22 #[u64v nw, u64v fr, u64v wi] W fun e w' => e = .returned (.bool (decide (fr ≤ nw ∧ nw - fr ≤ wi))) ∧ w' = W := fun W => within_any nw fr wi W n0 n1 f0 f1
      have HIN := Lib.hid hin; clear hin
      by_cases hfn : fr ≤ nw
      all_goals
        go_wp2_with fail
        refine (now_any g x wr HKr.out).mono ?_
        rintro e w5 ⟨rfl, rfl⟩
        go_wp2_with fail
        refine (now_nil w5).mono ?_
        rintro e w6 ⟨rfl, rfl⟩
        go_wp2_with fail
        refine (tickClock_nil 5 w6).mono ?_
        rintro e w7 ⟨rfl, rfl⟩
        go_wp2_with fail
        refine (HIN.out w7).mono ?_
        rintro e w8 ⟨rfl, rfl⟩
        go_wp2_with fail
        go_ret
        exact ⟨by first | rfl | (simp; done) | (simp [hfn]; done) | (simp; omega), HBr.out⟩
theorem spanClocks_wf (B : Nat) (nw : Int) (v : Value) (zs : List Int) (fr wi : Int) (w : World) (h1 : (Lit.int .u64 nw).wf = true) (hs : Sq w B v zs) (h3 : (Lit.int .u64 fr).wf = true) (_ : (Lit.int .u64 wi).wf = true) (hB : B ≤ w.heap.size) :
    Calls Try.prog 7 #[u64v nw, v, u64v fr, u64v wi] w fun e w' => e = .returned (.bool true) ∧ Below w.heap.size w w' :=
  spanClocks_law B nw fr wi v zs w (wfq h1).1 (wfq h1).2 hs (wfq h3).1 (wfq h3).2 hB
end Go.Proofs.Ytjdadhmdgddpcaa
