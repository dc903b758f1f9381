/- The reference's Reader: Feed and Next. -/
import Derived.Test.YtgldfobfchnkeaaFrNext
import Derived.Deep.RegionLaw
namespace Go.Proofs.Ytgldfobfchnkeaa
open Go.RowKit

theorem slice_hQ (A : Option Addr) (n c k : Nat) (K : Int) (hK : K = (k : Int)) (hk : k ≤ c) (w : World) : (Instr.slice 22 (.slice A n c) none (some (.int .i64 K)) none).run Try.prog w = .ok (.slice A k c) w := by
  rw [hK]; exact slice_h A n c k hk w
set_option maxHeartbeats 400000 in
theorem rfeed_nil (v : Value) (w : World) : Calls Try.prog 22 #[.pointer none, v] w fun e w' => e = .returned (.int .i64 0) ∧ w = w' := by
  go_enter Try.func22, Try.ntmps22
  go_wp2_with fail
  go_ret
  exact ⟨rfl, rfl⟩
set_option maxHeartbeats 400000 in
theorem rfeed_bad {w : World} {g bad : Nat} {V : Value} (h : Blk w g [V, .int .i64 (bad : Int)]) (hb : bad ≠ 0) (v : Value) : Calls Try.prog 22 #[.pointer (some ⟨g, 0, none⟩), v] w fun e w' => e = .returned (.int .i64 0) ∧ w = w' := by
  have c1 := h.at (o := 1) rfl
  clear h
  have hb2 : ((bad : Int) != 0) = true := by simp; omega
  go_enter Try.func22, Try.ntmps22
  go_wp2_with fail
  go_ret
  exact ⟨rfl, rfl⟩
set_option maxRecDepth 100000 in
set_option maxHeartbeats 1000000 in
theorem rfeed_any {w : World} {g : Nat} {V : Value} {l : List UInt8} (h : Blk w g [V, .int .i64 0]) (hs : Sl w w.heap.size V l) (hl : l.length ≤ 8192) (B : Nat) (v : Value) (p : List UInt8) (hv : Sl w B v p) (hB : B ≤ w.heap.size) (n : Nat) (hn : n = if p.length ≤ 8192 - l.length then p.length else 8192 - l.length) :
    Calls Try.prog 22 #[.pointer (some ⟨g, 0, none⟩), v] w fun e w' => e = .returned (.int .i64 (n : Int)) ∧ ∃ V', Blk w' g [V', .int .i64 0] ∧ OwnB w' w.heap.size V' (l ++ p.take n) ∧ w.grownBy w' (some g) := by
  have hnp : n ≤ p.length ∧ l.length + n ≤ 8192 := by split at hn <;> omega
  obtain ⟨hnp, hfit⟩ := hnp
  have hstop : ∀ k : Nat, k < n → (k : Int) < (p.length : Int) ∧ (l.length : Int) + (k : Int) < 8192 := by split at hn <;> (intro k hk; omega)
  have hend : ¬ ((n : Int) < (p.length : Int) ∧ (l.length : Int) + (n : Int) < 8192) := by split at hn <;> omega
  have HK := Lib.hid h
  have HS := Lib.hid hs
  have HV := Lib.hid hv
  have HST := Lib.hid hstop; clear hstop
  have hgl := h.lt
  obtain ⟨A, c, rfl, _, k1, k2, _⟩ := hv
  obtain ⟨VA, VC, rfl, _, m1, m2, _⟩ := hs
  have c0 := h.at (o := 0) rfl
  have c1 := h.at (o := 1) rfl
  have f0 := h.free 0
  clear h hn
  have hrun := slice_h A p.length c n (by omega)
  have HSn : Hid (Sl w B (.slice A n c) (p.take n)) := Lib.hid (by
    obtain ⟨A2, c2, e2, _, _, _, hsl⟩ := HV.out.take n hnp
    injection e2 with e3 _ e4
    subst e3; subst e4
    exact hsl)
  have Hq : Hid ((p.take n).length = n) := Lib.hid (by rw [List.length_take]; omega)
  have Hlq : Hid ((l ++ p.take n).length = l.length + n) := Lib.hid (by rw [List.length_append, List.length_take]; omega)
  go_enter Try.func22, Try.ntmps22
  go_wp2_with fail
  go_loop [5] (fun i => ∃ k : Nat, k ≤ n ∧ i = .int .i64 (k : Int)) (fun i => n - (intOf i).toNat)
  case atStart => exact ⟨0, by omega, rfl⟩
  case round =>
    obtain ⟨k, hk, rfl⟩ := hrel
    by_cases hlt : k < n
    · obtain ⟨q1, q2⟩ := HST.out k hlt
      go_wp2_with fail
      go_round
      case rel => exact ⟨k + 1, by omega, by go_num⟩
      case measure => simp [intOf]; omega
    · obtain rfl : k = n := by omega
      by_cases hq : (k : Int) < (p.length : Int)
      · have hq2 : ¬ (l.length : Int) + (k : Int) < 8192 := fun h => hend ⟨hq, h⟩
        clear hend
        go_wp2_with fail
        go_region_law (first
          | (go_simp; go_at_call 10; refine (copy_any w.heap.size (.slice VA l.length VC) l _ (HS.out.below (Below.refl w.heap.size w).drew (Nat.le_refl _)) (Nat.le_refl _) (by omega)).mono ?_; rintro e w2 ⟨v1, rfl, hO, hb⟩; have hk2 := HK.out.drew.below hb (by simpa using hgl); have e0 := hk2.at (o := 0) rfl; have e1 := hk2.free 0; have HO := Lib.hid hO; clear hO; have HB2 := Lib.hid hb; have hs2 : w.heap.size ≤ w2.heap.size := hb.size; clear hb; have HK2 := Lib.hid hk2; clear hk2)
          | (refine step_app_sl rfl (.tmp 36) (.tmp 39) rfl w.heap.size v1 l (p.take k) (by go_simp) (by exact HO.out) B (.slice A k c) (by go_simp) (by exact (HSn.out.below (Below.refl w.heap.size w).drew hB).below HB2.out hB) (by rw [Hq.out]; omega) hs2 ?_; intro v2 w3 hv hg ho; obtain ⟨A3, c3, rfl, _, _, _, _⟩ := hv.sl; rw [Hlq.out] at hv; have hne : some g ≠ v1.ownBlock := (fun e => by have := (HO.out.lt g e.symm).1; simp at this; omega); have hk3 := HK2.out.grown hg hne; have e2 := hk3.at (o := 0) rfl; have e3 := hk3.free 0; have HK3 := Lib.hid hk3; clear hk3; have HV3 := Lib.hid hv; clear hv; have HG3 := Lib.hid hg; clear hg; clear ho; clear hne))
        all_goals
          go_wp2_with fail
          go_ret
          refine ⟨rfl, _, HK3.out.set 0 _, HV3.out.kept (grown_set w3 ⟨g, 0, none⟩ _) (.inr (fun e => by have := (HV3.out.lt g e).1; omega)), ?_⟩
          have hb3 : Below w.heap.size w w3 := ((Below.refl w.heap.size w).drew.trans HB2.out).trans (HO.out.belowBase HG3.out hs2)
          exact (grown_of_below hb3 (some g)).trans (grown_set w3 ⟨g, 0, none⟩ _)
      · clear hend
        go_wp2_with fail
        go_region_law (first
          | (go_simp; go_at_call 10; refine (copy_any w.heap.size (.slice VA l.length VC) l _ (HS.out.below (Below.refl w.heap.size w).drew (Nat.le_refl _)) (Nat.le_refl _) (by omega)).mono ?_; rintro e w2 ⟨v1, rfl, hO, hb⟩; have hk2 := HK.out.drew.below hb (by simpa using hgl); have e0 := hk2.at (o := 0) rfl; have e1 := hk2.free 0; have HO := Lib.hid hO; clear hO; have HB2 := Lib.hid hb; have hs2 : w.heap.size ≤ w2.heap.size := hb.size; clear hb; have HK2 := Lib.hid hk2; clear hk2)
          | (refine step_app_sl rfl (.tmp 36) (.tmp 39) rfl w.heap.size v1 l (p.take k) (by go_simp) (by exact HO.out) B (.slice A k c) (by go_simp) (by exact (HSn.out.below (Below.refl w.heap.size w).drew hB).below HB2.out hB) (by rw [Hq.out]; omega) hs2 ?_; intro v2 w3 hv hg ho; obtain ⟨A3, c3, rfl, _, _, _, _⟩ := hv.sl; rw [Hlq.out] at hv; have hne : some g ≠ v1.ownBlock := (fun e => by have := (HO.out.lt g e.symm).1; simp at this; omega); have hk3 := HK2.out.grown hg hne; have e2 := hk3.at (o := 0) rfl; have e3 := hk3.free 0; have HK3 := Lib.hid hk3; clear hk3; have HV3 := Lib.hid hv; clear hv; have HG3 := Lib.hid hg; clear hg; clear ho; clear hne))
        all_goals
          go_wp2_with fail
          go_ret
          refine ⟨rfl, _, HK3.out.set 0 _, HV3.out.kept (grown_set w3 ⟨g, 0, none⟩ _) (.inr (fun e => by have := (HV3.out.lt g e).1; omega)), ?_⟩
          have hb3 : Below w.heap.size w w3 := ((Below.refl w.heap.size w).drew.trans HB2.out).trans (HO.out.belowBase HG3.out hs2)
          exact (grown_of_below hb3 (some g)).trans (grown_set w3 ⟨g, 0, none⟩ _)
end Go.Proofs.Ytgldfobfchnkeaa
