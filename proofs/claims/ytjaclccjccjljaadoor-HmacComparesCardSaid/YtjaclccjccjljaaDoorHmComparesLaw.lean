/- The statement HmacCompares' own text, walked. -/
import Derived.Test.YtjaclccjccjljaaDoorHmB
import Derived.Test.YtjaclccjccjljaaDoorHmAwake
import Derived.Deep.DeepCutAuto
namespace Go.Proofs.YtjaclccjccjljaaDoor
open Go.RowKit
set_option maxRecDepth 100000 in
set_option maxHeartbeats 2000000 in
theorem hmacCompares_law (B : Nat) (v1 v2 : Value) (l1 l2 : List UInt8) (w : World) (h1 : Sl w B v1 l1) (h2 : Sl w B v2 l2) (hB : B ≤ w.heap.size) (hT : TabA w) :
    Calls Tryd.prog 7 #[v1, v2] w fun e w' => e = .returned (.bool true) ∧ Below w.heap.size w w' := by
  have HT := Lib.hid hT; clear hT
  have H1 := Lib.hid h1; clear h1
  have H2 := Lib.hid h2; clear h2
  go_enter Tryd.func7, Tryd.ntmps7
  go_wp2_with fail
  refine (awake2 w HT.out).mono ?_
  rintro e w1 ⟨rfl, hB1⟩
  have HB1 := Lib.hid hB1; clear hB1
  have hz1 := HB1.out.size
  go_wp2_with fail
  refine (cut_any B v1 l1 60 w1 (H1.out.below HB1.out hB) (by omega) (by omega) (by omega)).mono ?_
  rintro e w2 ⟨a1, rfl, hO, hB2⟩
  obtain ⟨a, ha⟩ : ∃ a, a = l1.take (60 : Int).toNat := ⟨_, rfl⟩
  rw [← ha] at hO
  have hla : a.length ≤ 60 := by rw [ha, List.length_take]; omega
  clear ha
  have HA := Lib.hid hO.sl; clear hO
  have HB2 := Lib.hid (HB1.out.trans (hB2.mono hz1)); clear hB2
  have hz2 := HB2.out.size
  go_wp2_with fail
  refine (cut_any B v2 l2 60 w2 (H2.out.below HB2.out hB) (by omega) (by omega) (by omega)).mono ?_
  rintro e w3 ⟨a2, rfl, hO, hB3⟩
  obtain ⟨b, hb⟩ : ∃ a, a = l2.take (60 : Int).toNat := ⟨_, rfl⟩
  rw [← hb] at hO
  have hlb : b.length ≤ 60 := by rw [hb, List.length_take]; omega
  clear hb
  have HBb := Lib.hid hO.sl; clear hO
  have HA3 := Lib.hid (HA.out.fwd hB3)
  have HB3 := Lib.hid (HB2.out.trans (hB3.mono hz2)); clear hB3
  have hz3 := HB3.out.size
  obtain ⟨A1, c1, e1, _, hac, _⟩ := id HA3.out
  subst e1
  obtain ⟨A2, c2, e2, _⟩ := id HBb.out
  subst e2
  obtain ⟨n, hn⟩ : ∃ n, n = min a.length b.length := ⟨_, rfl⟩
  have hcase : ((a.length : Int) ≤ (b.length : Int) ∧ n = a.length) ∨ ((b.length : Int) < (a.length : Int) ∧ n = b.length) := by omega
  have hna : n ≤ a.length := by omega
  have HN := Lib.hid hn; clear hn
  have hxl : (xorL a b).length = n := by rw [xorL_length, HN.out]
  have hxb : xorL (xorL a b) b = a.take n := by rw [xor_back, HN.out]
  obtain ⟨x, hx⟩ : ∃ x, x = xorL a b := ⟨_, rfl⟩
  have hxx := fun W h3 h4 => xor_any W.heap.size (.slice A1 a.length c1) (.slice A2 b.length c2) a b W h3 h4 (Nat.le_refl _) (by omega) (by omega)
  have hrx := fun W h3 h4 => refXor_any W.heap.size (.slice A1 a.length c1) (.slice A2 b.length c2) a b W h3 h4 (Nat.le_refl _) (by omega) (by omega)
  rw [← hx] at hxx hrx hxl hxb
  have HXX := Lib.hid hxx; clear hxx
  have HRX := Lib.hid hrx; clear hrx
  have HXL := Lib.hid hxl; clear hxl
  have HXB := Lib.hid hxb; clear hxb hx
  have hr9 : ∀ W, (Instr.slice 22 (.slice A1 a.length c1) none (some (.int .i64 (n : Int))) none).run Tryd.prog W = .ok (.slice A1 n c1) W := fun W => slice_hB A1 a.length c1 n (by omega) W
  have HR9 := Lib.hid hr9; clear hr9
  obtain ⟨A', c', e', _, _, _, hst⟩ := HA3.out.take n hna
  obtain ⟨rfl, rfl⟩ : A1 = A' ∧ c1 = c' := by injection e' with a b c; exact ⟨a, c⟩
  have HST := Lib.hid hst; clear hst e'
  go_upto_region 4 with fail
  go_cut [5] (fun s5 wx => w3 = wx ∧ s5 = .int .i64 (n : Int))
  case first =>
    rcases hcase with ⟨h5, h6⟩ | ⟨h5, h6⟩
    all_goals
      have H6 := Lib.hid h6; clear h6
      go_wp2_with fail
      go_meet
      case rel => exact ⟨rfl, by rw [H6.out]⟩
  case rest =>
  obtain ⟨rfl, rfl⟩ := hcut
  clear hcase
  go_wp2_with fail
  refine (HXX.out w3 HA3.out HBb.out).mono ?_
  rintro e w4 ⟨x1, rfl, hO, hB4⟩
  have HX := Lib.hid hO.sl; clear hO
  have HA4 := Lib.hid (HA3.out.fwd hB4)
  have HBb4 := Lib.hid (HBb.out.fwd hB4)
  have HST4 := Lib.hid (HST.out.fwd hB4)
  have HB4 := Lib.hid (HB3.out.trans (hB4.mono hz3)); clear hB4
  have hz4 := HB4.out.size
  obtain ⟨A3, c3, e3, _⟩ := id HX.out
  subst e3
  rw [HXL.out]
  go_wp2_with fail
  obtain ⟨β, hβ⟩ : ∃ β, β = (a == b) := ⟨_, rfl⟩
  refine wp_region_noPanic ?_
  refine wp_region_held (S := fun _ => True) (by kernel_rfl) ?_
  change wpAnyH _ _ _ _ _ _ _ _ w4.drew
  refine takeH 0 21 (Value.slice A1 a.length c1) rfl rfl (by kernel_rfl) (by kernel_rfl) (by kernel_rfl) (fun _ _ _ h => h) rfl (fun w' _ => by go_simp) trivial ?_
  go_frame
  refine takeH 1 22 (Value.slice A2 b.length c2) rfl rfl (by kernel_rfl) (by kernel_rfl) (by kernel_rfl) (fun _ _ _ h => h) rfl (fun w' _ => by go_simp) trivial ?_
  go_frame
  refine takeH 3 24 (Value.slice A1 a.length c1) rfl rfl (by kernel_rfl) (by kernel_rfl) (by kernel_rfl) (fun _ _ _ h => h) rfl (fun w' _ => by go_simp) trivial ?_
  go_frame
  refine takeH 4 25 (Value.slice A2 b.length c2) rfl rfl (by kernel_rfl) (by kernel_rfl) (by kernel_rfl) (fun _ _ _ h => h) rfl (fun w' _ => by go_simp) trivial ?_
  go_frame
  refine wpAnyH_all (rs := [2]) (by kernel_rfl) (by simp) ?_
  simp only [List.mem_singleton, forall_eq]
  refine wpOp_callD 23 rfl rfl rfl 25 #[Value.slice A1 a.length c1, Value.slice A2 b.length c2] (by go_simp) ?_
  refine (equal_any w4.heap.size _ _ a b w4.drew HA4.out HBb4.out (by omega) (Nat.le_refl _)).mono ?_
  rintro e w5 ⟨rfl, hB5⟩
  rw [← hβ]
  have hq5 : Below w4.heap.size w4 w5 := (below_drewN (Below.refl w4.heap.size w4) 1).trans hB5
  have HA5 := Lib.hid (HA4.out.fwd hq5)
  have HBb5 := Lib.hid (HBb4.out.fwd hq5)
  have HX5 := Lib.hid (HX.out.fwd hq5)
  have HST5 := Lib.hid (HST4.out.fwd hq5)
  have HB5 := Lib.hid (HB4.out.trans (hq5.mono hz4)); clear hB5 hq5
  refine ⟨_, rfl, trivial, ?_⟩
  go_frame
  refine wpAnyH_all (rs := [5]) (by kernel_rfl) (by simp) ?_
  simp only [List.mem_singleton, forall_eq]
  refine wpOp_callD 26 rfl rfl rfl 12 #[Value.slice A1 a.length c1, Value.slice A2 b.length c2] (by go_simp) ?_
  refine (same_any _ _ _ _ a b w5 HA5.out HBb5.out).mono ?_
  rintro e w6 ⟨rfl, rfl⟩
  rw [← hβ]
  refine ⟨_, rfl, trivial, ?_⟩
  go_frame
  clear hβ
  refine takeH 6 27 (.bool true) rfl rfl (by kernel_rfl) (by kernel_rfl) (by kernel_rfl) (fun _ _ _ h => h) rfl (fun w' _ => by go_simp) trivial ?_
  go_frame
  refine takeH 7 28 (.bool true) rfl rfl (by kernel_rfl) (by kernel_rfl) (by kernel_rfl) (fun _ _ _ h => h) rfl (fun w' _ => by go_simp) trivial ?_
  go_frame
  refine takeH 8 29 (Value.slice A1 a.length c1) rfl rfl (by kernel_rfl) (by kernel_rfl) (by kernel_rfl) (fun _ _ _ h => h) rfl (fun w' _ => by go_simp) trivial ?_
  go_frame
  refine takeH 9 30 (Value.slice A1 a.length c1) rfl rfl (by kernel_rfl) (by kernel_rfl) (by kernel_rfl) (fun _ _ _ h => h) rfl (fun w' _ => by go_simp) trivial ?_
  go_frame
  refine wpAnyH_all (rs := [10]) (by kernel_rfl) (by simp) ?_
  simp only [List.mem_singleton, forall_eq]
  refine wpOp_callD 31 rfl rfl rfl 10 #[Value.slice A1 a.length c1] (by go_simp) ?_
  refine (copy_any w5.heap.size _ a w5 HA5.out (Nat.le_refl _) (by omega)).mono ?_
  rintro e w6 ⟨v6, rfl, hO6, hB6⟩
  have HO6 := Lib.hid hO6.sl; clear hO6
  have HA6 := Lib.hid (HA5.out.fwd hB6)
  have HBb6 := Lib.hid (HBb5.out.fwd hB6)
  have HX6 := Lib.hid (HX5.out.fwd hB6)
  have HST6 := Lib.hid (HST5.out.fwd hB6)
  have HB6 := Lib.hid (HB5.out.trans (hB6.mono HB5.out.size)); clear hB6
  refine ⟨_, rfl, trivial, ?_⟩
  go_frame
  refine wpAnyH_all (rs := [11]) (by kernel_rfl) (by simp) ?_
  simp only [List.mem_singleton, forall_eq]
  refine wpOp_callD 32 rfl rfl rfl 25 #[Value.slice A1 a.length c1, v6] (by go_simp) ?_
  refine (equal_any w6.heap.size _ _ a a w6 HA6.out HO6.out (by omega) (Nat.le_refl _)).mono ?_
  rintro e w7 ⟨rfl, hB7⟩
  rw [show (a == a) = true by simp]
  have HA7 := Lib.hid (HA6.out.fwd hB7)
  have HBb7 := Lib.hid (HBb6.out.fwd hB7)
  have HX7 := Lib.hid (HX6.out.fwd hB7)
  have HST7 := Lib.hid (HST6.out.fwd hB7)
  have HB7 := Lib.hid (HB6.out.trans (hB7.mono HB6.out.size)); clear hB7
  refine ⟨_, rfl, trivial, ?_⟩
  go_frame
  refine takeH 12 33 (.bool true) rfl rfl (by kernel_rfl) (by kernel_rfl) (by kernel_rfl) (fun _ _ _ h => h) rfl (fun w' _ => by go_simp) trivial ?_
  go_frame
  refine takeH 13 34 (.bool true) rfl rfl (by kernel_rfl) (by kernel_rfl) (by kernel_rfl) (fun _ _ _ h => h) rfl (fun w' _ => by go_simp) trivial ?_
  go_frame
  refine takeH 14 35 (Value.slice A3 n c3) rfl rfl (by kernel_rfl) (by kernel_rfl) (by kernel_rfl) (fun _ _ _ h => h) rfl (fun w' _ => by go_simp) trivial ?_
  go_frame
  refine takeH 15 36 (Value.slice A1 a.length c1) rfl rfl (by kernel_rfl) (by kernel_rfl) (by kernel_rfl) (fun _ _ _ h => h) rfl (fun w' _ => by go_simp) trivial ?_
  go_frame
  refine takeH 16 37 (Value.slice A2 b.length c2) rfl rfl (by kernel_rfl) (by kernel_rfl) (by kernel_rfl) (fun _ _ _ h => h) rfl (fun w' _ => by go_simp) trivial ?_
  go_frame
  refine wpAnyH_all (rs := [17]) (by kernel_rfl) (by simp) ?_
  simp only [List.mem_singleton, forall_eq]
  refine wpOp_callD 38 rfl rfl rfl 26 #[Value.slice A1 a.length c1, Value.slice A2 b.length c2] (by go_simp) ?_
  refine (HRX.out w7 HA7.out HBb7.out).mono ?_
  rintro e w8 ⟨v8, rfl, hO8, hB8⟩
  have HO8 := Lib.hid hO8.sl; clear hO8
  have HA8 := Lib.hid (HA7.out.fwd hB8)
  have HBb8 := Lib.hid (HBb7.out.fwd hB8)
  have HX8 := Lib.hid (HX7.out.fwd hB8)
  have HST8 := Lib.hid (HST7.out.fwd hB8)
  have HB8 := Lib.hid (HB7.out.trans (hB8.mono HB7.out.size)); clear hB8
  refine ⟨_, rfl, trivial, ?_⟩
  go_frame
  refine wpAnyH_all (rs := [18]) (by kernel_rfl) (by simp) ?_
  simp only [List.mem_singleton, forall_eq]
  refine wpOp_callD 39 rfl rfl rfl 12 #[Value.slice A3 n c3, v8] (by go_simp) ?_
  refine (same_true _ _ _ _ x w8 (by have h := HX8.out; rw [HXL.out] at h; exact h) HO8.out).mono ?_
  rintro e w9 ⟨rfl, rfl⟩
  refine ⟨_, rfl, trivial, ?_⟩
  go_frame
  refine takeH 19 40 (.bool true) rfl rfl (by kernel_rfl) (by kernel_rfl) (by kernel_rfl) (fun _ _ _ h => h) rfl (fun w' _ => by go_simp) trivial ?_
  go_frame
  refine takeH 20 41 (.bool true) rfl rfl (by kernel_rfl) (by kernel_rfl) (by kernel_rfl) (fun _ _ _ h => h) rfl (fun w' _ => by go_simp) trivial ?_
  go_frame
  refine takeH 21 42 (Value.slice A3 n c3) rfl rfl (by kernel_rfl) (by kernel_rfl) (by kernel_rfl) (fun _ _ _ h => h) rfl (fun w' _ => by go_simp) trivial ?_
  go_frame
  refine takeH 22 43 (Value.slice A2 b.length c2) rfl rfl (by kernel_rfl) (by kernel_rfl) (by kernel_rfl) (fun _ _ _ h => h) rfl (fun w' _ => by go_simp) trivial ?_
  go_frame
  refine takeH 24 45 (Value.slice A1 a.length c1) rfl rfl (by kernel_rfl) (by kernel_rfl) (by kernel_rfl) (fun _ _ _ h => h) rfl (fun w' _ => by go_simp) trivial ?_
  go_frame
  refine takeH 25 46 (.int .i64 (n : Int)) rfl rfl (by kernel_rfl) (by kernel_rfl) (by kernel_rfl) (fun _ _ _ h => h) rfl (fun w' _ => by go_simp) trivial ?_
  go_frame
  have hrr := HR9.out
  have hxl2 := HXL.out
  refine wpAnyH_all (rs := [23, 26]) (by kernel_rfl) (by simp) ?_
  simp only [List.mem_cons, List.not_mem_nil, or_false, forall_eq_or_imp, forall_eq]
  refine ⟨?_, ?_⟩
  · refine wpOp_callD 44 rfl rfl rfl 24 #[Value.slice A3 n c3, Value.slice A2 b.length c2] (by go_simp) ?_
    refine (xor_any w8.heap.size _ _ x b w8 (by have h := HX8.out; rw [HXL.out] at h; exact h) HBb8.out (Nat.le_refl _) (by rw [HXL.out]; omega) (by omega)).mono ?_
    rintro e w10 ⟨v10, rfl, hO10, hB10⟩
    rw [HXB.out] at hO10
    have HO10 := Lib.hid hO10.sl; clear hO10
    have HST10 := Lib.hid (HST8.out.fwd hB10)
    have HB10 := Lib.hid (HB8.out.trans (hB10.mono HB8.out.size)); clear hB10
    refine ⟨_, rfl, trivial, ?_⟩
    go_frame
    refine wpAnyH_all (rs := [26]) (by kernel_rfl) (by simp) ?_
    simp only [List.mem_singleton, forall_eq]
    refine wpOp_valueD 47 rfl rfl rfl (.slice A1 n c1) (by go_simp) ⟨trivial, ?_⟩
    go_frame
    refine wpAnyH_all (rs := [27]) (by kernel_rfl) (by simp) ?_
    simp only [List.mem_singleton, forall_eq]
    refine wpOp_callD 48 rfl rfl rfl 12 #[v10, Value.slice A1 n c1] (by go_simp) ?_
    refine (same_true _ _ _ _ (a.take n) w10 HO10.out HST10.out).mono ?_
    rintro e w11 ⟨rfl, rfl⟩
    refine ⟨_, rfl, trivial, ?_⟩
    go_frame
    refine takeH 28 49 (.bool true) rfl rfl (by kernel_rfl) (by kernel_rfl) (by kernel_rfl) (fun _ _ _ h => h) rfl (fun w' _ => by go_simp) trivial ?_
    go_frame
    refine takeH 29 4 (.bool true) rfl rfl (by kernel_rfl) (by kernel_rfl) (by kernel_rfl) (fun _ _ _ h => h) rfl (fun w' _ => by go_simp) trivial ?_
    go_frame
    refine wpAnyH_done (by kernel_rfl) ?_ _
    refine NoPanic.normal ?_
    go_wp2_with fail
    go_ret
    exact ⟨rfl, HB10.out⟩
  · refine wpOp_valueD 47 rfl rfl rfl (.slice A1 n c1) (by go_simp) ⟨trivial, ?_⟩
    go_frame
    refine wpAnyH_all (rs := [23]) (by kernel_rfl) (by simp) ?_
    simp only [List.mem_singleton, forall_eq]
    refine wpOp_callD 44 rfl rfl rfl 24 #[Value.slice A3 n c3, Value.slice A2 b.length c2] (by go_simp) ?_
    refine (xor_any w8.heap.size _ _ x b w8 (by have h := HX8.out; rw [HXL.out] at h; exact h) HBb8.out (Nat.le_refl _) (by rw [HXL.out]; omega) (by omega)).mono ?_
    rintro e w10 ⟨v10, rfl, hO10, hB10⟩
    rw [HXB.out] at hO10
    have HO10 := Lib.hid hO10.sl; clear hO10
    have HST10 := Lib.hid (HST8.out.fwd hB10)
    have HB10 := Lib.hid (HB8.out.trans (hB10.mono HB8.out.size)); clear hB10
    refine ⟨_, rfl, trivial, ?_⟩
    go_frame
    refine wpAnyH_all (rs := [27]) (by kernel_rfl) (by simp) ?_
    simp only [List.mem_singleton, forall_eq]
    refine wpOp_callD 48 rfl rfl rfl 12 #[v10, Value.slice A1 n c1] (by go_simp) ?_
    refine (same_true _ _ _ _ (a.take n) w10 HO10.out HST10.out).mono ?_
    rintro e w11 ⟨rfl, rfl⟩
    refine ⟨_, rfl, trivial, ?_⟩
    go_frame
    refine takeH 28 49 (.bool true) rfl rfl (by kernel_rfl) (by kernel_rfl) (by kernel_rfl) (fun _ _ _ h => h) rfl (fun w' _ => by go_simp) trivial ?_
    go_frame
    refine takeH 29 4 (.bool true) rfl rfl (by kernel_rfl) (by kernel_rfl) (by kernel_rfl) (fun _ _ _ h => h) rfl (fun w' _ => by go_simp) trivial ?_
    go_frame
    refine wpAnyH_done (by kernel_rfl) ?_ _
    refine NoPanic.normal ?_
    go_wp2_with fail
    go_ret
    exact ⟨rfl, HB10.out⟩
theorem hmacCompares_wf (B : Nat) (v1 : Value) (l1 : List UInt8) (v2 : Value) (l2 : List UInt8) (w : World) (h1 : Sl w B v1 l1) (h2 : Sl w B v2 l2) (hB : B ≤ w.heap.size) (hT : TabA w) :
    Calls Tryd.prog 7 #[v1, v2] w fun e w' => e = .returned (.bool true) ∧ Below w.heap.size w w' := hmacCompares_law B v1 v2 l1 l2 w h1 h2 hB hT
end Go.Proofs.YtjaclccjccjljaaDoor
