/- The statement NameRunes' own text, walked. -/
import Derived.Test.YtpphccjpdkcnmaaDoorNmAwake
import Derived.Test.YtpphccjpdkcnmaaDoorNmLawSigns
import Derived.Test.YtpphccjpdkcnmaaDoorNmSame
import Derived.Test.YtpphccjpdkcnmaaDoorNmJoins
import Derived.Test.YtpphccjpdkcnmaaDoorReg
import Derived.Deep.DeepCutAuto
namespace Go.Proofs.YtpphccjpdkcnmaaDoor
open Go.RowKit Go.Shelf
theorem OwnSg.drew {W : World} {base : Nat} {v : Value} {xs : List (Nat × Int)} (h : OwnSg W base v xs) : OwnSg W.drew base v xs := h.below (Below.refl _ _).drew
theorem SgIn.take {W : World} {A : Option Addr} {c n m : Nat} {xs : List (Nat × Int)} (h : SgIn W (.slice A n c) xs) (hn : n = xs.length) (hm : m ≤ xs.length) : SgIn W (.slice A m c) (xs.take m) := by
  subst hn
  obtain ⟨A', c', e, h⟩ := h
  injection e with e1 e2 e3
  subst e1 e3
  have hl : (xs.take m).length = m := by rw [List.length_take]; omega
  refine ⟨A, c, by rw [hl], fun k hk => ?_⟩
  obtain ⟨g, hg, h1, h2⟩ := h k (by omega)
  rw [List.getElem_take]
  exact ⟨g, hg, h1, h2⟩
theorem slice_hS (A : Option Addr) (n c k : Nat) (hk : k ≤ c) (w : World) : (Instr.slice 24 (.slice A n c) none (some (.int .i64 (k : Int))) none).run Tryd.prog w = .ok (.slice A k c) w := by
  rw [run_slice_h w 24 A n c Tryd.underlying24 .i64 k (by omega) (by omega)]
  by_cases h0 : c = 0 <;> simp [sliced, go_sem, h0]
theorem OwnSg.cap {W : World} {base : Nat} {v : Value} {xs : List (Nat × Int)} (h : OwnSg W base v xs) : ∃ A c, v = .slice A xs.length c ∧ xs.length ≤ c := by
  obtain ⟨h1, ⟨h2, h3⟩ | ⟨g, cap, cur, h0, hb, hg, h3⟩⟩ := id h
  · have hx : xs = [] := by
      first
        | exact List.eq_nil_of_length_eq_zero h3
        | exact List.eq_nil_of_length_eq_zero (by rw [sgc_len] at h1; omega)
    subst hx
    exact ⟨none, 0, h2, by simp⟩
  · exact ⟨_, cap, h0, h3.1⟩
set_option maxRecDepth 100000 in
set_option maxHeartbeats 2000000 in
theorem nameRunes_law (s0 : List UInt8) (u : Int) (w : World) (hs : s0.length ≤ 9223372036854775807) (hu0 : 0 ≤ u) (hu1 : u ≤ 255) (hT : Lib.Utf8Tabs 0 1 w) (hK : Looks w) :
    Calls Tryd.prog 3 #[str s0, .int .u8 u] w fun e w' => e = .returned (.bool true) ∧ Below w.heap.size w w' := by
  have HT := Lib.hid hT; clear hT
  have HK := Lib.hid hK; clear hK
  obtain ⟨K, hKu⟩ : ∃ K : Nat, (K : Int) = 1 + u % 9 := ⟨(1 + u % 9).toNat, by omega⟩
  have hK1 : 1 ≤ K := by omega
  have hK2 : K ≤ 9 := by omega
  have hum : 0 ≤ u % 9 ∧ u % 9 < 9 := by omega
  have HKU := Lib.hid hKu; clear hKu
  go_enter Tryd.func3, Tryd.ntmps3
  go_wp2_with fail
  refine (awake4 w HT.out HK.out).mono ?_
  rintro e w1 ⟨rfl, hB1⟩
  have HB1 := Lib.hid hB1; clear hB1
  go_wp2_with fail
  refine (cutText_any s0 100 w1 hs (by omega) (by omega)).mono ?_
  rintro e w2 ⟨rfl, rfl⟩
  obtain ⟨s, hs2⟩ : ∃ s, s = s0.take (100 : Int).toNat := ⟨_, rfl⟩
  rw [← hs2]
  have hsl : s.length ≤ 100 := by rw [hs2, List.length_take]; omega
  clear hs2
  have hrl := runesF_len s.length 0 s
  have hrr := runesF_range s.length 0 s
  have f1 := fun W => refSigns_any s W (by omega)
  have f2 := fun W h => signs_any s 1000 W (by omega) (by omega) (by omega) h
  have f3 := fun W h => signs_any s K W (by omega) hK1 (by omega) h
  have f4 := fun W h => valid_any s W (by omega) h
  have hvs : Lib.validD s = (runesF s.length 0 s).all (fun x => x.2 != -1) := by
    rw [valid_sg]
    unfold sg
    rw [← runesF_sg s.length 0 s, List.all_map]; rfl
  rw [hvs] at f4
  obtain ⟨xs, hxs⟩ : ∃ xs, xs = runesF s.length 0 s := ⟨_, rfl⟩
  rw [← hxs] at hrl hrr f1 f2 f3 f4
  rw [List.take_of_length_le (show xs.length ≤ 1000 by omega)] at f2
  clear hvs hxs
  have F1 := Lib.hid f1; clear f1
  have F2 := Lib.hid f2; clear f2
  have F3 := Lib.hid f3; clear f3
  have F4 := Lib.hid f4; clear f4
  have HRR := Lib.hid hrr; clear hrr
  go_wp2_with fail
  refine (F1.out w1).mono ?_
  rintro e w2 ⟨v2, rfl, hO2, hB2⟩
  obtain ⟨A, c, rfl, hc⟩ := hO2.cap
  have HIN := Lib.hid hO2.sgIn
  have HB2 := Lib.hid (HB1.out.trans (hB2.mono HB1.out.size)); clear hB2 hO2
  go_wp2_with fail
  go_loopw [6, 18] (fun b i wr => ∃ k : Nat, k ≤ xs.length ∧ i = .int .i64 (k : Int) ∧ b = .bool ((xs.take k).all (fun x => x.2 != -1)) ∧ Below w2.heap.size w2 wr) (fun _ i _ => xs.length - (intOf i).toNat)
  case atStart => exact ⟨0, by omega, rfl, rfl, Below.refl _ _⟩
  case round =>
    obtain ⟨k, hk, rfl, rfl, hb⟩ := hrel
    by_cases hlt : k < xs.length
    · obtain ⟨A', c', he, hin⟩ := HIN.out.below hb
      injection he with he1 he2 he3
      subst he1 he3
      obtain ⟨g, rfl, c0, c1⟩ := hin k hlt
      rw [Nat.zero_add] at c0 c1
      clear hin he2
      have hts := take_snoc xs k hlt
      have hmem := HRR.out xs[k] (List.getElem_mem hlt)
      obtain ⟨x, hx⟩ : ∃ x, x = xs[k] := ⟨_, rfl⟩
      rw [← hx] at c0 c1 hts hmem
      clear hx
      obtain ⟨q, r⟩ := x
      simp only at c0 c1 hmem
      have hall : (xs.take (k + 1)).all (fun x => x.2 != -1) = ((xs.take k).all (fun x => x.2 != -1) && (r != -1)) := by rw [hts, List.all_append]; simp
      have HALL := Lib.hid hall; clear hall hts
      have HBA := Lib.hid (hb.alloc hb.size (.cells #[.int .i64 (q : Int), .int .i64 r] 27))
      cases hb0 : (xs.take k).all (fun x => x.2 != -1) with
      | false =>
        rw [hb0, Bool.false_and] at HALL
        go_wp2_with fail
        go_roundw
        case rel => exact ⟨k + 1, by omega, by go_num, by rw [HALL.out], HBA.out⟩
        case measure => simp [intOf]; omega
      | true =>
        rw [hb0, Bool.true_and] at HALL
        by_cases hneg : r = -1
        · subst hneg
          go_wp2_with fail
          go_roundw
          case rel => exact ⟨k + 1, by omega, by go_num, by rw [HALL.out]; rfl, HBA.out⟩
          case measure => simp [intOf]; omega
        · have hr0 : 0 ≤ r := by omega
          have hne : (r != -1) = true := by rw [bne_iff_ne]; exact hneg
          rw [hne] at HALL
          clear hneg hne
          go_wp2_with fail
          go_roundw
          case rel => exact ⟨k + 1, by omega, by go_num, by rw [HALL.out], HBA.out⟩
          case measure => simp [intOf]; omega
    · obtain rfl : k = xs.length := by omega
      rw [List.take_length]
      obtain ⟨V, hV⟩ : ∃ V, V = xs.all (fun x => x.2 != -1) := ⟨_, rfl⟩
      rw [← hV] at F4 ⊢
      clear hV
      have HB3 := Lib.hid (HB2.out.trans (hb.mono HB2.out.size))
      have HI3 := Lib.hid (HIN.out.below hb)
      clear hb hlt hk
      have hku := HKU.out
      go_wp2_with fail
      rw [← hku]
      clear hku
      obtain ⟨M, hM, hMr⟩ : ∃ M : Nat, M = min xs.length K ∧ (M ≤ xs.length) := ⟨_, rfl, by omega⟩
      have hmin : min (xs.length : Int) (K : Int) = (M : Int) := by omega
      have htk : xs.take K = xs.take M := by rw [hM, Nat.min_comm, ← List.take_take, List.take_length]
      rw [htk] at F3
      have hsl2 := fun W => slice_hS A xs.length c M (by omega) W
      have HSL := Lib.hid hsl2
      have HMIN := Lib.hid hmin
      clear hM htk hmin hsl2
      refine wp_region_noPanic ?_
      refine wp_region_held (S := fun _ => True) (by kernel_rfl) ?_
      change wpAnyH _ _ _ _ _ _ _ _ wr.drew
      have HBd := Lib.hid HB3.out.drew
      have HId := Lib.hid (HI3.out.below (Below.refl _ _).drew)
      clear HB3 HI3
      refine takeH 0 33 (str s) rfl rfl (by kernel_rfl) (by kernel_rfl) (by kernel_rfl) (fun _ _ _ h => h) rfl (fun w' _ => by go_simp) trivial ?_
      go_frame
      refine takeH 2 35 (Value.slice A xs.length c) rfl rfl (by kernel_rfl) (by kernel_rfl) (by kernel_rfl) (fun _ _ _ h => h) rfl (fun w' _ => by go_simp) trivial ?_
      go_frame
      refine wpAnyH_all (rs := [1]) (by kernel_rfl) (by simp) ?_
      simp only [List.mem_singleton, forall_eq]
      refine wpOp_callD 34 rfl rfl rfl 12 #[str s, .int .i64 1000] (by go_simp) ?_
      refine (F2.out wr.drew (Utf8Tabs_below HT.out HBd.out)).mono ?_
      rintro e w4 ⟨v4, rfl, hO4, hB4⟩
      have HI4 := Lib.hid (HId.out.below hB4)
      have HS4 := Lib.hid hO4.sgIn; clear hO4
      have HB4 := Lib.hid (HBd.out.trans (hB4.mono HBd.out.size)); clear hB4
      refine ⟨_, rfl, trivial, ?_⟩
      go_frame
      refine wpAnyH_all (rs := [3]) (by kernel_rfl) (by simp) ?_
      simp only [List.mem_singleton, forall_eq]
      refine wpOp_callD 36 rfl rfl rfl 11 #[v4, Value.slice A xs.length c] (by go_simp) ?_
      refine (sameSg_any v4 _ xs w4 HS4.out HI4.out (by omega)).mono ?_
      rintro e w5 ⟨rfl, hB5⟩
      have HI5 := Lib.hid (HI4.out.below hB5)
      have HB5 := Lib.hid (HB4.out.trans (hB5.mono HB4.out.size)); clear hB5
      refine ⟨_, rfl, trivial, ?_⟩
      go_frame
      refine takeH 4 37 (.bool true) rfl rfl (by kernel_rfl) (by kernel_rfl) (by kernel_rfl) (fun _ _ _ h => h) rfl (fun w' _ => by go_simp) trivial ?_
      go_frame
      refine takeH 5 38 (str s) rfl rfl (by kernel_rfl) (by kernel_rfl) (by kernel_rfl) (fun _ _ _ h => h) rfl (fun w' _ => by go_simp) trivial ?_
      go_frame
      refine takeH 6 39 (.int .i64 (K : Int)) rfl rfl (by kernel_rfl) (by kernel_rfl) (by kernel_rfl) (fun _ _ _ h => h) rfl (fun w' _ => by go_simp) trivial ?_
      go_frame
      refine takeH 8 41 (Value.slice A xs.length c) rfl rfl (by kernel_rfl) (by kernel_rfl) (by kernel_rfl) (fun _ _ _ h => h) rfl (fun w' _ => by go_simp) trivial ?_
      go_frame
      refine takeH 9 42 (Value.slice A xs.length c) rfl rfl (by kernel_rfl) (by kernel_rfl) (by kernel_rfl) (fun _ _ _ h => h) rfl (fun w' _ => by go_simp) trivial ?_
      go_frame
      refine takeH 10 43 (.int .i64 (xs.length : Int)) rfl rfl (by kernel_rfl) (by kernel_rfl) (by kernel_rfl) (fun _ _ _ h => h) rfl (fun w' _ => by go_simp) trivial ?_
      go_frame
      refine takeH 11 44 (.int .i64 (K : Int)) rfl rfl (by kernel_rfl) (by kernel_rfl) (by kernel_rfl) (fun _ _ _ h => h) rfl (fun w' _ => by go_simp) trivial ?_
      go_frame
      refine takeH 12 45 (.int .i64 (M : Int)) rfl rfl (by kernel_rfl) (by kernel_rfl) (by kernel_rfl) (fun _ _ _ h => h) rfl (fun w' _ => by go_simp; exact HMIN.out) trivial ?_
      go_frame
      have hsl3 := HSL.out
      refine wpAnyH_all (rs := [7, 13]) (by kernel_rfl) (by simp) ?_
      simp only [List.mem_cons, List.not_mem_nil, or_false, forall_eq_or_imp, forall_eq]
      refine ⟨?_, ?_⟩
      · refine wpOp_callD 40 rfl rfl rfl 12 #[str s, .int .i64 (K : Int)] (by go_simp) ?_
        refine (F3.out w5 (Utf8Tabs_below HT.out HB5.out)).mono ?_
        rintro e w6 ⟨v6, rfl, hO6, hB6⟩
        have HI6 := Lib.hid ((HI5.out.below hB6).take rfl hMr)
        have HS6 := Lib.hid hO6.sgIn; clear hO6
        have HB6 := Lib.hid (HB5.out.trans (hB6.mono HB5.out.size)); clear hB6
        refine ⟨_, rfl, trivial, ?_⟩
        go_frame
        refine wpAnyH_all (rs := [13]) (by kernel_rfl) (by simp) ?_
        simp only [List.mem_singleton, forall_eq]
        refine wpOp_valueD 46 rfl rfl rfl (.slice A M c) (by go_simp) ⟨trivial, ?_⟩
        go_frame
        refine wpAnyH_all (rs := [14]) (by kernel_rfl) (by simp) ?_
        simp only [List.mem_singleton, forall_eq]
        refine wpOp_callD 47 rfl rfl rfl 11 #[v6, Value.slice A M c] (by go_simp) ?_
        refine (sameSg_any v6 _ (xs.take M) w6 HS6.out HI6.out (by rw [List.length_take]; omega)).mono ?_
        rintro e w7 ⟨rfl, hB7⟩
        have HB7 := Lib.hid (HB6.out.trans (hB7.mono HB6.out.size)); clear hB7
        refine ⟨_, rfl, trivial, ?_⟩
        go_frame
        refine takeH 15 48 (.bool true) rfl rfl (by kernel_rfl) (by kernel_rfl) (by kernel_rfl) (fun _ _ _ h => h) rfl (fun w' _ => by go_simp) trivial ?_
        go_frame
        refine takeH 16 49 (.bool true) rfl rfl (by kernel_rfl) (by kernel_rfl) (by kernel_rfl) (fun _ _ _ h => h) rfl (fun w' _ => by go_simp) trivial ?_
        go_frame
        refine takeH 17 50 (str s) rfl rfl (by kernel_rfl) (by kernel_rfl) (by kernel_rfl) (fun _ _ _ h => h) rfl (fun w' _ => by go_simp) trivial ?_
        go_frame
        refine takeH 19 52 (.bool V) rfl rfl (by kernel_rfl) (by kernel_rfl) (by kernel_rfl) (fun _ _ _ h => h) rfl (fun w' _ => by go_simp) trivial ?_
        go_frame
        refine wpAnyH_all (rs := [18]) (by kernel_rfl) (by simp) ?_
        simp only [List.mem_singleton, forall_eq]
        refine wpOp_callD 51 rfl rfl rfl 13 #[str s] (by go_simp) ?_
        refine (F4.out w7 (Utf8Tabs_below HT.out HB7.out)).mono ?_
        rintro e w8 ⟨rfl, hB8⟩
        have HB8 := Lib.hid (HB7.out.trans (hB8.mono HB7.out.size)); clear hB8
        refine ⟨_, rfl, trivial, ?_⟩
        go_frame
        refine takeH 20 53 (.bool true) rfl rfl (by kernel_rfl) (by kernel_rfl) (by kernel_rfl) (fun _ _ _ h => h) rfl (fun w' _ => by go_simp) trivial ?_
        go_frame
        refine takeH 21 54 (.bool true) rfl rfl (by kernel_rfl) (by kernel_rfl) (by kernel_rfl) (fun _ _ _ h => h) rfl (fun w' _ => by go_simp) trivial ?_
        go_frame
        refine takeH 22 4 (.bool true) rfl rfl (by kernel_rfl) (by kernel_rfl) (by kernel_rfl) (fun _ _ _ h => h) rfl (fun w' _ => by go_simp) trivial ?_
        go_frame
        refine wpAnyH_done (by kernel_rfl) ?_ _
        refine NoPanic.normal ?_
        go_wp2_with fail
        go_ret
        exact ⟨rfl, HB8.out⟩
      · refine wpOp_valueD 46 rfl rfl rfl (.slice A M c) (by go_simp) ⟨trivial, ?_⟩
        go_frame
        refine wpAnyH_all (rs := [7]) (by kernel_rfl) (by simp) ?_
        simp only [List.mem_singleton, forall_eq]
        refine wpOp_callD 40 rfl rfl rfl 12 #[str s, .int .i64 (K : Int)] (by go_simp) ?_
        refine (F3.out w5 (Utf8Tabs_below HT.out HB5.out)).mono ?_
        rintro e w6 ⟨v6, rfl, hO6, hB6⟩
        have HI6 := Lib.hid ((HI5.out.below hB6).take rfl hMr)
        have HS6 := Lib.hid hO6.sgIn; clear hO6
        have HB6 := Lib.hid (HB5.out.trans (hB6.mono HB5.out.size)); clear hB6
        refine ⟨_, rfl, trivial, ?_⟩
        go_frame
        refine wpAnyH_all (rs := [14]) (by kernel_rfl) (by simp) ?_
        simp only [List.mem_singleton, forall_eq]
        refine wpOp_callD 47 rfl rfl rfl 11 #[v6, Value.slice A M c] (by go_simp) ?_
        refine (sameSg_any v6 _ (xs.take M) w6 HS6.out HI6.out (by rw [List.length_take]; omega)).mono ?_
        rintro e w7 ⟨rfl, hB7⟩
        have HB7 := Lib.hid (HB6.out.trans (hB7.mono HB6.out.size)); clear hB7
        refine ⟨_, rfl, trivial, ?_⟩
        go_frame
        refine takeH 15 48 (.bool true) rfl rfl (by kernel_rfl) (by kernel_rfl) (by kernel_rfl) (fun _ _ _ h => h) rfl (fun w' _ => by go_simp) trivial ?_
        go_frame
        refine takeH 16 49 (.bool true) rfl rfl (by kernel_rfl) (by kernel_rfl) (by kernel_rfl) (fun _ _ _ h => h) rfl (fun w' _ => by go_simp) trivial ?_
        go_frame
        refine takeH 17 50 (str s) rfl rfl (by kernel_rfl) (by kernel_rfl) (by kernel_rfl) (fun _ _ _ h => h) rfl (fun w' _ => by go_simp) trivial ?_
        go_frame
        refine takeH 19 52 (.bool V) rfl rfl (by kernel_rfl) (by kernel_rfl) (by kernel_rfl) (fun _ _ _ h => h) rfl (fun w' _ => by go_simp) trivial ?_
        go_frame
        refine wpAnyH_all (rs := [18]) (by kernel_rfl) (by simp) ?_
        simp only [List.mem_singleton, forall_eq]
        refine wpOp_callD 51 rfl rfl rfl 13 #[str s] (by go_simp) ?_
        refine (F4.out w7 (Utf8Tabs_below HT.out HB7.out)).mono ?_
        rintro e w8 ⟨rfl, hB8⟩
        have HB8 := Lib.hid (HB7.out.trans (hB8.mono HB7.out.size)); clear hB8
        refine ⟨_, rfl, trivial, ?_⟩
        go_frame
        refine takeH 20 53 (.bool true) rfl rfl (by kernel_rfl) (by kernel_rfl) (by kernel_rfl) (fun _ _ _ h => h) rfl (fun w' _ => by go_simp) trivial ?_
        go_frame
        refine takeH 21 54 (.bool true) rfl rfl (by kernel_rfl) (by kernel_rfl) (by kernel_rfl) (fun _ _ _ h => h) rfl (fun w' _ => by go_simp) trivial ?_
        go_frame
        refine takeH 22 4 (.bool true) rfl rfl (by kernel_rfl) (by kernel_rfl) (by kernel_rfl) (fun _ _ _ h => h) rfl (fun w' _ => by go_simp) trivial ?_
        go_frame
        refine wpAnyH_done (by kernel_rfl) ?_ _
        refine NoPanic.normal ?_
        go_wp2_with fail
        go_ret
        exact ⟨rfl, HB8.out⟩
end Go.Proofs.YtpphccjpdkcnmaaDoor
