/- The statement ShaStreams' own text, walked. -/
import Derived.Test.YtkbelfoeofhppaaDoorShaSumsLaw
import Derived.Test.YtkbelfoeofhppaaDoorFlip
namespace Go.Proofs.YtkbelfoeofhppaaDoor
open Go.RowKit
theorem Sls.more {w : World} {B B' : Nat} {v : Value} {ls : List (List UInt8)} (h : Sls w B v ls) (hB : B ≤ B') : Sls w B' v ls := by
  obtain ⟨A, c, rfl, h1, h2, h3⟩ := h
  refine ⟨A, c, rfl, h1, h2, fun hp => ?_⟩
  obtain ⟨b, o, e, hlt, hx⟩ := h3 hp
  exact ⟨b, o, e, by omega, fun j hj => by obtain ⟨vj, h4, h5⟩ := hx j hj; exact ⟨vj, h4, h5.more hB⟩⟩
theorem OwnB.newer {w : World} {b : Nat} {v : Value} {l : List UInt8} {k : Nat} (h : OwnB w b v l) (hk : k < b) : v.ownBlock = none ∨ v.ownBlock ≠ some k := by
  cases hv : v.ownBlock with
  | none => exact .inl rfl
  | some j => exact .inr fun e => by injection e with e; have := (h.lt j hv).1; omega
theorem OwnB.older {w : World} {b : Nat} {v : Value} {l : List UInt8} {k : Nat} (h : OwnB w b v l) (hk : w.heap.size ≤ k) : v.ownBlock = none ∨ v.ownBlock ≠ some k := by
  cases hv : v.ownBlock with
  | none => exact .inl rfl
  | some j => exact .inr fun e => by injection e with e; have := (h.lt j hv).2; omega
theorem OwnB.unlike {w1 w2 : World} {b1 b2 : Nat} {v1 v2 : Value} {l1 l2 : List UInt8} (h1 : OwnB w1 b1 v1 l1) (h2 : OwnB w2 b2 v2 l2) (hk : w1.heap.size ≤ b2) : v1.ownBlock = none ∨ v1.ownBlock ≠ v2.ownBlock := by
  cases hv : v1.ownBlock with
  | none => exact .inl rfl
  | some j => exact .inr fun e => by have := (h1.lt j hv).2; have := (h2.lt j e.symm).1; omega
theorem OwnB.unlike' {w1 w2 : World} {b1 b2 : Nat} {v1 v2 : Value} {l1 l2 : List UInt8} (h1 : OwnB w1 b1 v1 l1) (h2 : OwnB w2 b2 v2 l2) (hk : w2.heap.size ≤ b1) : v1.ownBlock = none ∨ v1.ownBlock ≠ v2.ownBlock := by
  cases hv : v1.ownBlock with
  | none => exact .inl rfl
  | some j => exact .inr fun e => by have := (h1.lt j hv).1; have := (h2.lt j e.symm).2; omega
theorem some_ne {v : Value} {k : Nat} (h : v.ownBlock = none ∨ v.ownBlock ≠ some k) : some k ≠ v.ownBlock := by
  rcases h with h | h
  · rw [h]; simp
  · exact fun e => h e.symm
theorem OwnB.srcAt {w : World} {base hb n c : Nat} {A : Option Addr} {l : List UInt8} (h : OwnB w base (.slice A n c) l) (hlt : hb < base) (hl : l.length ≤ 4611686018427387904) : Src w hb A l c := by
  obtain ⟨A', c', e, hs⟩ := h.src hlt hl
  injection e with e1 _ e3
  subst e1; subst e3
  exact hs
/-- The Hash at H and the slice u hold the same message; all else that was there is as it was. -/
structure StS (w : World) (b2 H : Nat) (u : Value) (m : List UInt8) (W : World) : Prop where
  hash : HashM W H m
  all : OwnB W b2 u m
  below : Below w.heap.size w W
  size : b2 ≤ W.heap.size
theorem StS.keep {w : World} {b2 H : Nat} {u : Value} {m : List UInt8} {W W' : World} {row : Option Nat} (h : StS w b2 H u m W) (hg : W.grownBy W' row) (h1 : some H ≠ row) (h2 : u.ownBlock = none ∨ u.ownBlock ≠ row) (h3 : ∀ j, row = some j → w.heap.size ≤ j) : StS w b2 H u m W' :=
  ⟨h.hash.grown hg h1, h.all.kept hg h2, h.below.grown hg h.below.size (fun j e => h3 j e), Nat.le_trans h.size hg.size⟩
theorem StS.on {w : World} {b2 H : Nat} {u : Value} {m : List UInt8} {W W' : World} (h : StS w b2 H u m W) (hb : Below W.heap.size W W') : StS w b2 H u m W' :=
  ⟨h.hash.below hb h.hash.lt, h.all.below hb, h.below.trans (hb.mono h.below.size), Nat.le_trans h.size hb.size⟩
set_option maxRecDepth 100000 in
set_option maxHeartbeats 2000000 in
theorem shaStreams_law (B : Nat) (v : Value) (ls : List (List UInt8)) (vo : Value) (lo : List UInt8) (w : World) (hs0 : Sls w B v ls) (hs1 : Sl w B vo lo) (hB0 : B ≤ w.heap.size) (hT : TabA w) (hU : TabB w) :
    Calls Tryd.prog 4 #[v, vo] w fun e w' => e = .returned (.bool true) ∧ Below w.heap.size w w' := by
  have hs := hs0.more hB0
  have HO := Lib.hid (hs1.more hB0)
  clear hs0 hs1 hB0
  have hG := tab_lt hT
  have hG2 : 1 < w.heap.size := World.block_lt_of_cell? w _ (hU 0 (by decide))
  have HT := Lib.hid hT; clear hT
  have HU := Lib.hid hU; clear hU
  obtain ⟨A, c, rfl, k1, k2, k3⟩ := hs
  have H3 := Lib.hid k3; clear k3
  go_enter Tryd.func4, Tryd.ntmps4
  go_wp2_with fail
  refine (awake1 w HT.out).mono ?_
  rintro e w1 ⟨rfl, hB1⟩
  have HB1 := Lib.hid hB1
  have hz1 := hB1.size
  clear hB1
  go_wp2_with fail
  refine (new_any w1).mono ?_
  rintro e w2 ⟨rfl, hM, hB2⟩
  obtain ⟨H, hH⟩ : ∃ H, H = w1.heap.size := ⟨_, rfl⟩
  rw [← hH] at hM ⊢
  have hHw : w.heap.size ≤ H := by omega
  have hH2 : H < w2.heap.size := hM.lt
  have HM := Lib.hid hM; clear hM
  have HB2 := Lib.hid (HB1.out.trans (hB2.mono hz1)); clear hB2 hH
  go_wp2_with fail
  go_loopw [6, 15] (fun u i wr => ∃ k : Nat, k ≤ ls.length ∧ i = .int .i64 k ∧ HashM wr H (cuts ls 150 k).flatten ∧ OwnB wr w2.heap.size u (cuts ls 150 k).flatten ∧ Below w.heap.size w wr ∧ w2.heap.size ≤ wr.heap.size) (fun _ i _ => ls.length - (intOf i).toNat)
  case atStart =>
    have e : (cuts ls 150 0).flatten = [] := by unfold cuts; rfl
    refine ⟨0, by omega, rfl, ?_, ?_, HB2.out, Nat.le_refl _⟩
    · rw [e]; exact HM.out
    · rw [e]; exact OwnB.nil _ _
  case round =>
    obtain ⟨k, hk, rfl, hM, hA, hB, hz2⟩ := hrel
    have HMk := Lib.hid hM; clear hM
    have HAk := Lib.hid hA; clear hA
    have HBk := Lib.hid hB; clear hB
    by_cases hlt : k < ls.length
    · obtain ⟨b, o, rfl, hb, hx⟩ := H3.out (by omega)
      obtain ⟨vj, hc, hsl⟩ := hx k hlt
      have hcell : wr.cell? ⟨b, o + k, none⟩ = some vj := (HBk.out.cell (p := ⟨b, o + k, none⟩) hb).trans hc
      have HSL := Lib.hid (hsl.below HBk.out (Nat.le_refl _))
      clear hx hc hsl
      by_cases h6 : k < 6
      · have h6' : (k : Int) < 6 := by omega
        have HC := Lib.hid (cuts_lo ls 150 k hlt h6)
        obtain ⟨m, hm⟩ : ∃ m, m = (cuts ls 150 k).flatten := ⟨_, rfl⟩
        have hml : m.length ≤ 900 := by
          have := flatten_le 150 _ (cuts_short ls 150 k)
          have h2 : 150 * (cuts ls 150 k).length ≤ 150 * 6 := Nat.mul_le_mul (Nat.le_refl _) (by rw [cuts_len]; omega)
          rw [hm]; omega
        rw [← hm] at HMk HAk
        have hzw := HBk.out.size
        go_wp2_with fail
        refine (cut_any w.heap.size vj ls[k] 150 wr HSL.out hzw (by omega) (by omega)).mono ?_
        rintro e w3 ⟨v3, rfl, hO, hB3⟩
        obtain ⟨x, hx⟩ : ∃ x, x = (ls[k]).take (150 : Int).toNat := ⟨_, rfl⟩
        have hxl : x.length ≤ 150 := by rw [hx]; exact List.length_take_le _ _
        obtain ⟨q, hq⟩ : ∃ q, q = m ++ x := ⟨_, rfl⟩
        have HF : Hid ((cuts ls 150 (k + 1)).flatten = q) := Lib.hid (by rw [HC.out, List.flatten_append, hq, hm, hx]; simp)
        have hql : q.length ≤ 1050 := by rw [hq, List.length_append]; omega
        have HQ := Lib.hid hq
        clear hq
        rw [← hx] at hO
        clear hx hm
        obtain ⟨A3, c3, rfl, _⟩ := hO.sl
        have HX3 := Lib.hid hO
        have HM3 := Lib.hid (HMk.out.below hB3 (by omega))
        have HA3 := Lib.hid (HAk.out.below hB3)
        have HB3 := Lib.hid (HBk.out.trans (hB3.mono hzw))
        have hz3 := hB3.size
        clear hO hB3
        go_wp2_with (at_builtin; ((with_reducible refine wpList_app_at ?b1 (.tmp 24) (.tmp 25) ?b2 w2.heap.size u6 m x ?b3 HA3.out _ (.slice A3 x.length c3) ?b5 HX3.out.sl ?b6 ?b7 ?_); (case b1 => rfl); (case b2 => rfl); (case b3 => rfl); (case b5 => rfl); (case b6 => omega); (case b7 => omega); intro u4 w4 hv4 hg4 hat4; have HV4 := Lib.hid hv4; have HG4 := Lib.hid hg4; have HAT := Lib.hid hat4; have hz4 := hg4.size; clear hv4 hg4 hat4))
        have HV4q : Hid (OwnB w4 w2.heap.size u4 q) := Lib.hid (by rw [HQ.out]; exact HV4.out)
        have HX4 := Lib.hid (HX3.out.kept HG4.out (HX3.out.unlike' HAk.out (Nat.le_refl _)))
        have HM4 := Lib.hid (HM3.out.grown HG4.out (some_ne (HAk.out.newer hH2)))
        have HB4 := Lib.hid (HB3.out.grown HG4.out HB3.out.size (fun j e => by have := (HAk.out.lt j e).1; omega))
        refine (write_m H m A3 c3 x w4 HM4.out (HX4.out.srcAt (by omega) (by omega)) (HT.out.below HB4.out hG) (by omega)).mono ?_
        rintro e w5 ⟨rfl, hM5, hg5⟩
        rw [← HQ.out] at hM5
        have hS5 : StS w w2.heap.size H u4 q w5 := ⟨hM5, HV4q.out.kept hg5 (HV4q.out.newer hH2), HB4.out.grown hg5 HB4.out.size (fun j e => by cases e; exact hHw), by have := hg5.size; omega⟩
        have HX5 := Lib.hid (HX4.out.kept hg5 (HX4.out.newer (by omega)))
        have HS5 := Lib.hid hS5
        have hz5 := hg5.size
        clear hM5 hg5 hS5
        go_wp2_with fail
        refine (flip_any wr.heap.size (.slice A3 x.length c3) x w5 HX5.out (by omega)).mono ?_
        rintro e w6 ⟨rfl, hg6⟩
        have hne6 : u4.ownBlock = none ∨ u4.ownBlock ≠ (Value.slice A3 x.length c3).ownBlock := by
          rcases HAT.out with e | e
          · rw [e]; exact HAk.out.unlike HX3.out (Nat.le_refl _)
          · rw [e]; exact .inr fun e2 => by have := (HX3.out.lt _ e2.symm).2; omega
        have HS6 := Lib.hid (HS5.out.keep hg6 (some_ne (HX5.out.newer (by omega))) hne6 (fun j e => by have := (HX5.out.lt j e).1; omega))
        clear hg6 hne6
        go_wp2_with fail
        refine (copyH_any H _ _ _ w6 HS6.out.hash).mono ?_
        rintro e w7 ⟨rfl, hC7, hB7⟩
        obtain ⟨C, hC⟩ : ∃ C, C = w6.heap.size := ⟨_, rfl⟩
        have hHC : H < C := by rw [hC]; exact HS6.out.hash.lt
        have hwC : w.heap.size ≤ C := by omega
        have hUC : Hid (u4.ownBlock = none ∨ u4.ownBlock ≠ some C) := Lib.hid (HS6.out.all.older (by omega))
        rw [← hC] at hC7 ⊢
        have HC7 : Hid (HashM w7 C q) := Lib.hid hC7
        have hC7z : C < w7.heap.size := HC7.out.lt
        have HS7 := Lib.hid (HS6.out.on hB7)
        clear hC7 hB7 hC
        go_wp2_with fail
        refine (cut_any w.heap.size vo lo 70 w7 (HO.out.below HS7.out.below (Nat.le_refl _)) HS7.out.below.size (by omega) (by omega)).mono ?_
        rintro e w8 ⟨v8, rfl, hO8, hB8⟩
        obtain ⟨y, hy⟩ : ∃ y, y = lo.take (70 : Int).toNat := ⟨_, rfl⟩
        have hyl : y.length ≤ 70 := by rw [hy]; exact List.length_take_le _ _
        have HY := Lib.hid hy
        rw [← hy] at hO8
        clear hy
        obtain ⟨A8, c8, rfl, _⟩ := hO8.sl
        have HX8 := Lib.hid hO8
        have HS8 := Lib.hid (HS7.out.on hB8)
        have HC8 := Lib.hid (HC7.out.below hB8 hC7z)
        clear hO8 hB8
        go_wp2_with fail
        refine (write_m C q A8 c8 y w8 HC8.out (HX8.out.srcAt hC7z (by omega)) (HT.out.below HS8.out.below hG) (by omega)).mono ?_
        rintro e w9 ⟨rfl, hM9, hg9⟩
        have HC9 := Lib.hid hM9
        have HS9 := Lib.hid (HS8.out.keep hg9 (by simp; omega) hUC.out (fun j e => by cases e; exact hwC))
        clear hM9 hg9
        go_wp2_with fail
        refine (sumM_any H q w9 HS9.out.hash (HT.out.below HS9.out.below hG)).mono ?_
        rintro e w10 ⟨v10, rfl, hO10, hB10⟩
        have HX10 := Lib.hid hO10.sl
        have HS10 := Lib.hid (HS9.out.on hB10)
        have HC10 := Lib.hid (HC9.out.below hB10 HC9.out.lt)
        clear hO10 hB10
        have hz10 := HS10.out.below.size
        go_wp2_with fail
        refine (refSum_any w10.heap.size u4 q w10 (HU.out.below HS10.out.below hG2) (by show _ < w10.heap.size; omega) HS10.out.all.sl (Nat.le_refl _) (by omega)).mono ?_
        rintro e w11 ⟨v11, rfl, hO11, hB11⟩
        have HX11 := Lib.hid hO11.sl
        have HX10' := Lib.hid (HX10.out.below hB11 (Nat.le_refl _))
        have HS11 := Lib.hid (HS10.out.on hB11)
        have HC11 := Lib.hid (HC10.out.below hB11 HC10.out.lt)
        clear hO11 hB11
        go_wp2_with fail
        refine (same_true _ _ v10 v11 (sumL q) w11 HX10'.out HX11.out).mono ?_
        rintro e w12 ⟨rfl, rfl⟩
        have hlen : Hid (Calls Tryd.prog 20 #[.pointer (some ⟨H, 0, none⟩)] w11 fun e w' => e = .returned (.int .u64 (q.length : Int)) ∧ w11 = w') := Lib.hid (by
          have := len_any H _ _ _ w11 HS11.out.hash
          rwa [un_lt _ (by omega)] at this)
        obtain ⟨Au, cu, rfl, _⟩ := HS11.out.all.sl
        go_wp2_with fail
        refine hlen.out.mono ?_
        rintro e w12 ⟨rfl, rfl⟩
        go_wp2_with fail
        refine (sumM_any C (q ++ y) w11 HC11.out (HT.out.below HS11.out.below hG)).mono ?_
        rintro e w12 ⟨v12, rfl, hO12, hB12⟩
        have HX12 := Lib.hid hO12
        have HS12 := Lib.hid (HS11.out.on hB12)
        clear hO12 hB12
        go_wp2_with fail
        refine (copy_any w12.heap.size (.slice Au q.length cu) q w12 HS12.out.all.sl (Nat.le_refl _) (by omega)).mono ?_
        rintro e w13 ⟨v13, rfl, hO13, hB13⟩
        have HX13 := Lib.hid hO13
        have HX12' := Lib.hid (HX12.out.below hB13)
        have HS13 := Lib.hid (HS12.out.on hB13)
        have hz13 := hB13.size
        clear hO13 hB13
        go_wp2_with fail
        refine (cut_any w.heap.size vo lo 70 w13 (HO.out.below HS13.out.below (Nat.le_refl _)) HS13.out.below.size (by omega) (by omega)).mono ?_
        rintro e w14 ⟨v14, rfl, hO14, hB14⟩
        rw [← HY.out] at hO14
        have HX14 := Lib.hid hO14.sl
        have HX13' := Lib.hid (HX13.out.below hB14)
        have HX12'' := Lib.hid (HX12'.out.below hB14)
        have HS14 := Lib.hid (HS13.out.on hB14)
        have hz14 := hB14.size
        clear hO14 hB14
        go_wp2_with (at_builtin; ((with_reducible refine wpList_app_slG ?f1 (.tmp 59) (.tmp 61) ?f2 w12.heap.size v13 q y ?f3 HX13'.out _ v14 ?f5 HX14.out ?f7 ?f8 ?_); (case f1 => rfl); (case f2 => rfl); (case f3 => rfl); (case f5 => rfl); (case f7 => omega); (case f8 => omega); intro v15 w15 hv15 hg15; have HV15 := Lib.hid hv15; have HG15 := Lib.hid hg15; clear hv15 hg15))
        have HX12a := Lib.hid (HX12''.out.kept HG15.out (HX12.out.unlike HX13'.out (Nat.le_refl _)))
        have HS15 := Lib.hid (HS14.out.keep HG15.out (some_ne (HX13'.out.newer (by have := HS12.out.hash.lt; omega))) (HS12.out.all.unlike HX13'.out (Nat.le_refl _)) (fun j e => by have := (HX13'.out.lt j e).1; have := HS12.out.below.size; omega))
        have hz15 := HS15.out.below.size
        refine (refSum_any w15.heap.size v15 (q ++ y) w15 (HU.out.below HS15.out.below hG2) (by show _ < w15.heap.size; omega) HV15.out.sl (Nat.le_refl _) (by simp; omega)).mono ?_
        rintro e w16 ⟨v16, rfl, hO16, hB16⟩
        have HX16 := Lib.hid hO16.sl
        have HX12b := Lib.hid (HX12a.out.below hB16)
        have HS16 := Lib.hid (HS15.out.on hB16)
        clear hO16 hB16
        go_wp2_with fail
        refine (same_true _ _ v12 v16 (sumL (q ++ y)) w16 HX12b.out.sl HX16.out).mono ?_
        rintro e w17 ⟨rfl, rfl⟩
        go_wp2_with fail
        go_roundw
        case rel => exact ⟨k + 1, by omega, by go_num, by rw [HF.out]; exact HS16.out.hash, by rw [HF.out]; exact HS16.out.all, HS16.out.below, HS16.out.size⟩
        case measure => simp [intOf]; omega
      · have h6' : ¬ (k : Int) < 6 := by omega
        go_wp2_with fail
        go_ret
        exact ⟨rfl, HBk.out⟩
    · obtain rfl : k = ls.length := by omega
      go_wp2_with fail
      go_ret
      exact ⟨rfl, HBk.out⟩
end Go.Proofs.YtkbelfoeofhppaaDoor
