/- append of bytes, nil or not, as a step of a region that draws its order. The statement BoxHandles' own text, walked. The statement BoxHandles' own text, walked: the number nought. BoxHandles, its arguments as a row hands them. The table of sixty-four words, as the program lays it. -/
import Derived.Test.YtpfbpiegejbhkaaDoorSl
import Derived.Test.YtpfbpiegejbhkaaDoorReg
import Derived.Deep.RegionLaw
import Derived.Test.YtpfbpiegejbhkaaDoorBhA
import Derived.Test.YtpfbpiegejbhkaaDoorBeA
import Derived.Test.YtpfbpiegejbhkaaDoorCut
import Derived.Deep.DeepCutAuto
import Derived.Test.YtpfbpiegejbhkaaDoorRows
namespace Go.Proofs.YtpfbpiegejbhkaaDoor
open Go.RowKit
section
variable {w : World} {ops : Array Oper} {o : Oper} {a : Act} {K : Act → World → Prop} {Q : Exit → Act → World → Prop} {E : Prop} {i : Nat}
theorem step_app_sl (hgd : o.guard = none) (s x : Operand) (ho : o.op = .call { callee := .builtin .append, args := #[s, x], argTypes := #[23, 23] })
    (base : Nat) (v : Value) (l ms : List UInt8) (hs : a.eval s = v) (hown : OwnB w base v l) (B : Nat) (vx : Value) (hx : a.eval x = vx) (hsrc : Sl w B vx ms)
    (hlen : l.length + ms.length ≤ 1099511627776) (hbase : base ≤ w.heap.size)
    (h : ∀ v' w', OwnB w' base v' (l ++ ms) → w.grownBy w' v.ownBlock → (v'.ownBlock = v.ownBlock ∨ v'.ownBlock = some w.heap.size) → K (a.put o.dst v') w') : if Region.wanted o (yielded ops a.tmps) = true then Oper.wp Tryd.prog o a w K Q else E := by
  rw [if_pos (show Region.wanted o (yielded ops a.tmps) = true by simp [Region.wanted, hgd])]
  obtain ⟨A, c, rfl, h0, h1, h2, h3⟩ := hsrc
  obtain ⟨i0, hi, hz0, hz1, hz2⟩ := info_parts info_b
  cases A with
  | none =>
    obtain rfl := h0 rfl
    obtain rfl : ms = [] := List.eq_nil_of_length_eq_zero (by omega)
    have hrun := run_append_owned_none (P := Tryd.prog) (w := w) base 23 o.type 5 i0 1 Tryd.underlying23 hi v l.length (l.map vb) hown
    unfold Oper.wp
    simp [execOp, ho, resolve, invoke, builtin, hs, hx, hrun, Result.andThen]
    exact h v w (by simpa using hown) (World.grownBy.refl w _) (.inl rfl)
  | some ad =>
    have hcells : ∀ j u, (ms.map vb)[j]? = some u → w.cell? (ad.add j) = some u := by
      intro j u hu
      rw [List.getElem?_map] at hu
      by_cases hj : j < ms.length
      · obtain ⟨b, so, e, _, hbs⟩ := h3 (by omega)
        obtain rfl := Option.some.inj e
        rw [Addr.add_mid]
        rw [List.getElem?_eq_getElem hj] at hu; cases hu; exact hbs j hj
      · rw [List.getElem?_eq_none (by omega)] at hu; cases hu
    obtain ⟨v', w', hr, g1, g2, _, g3⟩ := run_append_own_at (P := Tryd.prog) w base 23 o.type 5 i0 (.int .u8 0) 1 1 Tryd.underlying23 hi hz0 hz1 hz2 rfl (by decide) v l.length (l.map vb) hown ad ms.length c (ms.map vb) (by simp) hcells (oneCell_bytes ms) (by unfold maxLen; omega) (by omega) hbase
    unfold Oper.wp execOp
    simp only [ho, resolve, invoke, builtin, Sem.run_bind, Sem.run_pure, Result.andThen_ok, List.map_toArray, List.map_cons, List.map_nil, hs, hx, hr]
    refine h v' w' ?_ g2 g3
    unfold OwnB
    rw [List.length_append, List.map_append]
    exact g1
theorem wpOp_appSl (d : Tmp) (hi : ops[i]? = some o) (hd : o.dst = some d) (hgd : o.guard = none) (s x : Operand) (ho : o.op = .call { callee := .builtin .append, args := #[s, x], argTypes := #[23, 23] })
    (base : Nat) (v : Value) (l ms : List UInt8) (hs : a.eval s = v) (hown : OwnB w base v l) (B : Nat) (vx : Value) (hx : a.eval x = vx) (hsrc : Sl w B vx ms)
    (hlen : l.length + ms.length ≤ 1099511627776) (hbase : base ≤ w.heap.size)
    (h : ∀ v' w', OwnB w' base v' (l ++ ms) → w.grownBy w' v.ownBlock → K (a.put (some d) v') w') : wpOp Tryd.prog ops Q i K a w := by
  rw [← hd] at h
  have hw : Region.wanted o (yielded ops a.tmps) = true := by simp [Region.wanted, hgd]
  have := step_app_sl (w := w) (ops := ops) (o := o) (a := a) (K := K) (Q := Q) (E := True) hgd s x ho base v l ms hs hown B vx hx hsrc hlen hbase (fun v' w' h1 h2 _ => h v' w' h1 h2)
  rw [if_pos hw] at this
  exact wpOp_of_wp hi hw this
end
end Go.Proofs.YtpfbpiegejbhkaaDoor
set_option maxRecDepth 100000
namespace Go.Proofs.YtpfbpiegejbhkaaDoor
open Go.RowKit Go.Shelf
theorem hd_facts (n : Int) (h0 : 0 ≤ n) (h1 : n < 4294967296) : ∃ tl : List UInt8, (∀ W, Calls Tryd.prog 5 #[.int .i64 n] W fun e w' => ∃ v', e = .returned v' ∧ OwnB w' W.heap.size v' tl ∧ Below W.heap.size W w') ∧
    (∀ W, Calls Tryd.prog 8 #[.int .i64 n] W fun e w' => ∃ v', e = .returned v' ∧ OwnB w' W.heap.size v' tl ∧ Below W.heap.size W w') ∧ (tagN tl : Int) = n ∧ tl.length = 32 := by
  obtain ⟨N, rfl⟩ := Int.eq_ofNat_of_zero_le h0
  have hN : N < 4294967296 := by omega
  exact ⟨fro ++ len4 N, fun W => handle_any N hN W, fun W => refHandle_any N hN W, by rw [(tagN_handle N hN).2], by simp [fro_length, len4]⟩
set_option maxHeartbeats 4000000 in
theorem boxHandles_pos (n : Int) (B1 B2 : Nat) (v1 v2 : Value) (l1 l2 : List UInt8) (u : Int) (w : World) (hn0 : 0 ≤ n) (hn1 : n < 4294967296) (hz : 0 < n) (h1 : Sl w B1 v1 l1) (h2 : Sl w B2 v2 l2) (hB1 : B1 ≤ w.heap.size) (hB2 : B2 ≤ w.heap.size) (hu0 : 0 ≤ u) (hu1 : u ≤ 255) :
    Calls Tryd.prog 3 #[.int .u32 n, v1, v2, .int .u8 u] w fun e w' => e = .returned (.bool true) ∧ Below w.heap.size w w' := by
  obtain ⟨K, hKu⟩ : ∃ K : Nat, (K : Int) = 1 + u % 4 := ⟨(1 + u % 4).toNat, by omega⟩
  have hK1 : 1 ≤ K := by omega
  have hK2 : K ≤ 4 := by omega
  have hum : 0 ≤ u % 4 ∧ u % 4 < 4 := by omega
  have HKU := Lib.hid hKu; clear hKu
  have HV1 := Lib.hid h1
  have HBA := Lib.hid hB1
  have HBB := Lib.hid hB2
  obtain ⟨A1, c1, rfl, _, _, _, _⟩ := h1
  obtain ⟨A2, c2, rfl, hA2, hc2, hd2, hs2⟩ := h2
  have HS2 := Lib.hid hs2; clear hs2
  have HAW := Lib.hid (awake5 w)
  obtain ⟨tl, hH, hR, hT, hL⟩ := hd_facts n hn0 hn1
  have HH := Lib.hid hH; clear hH
  have HR := Lib.hid hR; clear hR
  obtain ⟨T, hTT⟩ : ∃ T, T = tagN tl := ⟨_, rfl⟩
  rw [← hTT] at hT
  obtain ⟨b, hb⟩ : ∃ b, b = decide (0 < T) := ⟨_, rfl⟩
  have hb2 : b = true := by rw [hb]; exact decide_eq_true (by omega)
  have HB0 := Lib.hid hb; clear hb
  have HT := Lib.hid hT; clear hT
  have HTT := Lib.hid hTT; clear hTT
  have HL := Lib.hid hL; clear hL
  have hwr : IntKind.i64.wrap n = n := IntWalk.i64_in n (by omega)
  go_enter Tryd.func3, Tryd.ntmps3
  go_wp2_with fail
  refine HAW.out.mono ?_
  rintro e w1 ⟨rfl, hB1'⟩
  have HB1 := Lib.hid hB1'; clear hB1' HAW
  go_wp2_with fail
  refine (HH.out w1).mono ?_
  rintro e w2 ⟨vh, rfl, hO2, hB2'⟩
  have HB2 := Lib.hid (HB1.out.trans (hB2'.mono HB1.out.size)); clear hB2'
  have HO2 := Lib.hid hO2.sl
  have HNN := Lib.hid (number_all w2.heap.size vh _ w2 hO2.sl)
  rw [← HTT.out] at HNN
  clear hO2
  obtain ⟨Ah, ch, rfl, _, _, _, _⟩ := id HO2.out
  go_wp2_with fail
  refine HNN.out.mono ?_
  rintro e w3 ⟨rfl, q, hq⟩
  have HB3 := Lib.hid (show Below w2.heap.size w2 w3 from by rw [hq]; exact below_drewN (Below.refl _ _) q)
  clear hq HNN
  have HO3 := Lib.hid (HO2.out.below HB3.out (Nat.le_refl _))
  have HLOW3 := Lib.hid (HB2.out.trans (HB3.out.mono HB2.out.size))
  rw [HT.out, ← HB0.out, hb2]
  clear hb2
  go_wp2_with fail
  refine (HR.out w3).mono ?_
  rintro e w4 ⟨vr, rfl, hO4, hB4⟩
  have HSM := Lib.hid (same_true _ _ _ vr tl w4 (HO3.out.below hB4 HB3.out.size) hO4.sl)
  have HLOW4 := Lib.hid (HLOW3.out.trans (hB4.mono HLOW3.out.size))
  clear hO4 hB4
  go_wp2_with fail
  refine HSM.out.mono ?_
  rintro e w5 ⟨rfl, rfl⟩
  go_wp2_with fail
  refine (cut_any B1 _ l1 80 w4 (HV1.out.below HLOW4.out HBA.out) (Nat.le_trans HBA.out HLOW4.out.size) (by omega) (by omega)).mono ?_
  rintro e w5 ⟨v0, rfl, hO5, hB5⟩
  obtain ⟨x0, hx0⟩ : ∃ x0, x0 = l1.take (80 : Int).toNat := ⟨_, rfl⟩
  rw [← hx0] at hO5
  have hx0l : x0.length ≤ 80 := by rw [hx0, List.length_take]; omega
  have HX0 := Lib.hid hx0l
  have HLOW5 := Lib.hid (HLOW4.out.trans (hB5.mono HLOW4.out.size))
  have HO5 := Lib.hid (hO5.lower HLOW4.out.size)
  obtain ⟨A0, c0, rfl, _, _, _, _⟩ := id hO5.sl
  clear hO5 hB5 hx0 hx0l
  go_wp2_with fail
  go_loopw [1, 52] (fun t i wr => ∃ (k : Nat) (x : List UInt8), k ≤ l2.length ∧ i = .int .i64 (k : Int) ∧ (∃ At ct, t = .slice At x.length ct) ∧ OwnB wr w.heap.size t x ∧ x.length ≤ 80 + 32 * min k 3 ∧ Below w.heap.size w wr) (fun _ i _ => l2.length - (intOf i).toNat)
  case atStart => exact ⟨0, x0, by omega, rfl, ⟨_, _, rfl⟩, HO5.out, by have := HX0.out; omega, HLOW5.out⟩
  case round =>
    obtain ⟨k, x, hk, rfl, ⟨At, ct, rfl⟩, hO, hxl, hbr⟩ := hrel
    have HO := Lib.hid hO; clear hO
    have HXL := Lib.hid (show x.length ≤ 200 by omega)
    have HXK := Lib.hid hxl; clear hxl
    have HBR := Lib.hid hbr; clear hbr
    by_cases hlt : k < l2.length
    · obtain ⟨gb, go, rfl, hgb, hbs⟩ := HS2.out (by omega)
      obtain ⟨a0, ha0⟩ : ∃ a0, a0 = l2[k] := ⟨_, rfl⟩
      have hcell : wr.cell? ⟨gb, go + k, none⟩ = some (vb a0) := by rw [ha0]; exact (hbs.below HBR.out (Nat.lt_of_lt_of_le hgb HBB.out)) k hlt
      obtain ⟨y, hy⟩ : ∃ y : Nat, (y : Int) = bn a0 := ⟨(bn a0).toNat, by have := bn_range a0; omega⟩
      have hy2 : y < 256 := by have := bn_range a0; omega
      rw [show vb a0 = .int .u8 (y : Int) from by show Value.int .u8 (bn a0) = _; rw [← hy]] at hcell
      clear ha0 hbs hgb hA2 hy
      have k0 : (0 : Int) ≤ (k : Int) := by omega
      have k1 : (k : Int) < (l2.length : Int) := by omega
      by_cases hk3 : k < 3
      · have k3 : (k : Int) < 3 := by omega
        obtain ⟨tl2, hH2, hR2, _, hL2⟩ := hd_facts ((y : Int) + 1) (by omega) (by omega)
        have HHR := Lib.hid hR2; have HHL := Lib.hid hL2
        clear hH2 hR2 hL2
        have hwy : IntKind.i64.wrap (y : Int) = (y : Int) := IntWalk.i64_in (y : Int) (by omega)
        have hwy1 : IntKind.i64.wrap ((y : Int) + 1) = (y : Int) + 1 := IntWalk.i64_in ((y : Int) + 1) (by omega)
        go_wp2_with fail
        obtain ⟨p, hp, hpl⟩ : ∃ p : Nat, min (y : Int) (x.length : Int) = (p : Int) ∧ p ≤ x.length := ⟨min y x.length, by omega, by omega⟩
        rw [hp]
        clear hp
        have hSX := HO.out.sl
        obtain ⟨At', ct', he, hpc, hct, _, hs13⟩ := hSX.take p hpl
        injection he with he1 _ he2
        subst he1; subst he2
        have h66 := fun W => slice_h At x.length ct p hpc W
        obtain ⟨V2, h75, hsl75⟩ := slice_from At x.length ct p (p : Int) rfl hpl hct
        have HX1 := Lib.hid (show ∀ W, Below wr.heap.size wr W → Sl W wr.heap.size (.slice At p ct) (x.take p) from fun W hW => hs13.below hW (Nat.le_refl _))
        have HX2 := Lib.hid (show ∀ W, Below wr.heap.size wr W → Sl W wr.heap.size V2 (x.drop p) from fun W hW => hsl75 W _ x (hSX.below hW (Nat.le_refl _)) rfl)
        clear hs13 hsl75 hSX hct hpc hpl
        refine wp_region_noPanic ?_
        refine wp_region_held (S := fun _ => True) (by kernel_rfl) ?_
        change wpAnyH _ _ _ _ _ _ _ _ wr.drew
        refine takeH 0 64 (Value.slice At x.length ct) rfl rfl (by kernel_rfl) (by kernel_rfl) (by kernel_rfl) (fun _ _ _ h => h) rfl (fun w' _ => by go_simp) trivial ?_
        go_frame
        refine takeH 1 65 (.int .i64 (p : Int)) rfl rfl (by kernel_rfl) (by kernel_rfl) (by kernel_rfl) (fun _ _ _ h => h) rfl (fun w' _ => by go_simp) trivial ?_
        go_frame
        refine takeH 4 68 (.int .u8 (y : Int)) rfl rfl (by kernel_rfl) (by kernel_rfl) (by kernel_rfl) (fun _ _ _ h => h) rfl (fun w' _ => by go_simp) trivial ?_
        go_frame
        refine takeH 5 69 (.int .i64 (y : Int)) rfl rfl (by kernel_rfl) (by kernel_rfl) (by kernel_rfl) (fun _ _ _ h => h) rfl (fun w' _ => by go_simp) trivial ?_
        go_frame
        refine takeH 6 70 (.int .i64 ((y : Int) + 1)) rfl rfl (by kernel_rfl) (by kernel_rfl) (by kernel_rfl) (fun _ _ _ h => h) rfl (fun w' _ => by go_simp) trivial ?_
        go_frame
        refine takeH 9 73 (Value.slice At x.length ct) rfl rfl (by kernel_rfl) (by kernel_rfl) (by kernel_rfl) (fun _ _ _ h => h) rfl (fun w' _ => by go_simp) trivial ?_
        go_frame
        refine takeH 10 74 (.int .i64 (p : Int)) rfl rfl (by kernel_rfl) (by kernel_rfl) (by kernel_rfl) (fun _ _ _ h => h) rfl (fun w' _ => by go_simp) trivial ?_
        go_frame
        refine wpAnyH_all (rs := [2, 11]) (by kernel_rfl) (by simp) ?_
        simp only [List.mem_cons, List.not_mem_nil, or_false, forall_eq_or_imp, forall_eq]
        refine ⟨?_, ?_⟩
        · skip
          refine wpOp_valueD 66 rfl rfl rfl (.slice At p ct) (by go_simp) ⟨trivial, ?_⟩
          go_frame
          refine wpAnyH_all (rs := [3, 11]) (by kernel_rfl) (by simp) ?_
          simp only [List.mem_cons, List.not_mem_nil, or_false, forall_eq_or_imp, forall_eq]
          refine ⟨?_, ?_⟩
          · skip
            refine wpOp_callD 67 rfl rfl rfl 10 #[.slice At p ct] (by go_simp) ?_
            refine (copy_any wr.heap.size _ _ wr.drew (HX1.out _ (Below.refl _ _).drew) (Nat.le_refl _) (by rw [List.length_take]; have := HXL.out; omega)).mono ?_
            rintro e W1 ⟨v1, rfl, ho1, hb1⟩
            have HW1 := Lib.hid (show Below wr.heap.size wr W1 from (Below.refl _ _).drew.trans hb1)
            have Hv1 := Lib.hid (show OwnB W1 wr.heap.size v1 _ from ho1); clear ho1 hb1
            refine ⟨_, rfl, trivial, ?_⟩
            go_frame
            refine wpAnyH_all (rs := [7, 11]) (by kernel_rfl) (by simp) ?_
            simp only [List.mem_cons, List.not_mem_nil, or_false, forall_eq_or_imp, forall_eq]
            refine ⟨?_, ?_⟩
            · skip
              refine wpOp_callD 71 rfl rfl rfl 8 #[.int .i64 ((y : Int) + 1)] (by go_simp) ?_
              refine (HHR.out W1).mono ?_
              rintro e W2 ⟨v2, rfl, ho2, hb2⟩
              have HW2 := Lib.hid (HW1.out.trans (hb2.mono HW1.out.size))
              have Hv12 := Lib.hid (Hv1.out.below hb2)
              have Hv2 := Lib.hid ho2.sl; clear ho2 hb2
              refine ⟨_, rfl, trivial, ?_⟩
              go_frame
              refine wpAnyH_all (rs := [8, 11]) (by kernel_rfl) (by simp) ?_
              simp only [List.mem_cons, List.not_mem_nil, or_false, forall_eq_or_imp, forall_eq]
              refine ⟨?_, ?_⟩
              · skip
                refine wpOp_appSl 72 rfl rfl rfl (.tmp 67) (.tmp 71) rfl wr.heap.size v1 _ _ rfl Hv12.out W2.heap.size v2 rfl Hv2.out (by have := HXL.out; have := HHL.out; rw [List.length_take]; omega) HW2.out.size ?_
                intro v3 W3 hv3 hg3
                have HW3 := Lib.hid (HW2.out.trans (Hv12.out.belowBase hg3 HW2.out.size))
                have Hv3 := Lib.hid hv3; clear hv3 hg3
                refine ⟨trivial, ?_⟩
                go_frame
                refine wpAnyH_all (rs := [11]) (by kernel_rfl) (by simp) ?_
                simp only [List.mem_singleton, forall_eq]
                refine wpOp_valueD 75 rfl rfl rfl V2 (by go_simp) ⟨trivial, ?_⟩
                go_frame
                refine wpAnyH_all (rs := [12]) (by kernel_rfl) (by simp) ?_
                simp only [List.mem_singleton, forall_eq]
                refine wpOp_appSl 76 rfl rfl rfl (.tmp 72) (.tmp 75) rfl wr.heap.size v3 _ _ rfl Hv3.out wr.heap.size V2 rfl (HX2.out _ HW3.out) (by have := HXL.out; have := HHL.out; rw [List.length_append, List.length_take, List.length_drop]; omega) HW3.out.size ?_
                intro v4 W4 hv4 hg4
                have HW4 := Lib.hid (HW3.out.trans (Hv3.out.belowBase hg4 HW3.out.size))
                have Hv4 := Lib.hid hv4; clear hv4 hg4
                refine ⟨trivial, ?_⟩
                obtain ⟨Z, hZ⟩ : ∃ Z, Z = x.take p ++ tl2 ++ x.drop p := ⟨_, rfl⟩
                have HZ := Lib.hid (show Z.length ≤ x.length + 32 by rw [hZ]; have := HHL.out; simp only [List.length_append, List.length_take, List.length_drop]; omega)
                rw [← hZ] at Hv4
                clear hZ
                go_frame
                obtain ⟨Aw, cw, rfl, _, _, _, _⟩ := id Hv4.out.sl
                refine takeH 13 1 (.slice Aw Z.length cw) rfl rfl (by kernel_rfl) (by kernel_rfl) (by kernel_rfl) (fun _ _ _ h => h) rfl (fun w' _ => by go_simp) trivial ?_
                go_frame
                refine wpAnyH_done (by kernel_rfl) ?_ _
                refine NoPanic.normal ?_
                go_wp2_with fail
                go_roundw
                case rel => exact ⟨k + 1, _, by omega, by go_num, ⟨Aw, cw, rfl⟩, Hv4.out.lower HBR.out.size, by have := HZ.out; have := HXK.out; omega, HBR.out.trans (HW4.out.mono HBR.out.size)⟩
                case measure => simp [intOf]; omega
              · skip
                refine wpOp_valueD 75 rfl rfl rfl V2 (by go_simp) ⟨trivial, ?_⟩
                go_frame
                refine wpAnyH_all (rs := [8]) (by kernel_rfl) (by simp) ?_
                simp only [List.mem_singleton, forall_eq]
                refine wpOp_appSl 72 rfl rfl rfl (.tmp 67) (.tmp 71) rfl wr.heap.size v1 _ _ rfl Hv12.out W2.heap.size v2 rfl Hv2.out (by have := HXL.out; have := HHL.out; rw [List.length_take]; omega) HW2.out.size ?_
                intro v3 W3 hv3 hg3
                have HW3 := Lib.hid (HW2.out.trans (Hv12.out.belowBase hg3 HW2.out.size))
                have Hv3 := Lib.hid hv3; clear hv3 hg3
                refine ⟨trivial, ?_⟩
                go_frame
                refine wpAnyH_all (rs := [12]) (by kernel_rfl) (by simp) ?_
                simp only [List.mem_singleton, forall_eq]
                refine wpOp_appSl 76 rfl rfl rfl (.tmp 72) (.tmp 75) rfl wr.heap.size v3 _ _ rfl Hv3.out wr.heap.size V2 rfl (HX2.out _ HW3.out) (by have := HXL.out; have := HHL.out; rw [List.length_append, List.length_take, List.length_drop]; omega) HW3.out.size ?_
                intro v4 W4 hv4 hg4
                have HW4 := Lib.hid (HW3.out.trans (Hv3.out.belowBase hg4 HW3.out.size))
                have Hv4 := Lib.hid hv4; clear hv4 hg4
                refine ⟨trivial, ?_⟩
                obtain ⟨Z, hZ⟩ : ∃ Z, Z = x.take p ++ tl2 ++ x.drop p := ⟨_, rfl⟩
                have HZ := Lib.hid (show Z.length ≤ x.length + 32 by rw [hZ]; have := HHL.out; simp only [List.length_append, List.length_take, List.length_drop]; omega)
                rw [← hZ] at Hv4
                clear hZ
                go_frame
                obtain ⟨Aw, cw, rfl, _, _, _, _⟩ := id Hv4.out.sl
                refine takeH 13 1 (.slice Aw Z.length cw) rfl rfl (by kernel_rfl) (by kernel_rfl) (by kernel_rfl) (fun _ _ _ h => h) rfl (fun w' _ => by go_simp) trivial ?_
                go_frame
                refine wpAnyH_done (by kernel_rfl) ?_ _
                refine NoPanic.normal ?_
                go_wp2_with fail
                go_roundw
                case rel => exact ⟨k + 1, _, by omega, by go_num, ⟨Aw, cw, rfl⟩, Hv4.out.lower HBR.out.size, by have := HZ.out; have := HXK.out; omega, HBR.out.trans (HW4.out.mono HBR.out.size)⟩
                case measure => simp [intOf]; omega
            · skip
              refine wpOp_valueD 75 rfl rfl rfl V2 (by go_simp) ⟨trivial, ?_⟩
              go_frame
              refine wpAnyH_all (rs := [7]) (by kernel_rfl) (by simp) ?_
              simp only [List.mem_singleton, forall_eq]
              refine wpOp_callD 71 rfl rfl rfl 8 #[.int .i64 ((y : Int) + 1)] (by go_simp) ?_
              refine (HHR.out W1).mono ?_
              rintro e W2 ⟨v2, rfl, ho2, hb2⟩
              have HW2 := Lib.hid (HW1.out.trans (hb2.mono HW1.out.size))
              have Hv12 := Lib.hid (Hv1.out.below hb2)
              have Hv2 := Lib.hid ho2.sl; clear ho2 hb2
              refine ⟨_, rfl, trivial, ?_⟩
              go_frame
              refine wpAnyH_all (rs := [8]) (by kernel_rfl) (by simp) ?_
              simp only [List.mem_singleton, forall_eq]
              refine wpOp_appSl 72 rfl rfl rfl (.tmp 67) (.tmp 71) rfl wr.heap.size v1 _ _ rfl Hv12.out W2.heap.size v2 rfl Hv2.out (by have := HXL.out; have := HHL.out; rw [List.length_take]; omega) HW2.out.size ?_
              intro v3 W3 hv3 hg3
              have HW3 := Lib.hid (HW2.out.trans (Hv12.out.belowBase hg3 HW2.out.size))
              have Hv3 := Lib.hid hv3; clear hv3 hg3
              refine ⟨trivial, ?_⟩
              go_frame
              refine wpAnyH_all (rs := [12]) (by kernel_rfl) (by simp) ?_
              simp only [List.mem_singleton, forall_eq]
              refine wpOp_appSl 76 rfl rfl rfl (.tmp 72) (.tmp 75) rfl wr.heap.size v3 _ _ rfl Hv3.out wr.heap.size V2 rfl (HX2.out _ HW3.out) (by have := HXL.out; have := HHL.out; rw [List.length_append, List.length_take, List.length_drop]; omega) HW3.out.size ?_
              intro v4 W4 hv4 hg4
              have HW4 := Lib.hid (HW3.out.trans (Hv3.out.belowBase hg4 HW3.out.size))
              have Hv4 := Lib.hid hv4; clear hv4 hg4
              refine ⟨trivial, ?_⟩
              obtain ⟨Z, hZ⟩ : ∃ Z, Z = x.take p ++ tl2 ++ x.drop p := ⟨_, rfl⟩
              have HZ := Lib.hid (show Z.length ≤ x.length + 32 by rw [hZ]; have := HHL.out; simp only [List.length_append, List.length_take, List.length_drop]; omega)
              rw [← hZ] at Hv4
              clear hZ
              go_frame
              obtain ⟨Aw, cw, rfl, _, _, _, _⟩ := id Hv4.out.sl
              refine takeH 13 1 (.slice Aw Z.length cw) rfl rfl (by kernel_rfl) (by kernel_rfl) (by kernel_rfl) (fun _ _ _ h => h) rfl (fun w' _ => by go_simp) trivial ?_
              go_frame
              refine wpAnyH_done (by kernel_rfl) ?_ _
              refine NoPanic.normal ?_
              go_wp2_with fail
              go_roundw
              case rel => exact ⟨k + 1, _, by omega, by go_num, ⟨Aw, cw, rfl⟩, Hv4.out.lower HBR.out.size, by have := HZ.out; have := HXK.out; omega, HBR.out.trans (HW4.out.mono HBR.out.size)⟩
              case measure => simp [intOf]; omega
          · skip
            refine wpOp_valueD 75 rfl rfl rfl V2 (by go_simp) ⟨trivial, ?_⟩
            go_frame
            refine wpAnyH_all (rs := [3]) (by kernel_rfl) (by simp) ?_
            simp only [List.mem_singleton, forall_eq]
            refine wpOp_callD 67 rfl rfl rfl 10 #[.slice At p ct] (by go_simp) ?_
            refine (copy_any wr.heap.size _ _ wr.drew (HX1.out _ (Below.refl _ _).drew) (Nat.le_refl _) (by rw [List.length_take]; have := HXL.out; omega)).mono ?_
            rintro e W1 ⟨v1, rfl, ho1, hb1⟩
            have HW1 := Lib.hid (show Below wr.heap.size wr W1 from (Below.refl _ _).drew.trans hb1)
            have Hv1 := Lib.hid (show OwnB W1 wr.heap.size v1 _ from ho1); clear ho1 hb1
            refine ⟨_, rfl, trivial, ?_⟩
            go_frame
            refine wpAnyH_all (rs := [7]) (by kernel_rfl) (by simp) ?_
            simp only [List.mem_singleton, forall_eq]
            refine wpOp_callD 71 rfl rfl rfl 8 #[.int .i64 ((y : Int) + 1)] (by go_simp) ?_
            refine (HHR.out W1).mono ?_
            rintro e W2 ⟨v2, rfl, ho2, hb2⟩
            have HW2 := Lib.hid (HW1.out.trans (hb2.mono HW1.out.size))
            have Hv12 := Lib.hid (Hv1.out.below hb2)
            have Hv2 := Lib.hid ho2.sl; clear ho2 hb2
            refine ⟨_, rfl, trivial, ?_⟩
            go_frame
            refine wpAnyH_all (rs := [8]) (by kernel_rfl) (by simp) ?_
            simp only [List.mem_singleton, forall_eq]
            refine wpOp_appSl 72 rfl rfl rfl (.tmp 67) (.tmp 71) rfl wr.heap.size v1 _ _ rfl Hv12.out W2.heap.size v2 rfl Hv2.out (by have := HXL.out; have := HHL.out; rw [List.length_take]; omega) HW2.out.size ?_
            intro v3 W3 hv3 hg3
            have HW3 := Lib.hid (HW2.out.trans (Hv12.out.belowBase hg3 HW2.out.size))
            have Hv3 := Lib.hid hv3; clear hv3 hg3
            refine ⟨trivial, ?_⟩
            go_frame
            refine wpAnyH_all (rs := [12]) (by kernel_rfl) (by simp) ?_
            simp only [List.mem_singleton, forall_eq]
            refine wpOp_appSl 76 rfl rfl rfl (.tmp 72) (.tmp 75) rfl wr.heap.size v3 _ _ rfl Hv3.out wr.heap.size V2 rfl (HX2.out _ HW3.out) (by have := HXL.out; have := HHL.out; rw [List.length_append, List.length_take, List.length_drop]; omega) HW3.out.size ?_
            intro v4 W4 hv4 hg4
            have HW4 := Lib.hid (HW3.out.trans (Hv3.out.belowBase hg4 HW3.out.size))
            have Hv4 := Lib.hid hv4; clear hv4 hg4
            refine ⟨trivial, ?_⟩
            obtain ⟨Z, hZ⟩ : ∃ Z, Z = x.take p ++ tl2 ++ x.drop p := ⟨_, rfl⟩
            have HZ := Lib.hid (show Z.length ≤ x.length + 32 by rw [hZ]; have := HHL.out; simp only [List.length_append, List.length_take, List.length_drop]; omega)
            rw [← hZ] at Hv4
            clear hZ
            go_frame
            obtain ⟨Aw, cw, rfl, _, _, _, _⟩ := id Hv4.out.sl
            refine takeH 13 1 (.slice Aw Z.length cw) rfl rfl (by kernel_rfl) (by kernel_rfl) (by kernel_rfl) (fun _ _ _ h => h) rfl (fun w' _ => by go_simp) trivial ?_
            go_frame
            refine wpAnyH_done (by kernel_rfl) ?_ _
            refine NoPanic.normal ?_
            go_wp2_with fail
            go_roundw
            case rel => exact ⟨k + 1, _, by omega, by go_num, ⟨Aw, cw, rfl⟩, Hv4.out.lower HBR.out.size, by have := HZ.out; have := HXK.out; omega, HBR.out.trans (HW4.out.mono HBR.out.size)⟩
            case measure => simp [intOf]; omega
        · skip
          refine wpOp_valueD 75 rfl rfl rfl V2 (by go_simp) ⟨trivial, ?_⟩
          go_frame
          refine wpAnyH_all (rs := [2]) (by kernel_rfl) (by simp) ?_
          simp only [List.mem_singleton, forall_eq]
          refine wpOp_valueD 66 rfl rfl rfl (.slice At p ct) (by go_simp) ⟨trivial, ?_⟩
          go_frame
          refine wpAnyH_all (rs := [3]) (by kernel_rfl) (by simp) ?_
          simp only [List.mem_singleton, forall_eq]
          refine wpOp_callD 67 rfl rfl rfl 10 #[.slice At p ct] (by go_simp) ?_
          refine (copy_any wr.heap.size _ _ wr.drew (HX1.out _ (Below.refl _ _).drew) (Nat.le_refl _) (by rw [List.length_take]; have := HXL.out; omega)).mono ?_
          rintro e W1 ⟨v1, rfl, ho1, hb1⟩
          have HW1 := Lib.hid (show Below wr.heap.size wr W1 from (Below.refl _ _).drew.trans hb1)
          have Hv1 := Lib.hid (show OwnB W1 wr.heap.size v1 _ from ho1); clear ho1 hb1
          refine ⟨_, rfl, trivial, ?_⟩
          go_frame
          refine wpAnyH_all (rs := [7]) (by kernel_rfl) (by simp) ?_
          simp only [List.mem_singleton, forall_eq]
          refine wpOp_callD 71 rfl rfl rfl 8 #[.int .i64 ((y : Int) + 1)] (by go_simp) ?_
          refine (HHR.out W1).mono ?_
          rintro e W2 ⟨v2, rfl, ho2, hb2⟩
          have HW2 := Lib.hid (HW1.out.trans (hb2.mono HW1.out.size))
          have Hv12 := Lib.hid (Hv1.out.below hb2)
          have Hv2 := Lib.hid ho2.sl; clear ho2 hb2
          refine ⟨_, rfl, trivial, ?_⟩
          go_frame
          refine wpAnyH_all (rs := [8]) (by kernel_rfl) (by simp) ?_
          simp only [List.mem_singleton, forall_eq]
          refine wpOp_appSl 72 rfl rfl rfl (.tmp 67) (.tmp 71) rfl wr.heap.size v1 _ _ rfl Hv12.out W2.heap.size v2 rfl Hv2.out (by have := HXL.out; have := HHL.out; rw [List.length_take]; omega) HW2.out.size ?_
          intro v3 W3 hv3 hg3
          have HW3 := Lib.hid (HW2.out.trans (Hv12.out.belowBase hg3 HW2.out.size))
          have Hv3 := Lib.hid hv3; clear hv3 hg3
          refine ⟨trivial, ?_⟩
          go_frame
          refine wpAnyH_all (rs := [12]) (by kernel_rfl) (by simp) ?_
          simp only [List.mem_singleton, forall_eq]
          refine wpOp_appSl 76 rfl rfl rfl (.tmp 72) (.tmp 75) rfl wr.heap.size v3 _ _ rfl Hv3.out wr.heap.size V2 rfl (HX2.out _ HW3.out) (by have := HXL.out; have := HHL.out; rw [List.length_append, List.length_take, List.length_drop]; omega) HW3.out.size ?_
          intro v4 W4 hv4 hg4
          have HW4 := Lib.hid (HW3.out.trans (Hv3.out.belowBase hg4 HW3.out.size))
          have Hv4 := Lib.hid hv4; clear hv4 hg4
          refine ⟨trivial, ?_⟩
          obtain ⟨Z, hZ⟩ : ∃ Z, Z = x.take p ++ tl2 ++ x.drop p := ⟨_, rfl⟩
          have HZ := Lib.hid (show Z.length ≤ x.length + 32 by rw [hZ]; have := HHL.out; simp only [List.length_append, List.length_take, List.length_drop]; omega)
          rw [← hZ] at Hv4
          clear hZ
          go_frame
          obtain ⟨Aw, cw, rfl, _, _, _, _⟩ := id Hv4.out.sl
          refine takeH 13 1 (.slice Aw Z.length cw) rfl rfl (by kernel_rfl) (by kernel_rfl) (by kernel_rfl) (fun _ _ _ h => h) rfl (fun w' _ => by go_simp) trivial ?_
          go_frame
          refine wpAnyH_done (by kernel_rfl) ?_ _
          refine NoPanic.normal ?_
          go_wp2_with fail
          go_roundw
          case rel => exact ⟨k + 1, _, by omega, by go_num, ⟨Aw, cw, rfl⟩, Hv4.out.lower HBR.out.size, by have := HZ.out; have := HXK.out; omega, HBR.out.trans (HW4.out.mono HBR.out.size)⟩
          case measure => simp [intOf]; omega
      · have k3 : ¬ (k : Int) < 3 := by omega
        go_wp2_with fail
        go_roundw
        case rel => exact ⟨k + 1, x, by omega, by go_num, ⟨At, ct, rfl⟩, HO.out, by have := HXK.out; omega, HBR.out⟩
        case measure => simp [intOf]; omega
    · obtain rfl : k = l2.length := by omega
      have hSX := HO.out.sl
      have HRF := Lib.hid (refFinds_any wr.heap.size _ x wr hSX (Nat.le_refl _) (by have := HXL.out; omega))
      have HF := Lib.hid (show ∀ W m, Below wr.heap.size wr W → 1 ≤ m → m ≤ 1000 → _ from fun W m hW h1 h2 => finds_any wr.heap.size _ x m W (hSX.below hW (Nat.le_refl _)) hW.size (by have := HXL.out; omega) h1 h2)
      have hrl := fins_len x
      obtain ⟨xs, hxs⟩ : ∃ xs, xs = fins x 0 := ⟨_, rfl⟩
      rw [← hxs] at HRF HF hrl
      have HX1 := Lib.hid (show xs.length ≤ 200 by have := HXL.out; omega)
      clear hSX hrl hxs hlt
      go_wp2_with fail
      refine HRF.out.mono ?_
      rintro e w6 ⟨v6, rfl, hO6, hB6⟩
      have HO6 := Lib.hid (show OwnFd w6 wr.heap.size v6 xs from hO6); clear hO6
      obtain ⟨A6, c6, rfl, hc6⟩ := HO6.out.cap
      have HI6 := Lib.hid HO6.out.fdIn
      have HB6 := Lib.hid hB6; clear hB6 HRF
      have hku := HKU.out
      go_wp2_with fail
      rw [← hku]
      clear hku
      obtain ⟨M, hM, hMr⟩ : ∃ M : Nat, M = min xs.length K ∧ (M ≤ xs.length) := ⟨_, rfl, by omega⟩
      have hmin : min (xs.length : Int) (K : Int) = (M : Int) := by omega
      have htk : xs.take K = xs.take M := by rw [hM, Nat.min_comm, ← List.take_take, List.take_length]
      have HTK := Lib.hid htk
      have hsl2 := fun W => slice_hF A6 xs.length c6 M (by omega) W
      have HSL := Lib.hid hsl2
      have HMIN := Lib.hid hmin
      have HT1 := Lib.hid (show xs.take 1000 = xs from List.take_of_length_le (by have := HX1.out; omega))
      clear hM htk hmin hsl2
      refine wp_region_noPanic ?_
      refine wp_region_held (S := fun _ => True) (by kernel_rfl) ?_
      change wpAnyH _ _ _ _ _ _ _ _ w6.drew
      have HBd := Lib.hid HB6.out.drew
      have HId := Lib.hid (HI6.out.below (Below.refl _ _).drew)
      clear HI6
      refine takeH 0 84 (Value.slice At x.length ct) rfl rfl (by kernel_rfl) (by kernel_rfl) (by kernel_rfl) (fun _ _ _ h => h) rfl (fun w' _ => by go_simp) trivial ?_
      go_frame
      refine takeH 2 86 (Value.slice A6 xs.length c6) rfl rfl (by kernel_rfl) (by kernel_rfl) (by kernel_rfl) (fun _ _ _ h => h) rfl (fun w' _ => by go_simp) trivial ?_
      go_frame
      refine wpAnyH_all (rs := [1]) (by kernel_rfl) (by simp) ?_
      simp only [List.mem_singleton, forall_eq]
      refine wpOp_callD 85 rfl rfl rfl 13 #[Value.slice At x.length ct, .int .i64 1000] (by go_simp) ?_
      refine (HF.out w6.drew 1000 HBd.out (by omega) (by omega)).mono ?_
      rintro e w7 ⟨v7, rfl, hO7, hB7⟩
      rw [HT1.out] at hO7
      have HI7 := Lib.hid (HId.out.below hB7)
      have HS7 := Lib.hid hO7.fdIn; clear hO7
      have HB7 := Lib.hid (HBd.out.trans (hB7.mono HBd.out.size)); clear hB7
      refine ⟨_, rfl, trivial, ?_⟩
      go_frame
      refine wpAnyH_all (rs := [3]) (by kernel_rfl) (by simp) ?_
      simp only [List.mem_singleton, forall_eq]
      refine wpOp_callD 87 rfl rfl rfl 12 #[v7, Value.slice A6 xs.length c6] (by go_simp) ?_
      refine (sameFd_any v7 _ xs w7 HS7.out HI7.out (by have := HX1.out; omega)).mono ?_
      rintro e w8 ⟨rfl, hB8⟩
      have HI8 := Lib.hid (HI7.out.below hB8)
      have HB8 := Lib.hid (HB7.out.trans (hB8.mono HB7.out.size)); clear hB8
      refine ⟨_, rfl, trivial, ?_⟩
      go_frame
      refine takeH 4 88 (.bool true) rfl rfl (by kernel_rfl) (by kernel_rfl) (by kernel_rfl) (fun _ _ _ h => h) rfl (fun w' _ => by go_simp) trivial ?_
      go_frame
      refine takeH 5 89 (Value.slice At x.length ct) rfl rfl (by kernel_rfl) (by kernel_rfl) (by kernel_rfl) (fun _ _ _ h => h) rfl (fun w' _ => by go_simp) trivial ?_
      go_frame
      refine takeH 6 90 (.int .i64 (K : Int)) rfl rfl (by kernel_rfl) (by kernel_rfl) (by kernel_rfl) (fun _ _ _ h => h) rfl (fun w' _ => by go_simp) trivial ?_
      go_frame
      refine takeH 8 92 (Value.slice A6 xs.length c6) rfl rfl (by kernel_rfl) (by kernel_rfl) (by kernel_rfl) (fun _ _ _ h => h) rfl (fun w' _ => by go_simp) trivial ?_
      go_frame
      refine takeH 9 93 (Value.slice A6 xs.length c6) rfl rfl (by kernel_rfl) (by kernel_rfl) (by kernel_rfl) (fun _ _ _ h => h) rfl (fun w' _ => by go_simp) trivial ?_
      go_frame
      refine takeH 10 94 (.int .i64 (xs.length : Int)) rfl rfl (by kernel_rfl) (by kernel_rfl) (by kernel_rfl) (fun _ _ _ h => h) rfl (fun w' _ => by go_simp) trivial ?_
      go_frame
      refine takeH 11 95 (.int .i64 (K : Int)) rfl rfl (by kernel_rfl) (by kernel_rfl) (by kernel_rfl) (fun _ _ _ h => h) rfl (fun w' _ => by go_simp) trivial ?_
      go_frame
      refine takeH 12 96 (.int .i64 (M : Int)) rfl rfl (by kernel_rfl) (by kernel_rfl) (by kernel_rfl) (fun _ _ _ h => h) rfl (fun w' _ => by go_simp; exact HMIN.out) trivial ?_
      go_frame
      have hsl3 := HSL.out
      refine wpAnyH_all (rs := [7, 13]) (by kernel_rfl) (by simp) ?_
      simp only [List.mem_cons, List.not_mem_nil, or_false, forall_eq_or_imp, forall_eq]
      refine ⟨?_, ?_⟩
      · skip
        refine wpOp_callD 91 rfl rfl rfl 13 #[Value.slice At x.length ct, .int .i64 (K : Int)] (by go_simp) ?_
        refine (HF.out w8 K HB8.out (by omega) (by omega)).mono ?_
        rintro e w9 ⟨v9, rfl, hO9, hB9⟩
        rw [HTK.out] at hO9
        have HI9 := Lib.hid ((HI8.out.below hB9).take rfl hMr)
        have HS9 := Lib.hid hO9.fdIn; clear hO9
        have HB9 := Lib.hid (HB8.out.trans (hB9.mono HB8.out.size)); clear hB9
        refine ⟨_, rfl, trivial, ?_⟩
        go_frame
        refine wpAnyH_all (rs := [13]) (by kernel_rfl) (by simp) ?_
        simp only [List.mem_singleton, forall_eq]
        refine wpOp_valueD 97 rfl rfl rfl (.slice A6 M c6) (by go_simp) ⟨trivial, ?_⟩
        go_frame
        refine wpAnyH_all (rs := [14]) (by kernel_rfl) (by simp) ?_
        simp only [List.mem_singleton, forall_eq]
        refine wpOp_callD 98 rfl rfl rfl 12 #[v9, Value.slice A6 M c6] (by go_simp) ?_
        refine (sameFd_any v9 _ (xs.take M) w9 HS9.out HI9.out (by rw [List.length_take]; have := HX1.out; omega)).mono ?_
        rintro e w10 ⟨rfl, hB10⟩
        have HB10 := Lib.hid (HB9.out.trans (hB10.mono HB9.out.size)); clear hB10
        refine ⟨_, rfl, trivial, ?_⟩
        go_frame
        refine takeH 15 99 (.bool true) rfl rfl (by kernel_rfl) (by kernel_rfl) (by kernel_rfl) (fun _ _ _ h => h) rfl (fun w' _ => by go_simp) trivial ?_
        go_frame
        refine takeH 16 8 (.bool true) rfl rfl (by kernel_rfl) (by kernel_rfl) (by kernel_rfl) (fun _ _ _ h => h) rfl (fun w' _ => by go_simp) trivial ?_
        go_frame
        refine wpAnyH_done (by kernel_rfl) ?_ _
        refine NoPanic.normal ?_
        go_wp2_with fail
        go_ret
        exact ⟨rfl, HBR.out.trans (HB10.out.mono HBR.out.size)⟩
      · skip
        refine wpOp_valueD 97 rfl rfl rfl (.slice A6 M c6) (by go_simp) ⟨trivial, ?_⟩
        go_frame
        refine wpAnyH_all (rs := [7]) (by kernel_rfl) (by simp) ?_
        simp only [List.mem_singleton, forall_eq]
        refine wpOp_callD 91 rfl rfl rfl 13 #[Value.slice At x.length ct, .int .i64 (K : Int)] (by go_simp) ?_
        refine (HF.out w8 K HB8.out (by omega) (by omega)).mono ?_
        rintro e w9 ⟨v9, rfl, hO9, hB9⟩
        rw [HTK.out] at hO9
        have HI9 := Lib.hid ((HI8.out.below hB9).take rfl hMr)
        have HS9 := Lib.hid hO9.fdIn; clear hO9
        have HB9 := Lib.hid (HB8.out.trans (hB9.mono HB8.out.size)); clear hB9
        refine ⟨_, rfl, trivial, ?_⟩
        go_frame
        refine wpAnyH_all (rs := [14]) (by kernel_rfl) (by simp) ?_
        simp only [List.mem_singleton, forall_eq]
        refine wpOp_callD 98 rfl rfl rfl 12 #[v9, Value.slice A6 M c6] (by go_simp) ?_
        refine (sameFd_any v9 _ (xs.take M) w9 HS9.out HI9.out (by rw [List.length_take]; have := HX1.out; omega)).mono ?_
        rintro e w10 ⟨rfl, hB10⟩
        have HB10 := Lib.hid (HB9.out.trans (hB10.mono HB9.out.size)); clear hB10
        refine ⟨_, rfl, trivial, ?_⟩
        go_frame
        refine takeH 15 99 (.bool true) rfl rfl (by kernel_rfl) (by kernel_rfl) (by kernel_rfl) (fun _ _ _ h => h) rfl (fun w' _ => by go_simp) trivial ?_
        go_frame
        refine takeH 16 8 (.bool true) rfl rfl (by kernel_rfl) (by kernel_rfl) (by kernel_rfl) (fun _ _ _ h => h) rfl (fun w' _ => by go_simp) trivial ?_
        go_frame
        refine wpAnyH_done (by kernel_rfl) ?_ _
        refine NoPanic.normal ?_
        go_wp2_with fail
        go_ret
        exact ⟨rfl, HBR.out.trans (HB10.out.mono HBR.out.size)⟩

end Go.Proofs.YtpfbpiegejbhkaaDoor
set_option maxRecDepth 100000
namespace Go.Proofs.YtpfbpiegejbhkaaDoor
open Go.RowKit Go.Shelf
set_option maxHeartbeats 4000000 in
theorem boxHandles_zero (n : Int) (B1 B2 : Nat) (v1 v2 : Value) (l1 l2 : List UInt8) (u : Int) (w : World) (hn0 : 0 ≤ n) (hn1 : n < 4294967296) (hz : ¬ 0 < n) (h1 : Sl w B1 v1 l1) (h2 : Sl w B2 v2 l2) (hB1 : B1 ≤ w.heap.size) (hB2 : B2 ≤ w.heap.size) (hu0 : 0 ≤ u) (hu1 : u ≤ 255) :
    Calls Tryd.prog 3 #[.int .u32 n, v1, v2, .int .u8 u] w fun e w' => e = .returned (.bool true) ∧ Below w.heap.size w w' := by
  obtain ⟨K, hKu⟩ : ∃ K : Nat, (K : Int) = 1 + u % 4 := ⟨(1 + u % 4).toNat, by omega⟩
  have hK1 : 1 ≤ K := by omega
  have hK2 : K ≤ 4 := by omega
  have hum : 0 ≤ u % 4 ∧ u % 4 < 4 := by omega
  have HKU := Lib.hid hKu; clear hKu
  have HV1 := Lib.hid h1
  have HBA := Lib.hid hB1
  have HBB := Lib.hid hB2
  obtain ⟨A1, c1, rfl, _, _, _, _⟩ := h1
  obtain ⟨A2, c2, rfl, hA2, hc2, hd2, hs2⟩ := h2
  have HS2 := Lib.hid hs2; clear hs2
  have HAW := Lib.hid (awake5 w)
  obtain ⟨tl, hH, hR, hT, hL⟩ := hd_facts n hn0 hn1
  have HH := Lib.hid hH; clear hH
  have HR := Lib.hid hR; clear hR
  obtain ⟨T, hTT⟩ : ∃ T, T = tagN tl := ⟨_, rfl⟩
  rw [← hTT] at hT
  obtain ⟨b, hb⟩ : ∃ b, b = decide (0 < T) := ⟨_, rfl⟩
  have hb2 : b = false := by rw [hb]; exact decide_eq_false (by omega)
  have HB0 := Lib.hid hb; clear hb
  have HT := Lib.hid hT; clear hT
  have HTT := Lib.hid hTT; clear hTT
  have HL := Lib.hid hL; clear hL
  have hwr : IntKind.i64.wrap n = n := IntWalk.i64_in n (by omega)
  go_enter Tryd.func3, Tryd.ntmps3
  go_wp2_with fail
  refine HAW.out.mono ?_
  rintro e w1 ⟨rfl, hB1'⟩
  have HB1 := Lib.hid hB1'; clear hB1' HAW
  go_wp2_with fail
  refine (HH.out w1).mono ?_
  rintro e w2 ⟨vh, rfl, hO2, hB2'⟩
  have HB2 := Lib.hid (HB1.out.trans (hB2'.mono HB1.out.size)); clear hB2'
  have HO2 := Lib.hid hO2.sl
  have HNN := Lib.hid (number_all w2.heap.size vh _ w2 hO2.sl)
  rw [← HTT.out] at HNN
  clear hO2
  obtain ⟨Ah, ch, rfl, _, _, _, _⟩ := id HO2.out
  go_wp2_with fail
  refine HNN.out.mono ?_
  rintro e w3 ⟨rfl, q, hq⟩
  have HB3 := Lib.hid (show Below w2.heap.size w2 w3 from by rw [hq]; exact below_drewN (Below.refl _ _) q)
  clear hq HNN
  have HO3 := Lib.hid (HO2.out.below HB3.out (Nat.le_refl _))
  have HLOW3 := Lib.hid (HB2.out.trans (HB3.out.mono HB2.out.size))
  rw [HT.out, ← HB0.out, hb2]
  clear hb2
  go_wp2_with fail
  refine (HR.out w3).mono ?_
  rintro e w4 ⟨vr, rfl, hO4, hB4⟩
  have HSM := Lib.hid (same_true _ _ _ vr tl w4 (HO3.out.below hB4 HB3.out.size) hO4.sl)
  have HLOW4 := Lib.hid (HLOW3.out.trans (hB4.mono HLOW3.out.size))
  clear hO4 hB4
  go_wp2_with fail
  refine HSM.out.mono ?_
  rintro e w5 ⟨rfl, rfl⟩
  go_wp2_with fail
  refine (cut_any B1 _ l1 80 w4 (HV1.out.below HLOW4.out HBA.out) (Nat.le_trans HBA.out HLOW4.out.size) (by omega) (by omega)).mono ?_
  rintro e w5 ⟨v0, rfl, hO5, hB5⟩
  obtain ⟨x0, hx0⟩ : ∃ x0, x0 = l1.take (80 : Int).toNat := ⟨_, rfl⟩
  rw [← hx0] at hO5
  have hx0l : x0.length ≤ 80 := by rw [hx0, List.length_take]; omega
  have HX0 := Lib.hid hx0l
  have HLOW5 := Lib.hid (HLOW4.out.trans (hB5.mono HLOW4.out.size))
  have HO5 := Lib.hid (hO5.lower HLOW4.out.size)
  obtain ⟨A0, c0, rfl, _, _, _, _⟩ := id hO5.sl
  clear hO5 hB5 hx0 hx0l
  go_wp2_with fail
  go_loopw [1, 52] (fun t i wr => ∃ (k : Nat) (x : List UInt8), k ≤ l2.length ∧ i = .int .i64 (k : Int) ∧ (∃ At ct, t = .slice At x.length ct) ∧ OwnB wr w.heap.size t x ∧ x.length ≤ 80 + 32 * min k 3 ∧ Below w.heap.size w wr) (fun _ i _ => l2.length - (intOf i).toNat)
  case atStart => exact ⟨0, x0, by omega, rfl, ⟨_, _, rfl⟩, HO5.out, by have := HX0.out; omega, HLOW5.out⟩
  case round =>
    obtain ⟨k, x, hk, rfl, ⟨At, ct, rfl⟩, hO, hxl, hbr⟩ := hrel
    have HO := Lib.hid hO; clear hO
    have HXL := Lib.hid (show x.length ≤ 200 by omega)
    have HXK := Lib.hid hxl; clear hxl
    have HBR := Lib.hid hbr; clear hbr
    by_cases hlt : k < l2.length
    · obtain ⟨gb, go, rfl, hgb, hbs⟩ := HS2.out (by omega)
      obtain ⟨a0, ha0⟩ : ∃ a0, a0 = l2[k] := ⟨_, rfl⟩
      have hcell : wr.cell? ⟨gb, go + k, none⟩ = some (vb a0) := by rw [ha0]; exact (hbs.below HBR.out (Nat.lt_of_lt_of_le hgb HBB.out)) k hlt
      obtain ⟨y, hy⟩ : ∃ y : Nat, (y : Int) = bn a0 := ⟨(bn a0).toNat, by have := bn_range a0; omega⟩
      have hy2 : y < 256 := by have := bn_range a0; omega
      rw [show vb a0 = .int .u8 (y : Int) from by show Value.int .u8 (bn a0) = _; rw [← hy]] at hcell
      clear ha0 hbs hgb hA2 hy
      have k0 : (0 : Int) ≤ (k : Int) := by omega
      have k1 : (k : Int) < (l2.length : Int) := by omega
      by_cases hk3 : k < 3
      · have k3 : (k : Int) < 3 := by omega
        obtain ⟨tl2, hH2, hR2, _, hL2⟩ := hd_facts ((y : Int) + 1) (by omega) (by omega)
        have HHR := Lib.hid hR2; have HHL := Lib.hid hL2
        clear hH2 hR2 hL2
        have hwy : IntKind.i64.wrap (y : Int) = (y : Int) := IntWalk.i64_in (y : Int) (by omega)
        have hwy1 : IntKind.i64.wrap ((y : Int) + 1) = (y : Int) + 1 := IntWalk.i64_in ((y : Int) + 1) (by omega)
        go_wp2_with fail
        obtain ⟨p, hp, hpl⟩ : ∃ p : Nat, min (y : Int) (x.length : Int) = (p : Int) ∧ p ≤ x.length := ⟨min y x.length, by omega, by omega⟩
        rw [hp]
        clear hp
        have hSX := HO.out.sl
        obtain ⟨At', ct', he, hpc, hct, _, hs13⟩ := hSX.take p hpl
        injection he with he1 _ he2
        subst he1; subst he2
        have h66 := fun W => slice_h At x.length ct p hpc W
        obtain ⟨V2, h75, hsl75⟩ := slice_from At x.length ct p (p : Int) rfl hpl hct
        have HX1 := Lib.hid (show ∀ W, Below wr.heap.size wr W → Sl W wr.heap.size (.slice At p ct) (x.take p) from fun W hW => hs13.below hW (Nat.le_refl _))
        have HX2 := Lib.hid (show ∀ W, Below wr.heap.size wr W → Sl W wr.heap.size V2 (x.drop p) from fun W hW => hsl75 W _ x (hSX.below hW (Nat.le_refl _)) rfl)
        clear hs13 hsl75 hSX hct hpc hpl
        refine wp_region_noPanic ?_
        refine wp_region_held (S := fun _ => True) (by kernel_rfl) ?_
        change wpAnyH _ _ _ _ _ _ _ _ wr.drew
        refine takeH 0 64 (Value.slice At x.length ct) rfl rfl (by kernel_rfl) (by kernel_rfl) (by kernel_rfl) (fun _ _ _ h => h) rfl (fun w' _ => by go_simp) trivial ?_
        go_frame
        refine takeH 1 65 (.int .i64 (p : Int)) rfl rfl (by kernel_rfl) (by kernel_rfl) (by kernel_rfl) (fun _ _ _ h => h) rfl (fun w' _ => by go_simp) trivial ?_
        go_frame
        refine takeH 4 68 (.int .u8 (y : Int)) rfl rfl (by kernel_rfl) (by kernel_rfl) (by kernel_rfl) (fun _ _ _ h => h) rfl (fun w' _ => by go_simp) trivial ?_
        go_frame
        refine takeH 5 69 (.int .i64 (y : Int)) rfl rfl (by kernel_rfl) (by kernel_rfl) (by kernel_rfl) (fun _ _ _ h => h) rfl (fun w' _ => by go_simp) trivial ?_
        go_frame
        refine takeH 6 70 (.int .i64 ((y : Int) + 1)) rfl rfl (by kernel_rfl) (by kernel_rfl) (by kernel_rfl) (fun _ _ _ h => h) rfl (fun w' _ => by go_simp) trivial ?_
        go_frame
        refine takeH 9 73 (Value.slice At x.length ct) rfl rfl (by kernel_rfl) (by kernel_rfl) (by kernel_rfl) (fun _ _ _ h => h) rfl (fun w' _ => by go_simp) trivial ?_
        go_frame
        refine takeH 10 74 (.int .i64 (p : Int)) rfl rfl (by kernel_rfl) (by kernel_rfl) (by kernel_rfl) (fun _ _ _ h => h) rfl (fun w' _ => by go_simp) trivial ?_
        go_frame
        refine wpAnyH_all (rs := [2, 11]) (by kernel_rfl) (by simp) ?_
        simp only [List.mem_cons, List.not_mem_nil, or_false, forall_eq_or_imp, forall_eq]
        refine ⟨?_, ?_⟩
        · skip
          refine wpOp_valueD 66 rfl rfl rfl (.slice At p ct) (by go_simp) ⟨trivial, ?_⟩
          go_frame
          refine wpAnyH_all (rs := [3, 11]) (by kernel_rfl) (by simp) ?_
          simp only [List.mem_cons, List.not_mem_nil, or_false, forall_eq_or_imp, forall_eq]
          refine ⟨?_, ?_⟩
          · skip
            refine wpOp_callD 67 rfl rfl rfl 10 #[.slice At p ct] (by go_simp) ?_
            refine (copy_any wr.heap.size _ _ wr.drew (HX1.out _ (Below.refl _ _).drew) (Nat.le_refl _) (by rw [List.length_take]; have := HXL.out; omega)).mono ?_
            rintro e W1 ⟨v1, rfl, ho1, hb1⟩
            have HW1 := Lib.hid (show Below wr.heap.size wr W1 from (Below.refl _ _).drew.trans hb1)
            have Hv1 := Lib.hid (show OwnB W1 wr.heap.size v1 _ from ho1); clear ho1 hb1
            refine ⟨_, rfl, trivial, ?_⟩
            go_frame
            refine wpAnyH_all (rs := [7, 11]) (by kernel_rfl) (by simp) ?_
            simp only [List.mem_cons, List.not_mem_nil, or_false, forall_eq_or_imp, forall_eq]
            refine ⟨?_, ?_⟩
            · skip
              refine wpOp_callD 71 rfl rfl rfl 8 #[.int .i64 ((y : Int) + 1)] (by go_simp) ?_
              refine (HHR.out W1).mono ?_
              rintro e W2 ⟨v2, rfl, ho2, hb2⟩
              have HW2 := Lib.hid (HW1.out.trans (hb2.mono HW1.out.size))
              have Hv12 := Lib.hid (Hv1.out.below hb2)
              have Hv2 := Lib.hid ho2.sl; clear ho2 hb2
              refine ⟨_, rfl, trivial, ?_⟩
              go_frame
              refine wpAnyH_all (rs := [8, 11]) (by kernel_rfl) (by simp) ?_
              simp only [List.mem_cons, List.not_mem_nil, or_false, forall_eq_or_imp, forall_eq]
              refine ⟨?_, ?_⟩
              · skip
                refine wpOp_appSl 72 rfl rfl rfl (.tmp 67) (.tmp 71) rfl wr.heap.size v1 _ _ rfl Hv12.out W2.heap.size v2 rfl Hv2.out (by have := HXL.out; have := HHL.out; rw [List.length_take]; omega) HW2.out.size ?_
                intro v3 W3 hv3 hg3
                have HW3 := Lib.hid (HW2.out.trans (Hv12.out.belowBase hg3 HW2.out.size))
                have Hv3 := Lib.hid hv3; clear hv3 hg3
                refine ⟨trivial, ?_⟩
                go_frame
                refine wpAnyH_all (rs := [11]) (by kernel_rfl) (by simp) ?_
                simp only [List.mem_singleton, forall_eq]
                refine wpOp_valueD 75 rfl rfl rfl V2 (by go_simp) ⟨trivial, ?_⟩
                go_frame
                refine wpAnyH_all (rs := [12]) (by kernel_rfl) (by simp) ?_
                simp only [List.mem_singleton, forall_eq]
                refine wpOp_appSl 76 rfl rfl rfl (.tmp 72) (.tmp 75) rfl wr.heap.size v3 _ _ rfl Hv3.out wr.heap.size V2 rfl (HX2.out _ HW3.out) (by have := HXL.out; have := HHL.out; rw [List.length_append, List.length_take, List.length_drop]; omega) HW3.out.size ?_
                intro v4 W4 hv4 hg4
                have HW4 := Lib.hid (HW3.out.trans (Hv3.out.belowBase hg4 HW3.out.size))
                have Hv4 := Lib.hid hv4; clear hv4 hg4
                refine ⟨trivial, ?_⟩
                obtain ⟨Z, hZ⟩ : ∃ Z, Z = x.take p ++ tl2 ++ x.drop p := ⟨_, rfl⟩
                have HZ := Lib.hid (show Z.length ≤ x.length + 32 by rw [hZ]; have := HHL.out; simp only [List.length_append, List.length_take, List.length_drop]; omega)
                rw [← hZ] at Hv4
                clear hZ
                go_frame
                obtain ⟨Aw, cw, rfl, _, _, _, _⟩ := id Hv4.out.sl
                refine takeH 13 1 (.slice Aw Z.length cw) rfl rfl (by kernel_rfl) (by kernel_rfl) (by kernel_rfl) (fun _ _ _ h => h) rfl (fun w' _ => by go_simp) trivial ?_
                go_frame
                refine wpAnyH_done (by kernel_rfl) ?_ _
                refine NoPanic.normal ?_
                go_wp2_with fail
                go_roundw
                case rel => exact ⟨k + 1, _, by omega, by go_num, ⟨Aw, cw, rfl⟩, Hv4.out.lower HBR.out.size, by have := HZ.out; have := HXK.out; omega, HBR.out.trans (HW4.out.mono HBR.out.size)⟩
                case measure => simp [intOf]; omega
              · skip
                refine wpOp_valueD 75 rfl rfl rfl V2 (by go_simp) ⟨trivial, ?_⟩
                go_frame
                refine wpAnyH_all (rs := [8]) (by kernel_rfl) (by simp) ?_
                simp only [List.mem_singleton, forall_eq]
                refine wpOp_appSl 72 rfl rfl rfl (.tmp 67) (.tmp 71) rfl wr.heap.size v1 _ _ rfl Hv12.out W2.heap.size v2 rfl Hv2.out (by have := HXL.out; have := HHL.out; rw [List.length_take]; omega) HW2.out.size ?_
                intro v3 W3 hv3 hg3
                have HW3 := Lib.hid (HW2.out.trans (Hv12.out.belowBase hg3 HW2.out.size))
                have Hv3 := Lib.hid hv3; clear hv3 hg3
                refine ⟨trivial, ?_⟩
                go_frame
                refine wpAnyH_all (rs := [12]) (by kernel_rfl) (by simp) ?_
                simp only [List.mem_singleton, forall_eq]
                refine wpOp_appSl 76 rfl rfl rfl (.tmp 72) (.tmp 75) rfl wr.heap.size v3 _ _ rfl Hv3.out wr.heap.size V2 rfl (HX2.out _ HW3.out) (by have := HXL.out; have := HHL.out; rw [List.length_append, List.length_take, List.length_drop]; omega) HW3.out.size ?_
                intro v4 W4 hv4 hg4
                have HW4 := Lib.hid (HW3.out.trans (Hv3.out.belowBase hg4 HW3.out.size))
                have Hv4 := Lib.hid hv4; clear hv4 hg4
                refine ⟨trivial, ?_⟩
                obtain ⟨Z, hZ⟩ : ∃ Z, Z = x.take p ++ tl2 ++ x.drop p := ⟨_, rfl⟩
                have HZ := Lib.hid (show Z.length ≤ x.length + 32 by rw [hZ]; have := HHL.out; simp only [List.length_append, List.length_take, List.length_drop]; omega)
                rw [← hZ] at Hv4
                clear hZ
                go_frame
                obtain ⟨Aw, cw, rfl, _, _, _, _⟩ := id Hv4.out.sl
                refine takeH 13 1 (.slice Aw Z.length cw) rfl rfl (by kernel_rfl) (by kernel_rfl) (by kernel_rfl) (fun _ _ _ h => h) rfl (fun w' _ => by go_simp) trivial ?_
                go_frame
                refine wpAnyH_done (by kernel_rfl) ?_ _
                refine NoPanic.normal ?_
                go_wp2_with fail
                go_roundw
                case rel => exact ⟨k + 1, _, by omega, by go_num, ⟨Aw, cw, rfl⟩, Hv4.out.lower HBR.out.size, by have := HZ.out; have := HXK.out; omega, HBR.out.trans (HW4.out.mono HBR.out.size)⟩
                case measure => simp [intOf]; omega
            · skip
              refine wpOp_valueD 75 rfl rfl rfl V2 (by go_simp) ⟨trivial, ?_⟩
              go_frame
              refine wpAnyH_all (rs := [7]) (by kernel_rfl) (by simp) ?_
              simp only [List.mem_singleton, forall_eq]
              refine wpOp_callD 71 rfl rfl rfl 8 #[.int .i64 ((y : Int) + 1)] (by go_simp) ?_
              refine (HHR.out W1).mono ?_
              rintro e W2 ⟨v2, rfl, ho2, hb2⟩
              have HW2 := Lib.hid (HW1.out.trans (hb2.mono HW1.out.size))
              have Hv12 := Lib.hid (Hv1.out.below hb2)
              have Hv2 := Lib.hid ho2.sl; clear ho2 hb2
              refine ⟨_, rfl, trivial, ?_⟩
              go_frame
              refine wpAnyH_all (rs := [8]) (by kernel_rfl) (by simp) ?_
              simp only [List.mem_singleton, forall_eq]
              refine wpOp_appSl 72 rfl rfl rfl (.tmp 67) (.tmp 71) rfl wr.heap.size v1 _ _ rfl Hv12.out W2.heap.size v2 rfl Hv2.out (by have := HXL.out; have := HHL.out; rw [List.length_take]; omega) HW2.out.size ?_
              intro v3 W3 hv3 hg3
              have HW3 := Lib.hid (HW2.out.trans (Hv12.out.belowBase hg3 HW2.out.size))
              have Hv3 := Lib.hid hv3; clear hv3 hg3
              refine ⟨trivial, ?_⟩
              go_frame
              refine wpAnyH_all (rs := [12]) (by kernel_rfl) (by simp) ?_
              simp only [List.mem_singleton, forall_eq]
              refine wpOp_appSl 76 rfl rfl rfl (.tmp 72) (.tmp 75) rfl wr.heap.size v3 _ _ rfl Hv3.out wr.heap.size V2 rfl (HX2.out _ HW3.out) (by have := HXL.out; have := HHL.out; rw [List.length_append, List.length_take, List.length_drop]; omega) HW3.out.size ?_
              intro v4 W4 hv4 hg4
              have HW4 := Lib.hid (HW3.out.trans (Hv3.out.belowBase hg4 HW3.out.size))
              have Hv4 := Lib.hid hv4; clear hv4 hg4
              refine ⟨trivial, ?_⟩
              obtain ⟨Z, hZ⟩ : ∃ Z, Z = x.take p ++ tl2 ++ x.drop p := ⟨_, rfl⟩
              have HZ := Lib.hid (show Z.length ≤ x.length + 32 by rw [hZ]; have := HHL.out; simp only [List.length_append, List.length_take, List.length_drop]; omega)
              rw [← hZ] at Hv4
              clear hZ
              go_frame
              obtain ⟨Aw, cw, rfl, _, _, _, _⟩ := id Hv4.out.sl
              refine takeH 13 1 (.slice Aw Z.length cw) rfl rfl (by kernel_rfl) (by kernel_rfl) (by kernel_rfl) (fun _ _ _ h => h) rfl (fun w' _ => by go_simp) trivial ?_
              go_frame
              refine wpAnyH_done (by kernel_rfl) ?_ _
              refine NoPanic.normal ?_
              go_wp2_with fail
              go_roundw
              case rel => exact ⟨k + 1, _, by omega, by go_num, ⟨Aw, cw, rfl⟩, Hv4.out.lower HBR.out.size, by have := HZ.out; have := HXK.out; omega, HBR.out.trans (HW4.out.mono HBR.out.size)⟩
              case measure => simp [intOf]; omega
          · skip
            refine wpOp_valueD 75 rfl rfl rfl V2 (by go_simp) ⟨trivial, ?_⟩
            go_frame
            refine wpAnyH_all (rs := [3]) (by kernel_rfl) (by simp) ?_
            simp only [List.mem_singleton, forall_eq]
            refine wpOp_callD 67 rfl rfl rfl 10 #[.slice At p ct] (by go_simp) ?_
            refine (copy_any wr.heap.size _ _ wr.drew (HX1.out _ (Below.refl _ _).drew) (Nat.le_refl _) (by rw [List.length_take]; have := HXL.out; omega)).mono ?_
            rintro e W1 ⟨v1, rfl, ho1, hb1⟩
            have HW1 := Lib.hid (show Below wr.heap.size wr W1 from (Below.refl _ _).drew.trans hb1)
            have Hv1 := Lib.hid (show OwnB W1 wr.heap.size v1 _ from ho1); clear ho1 hb1
            refine ⟨_, rfl, trivial, ?_⟩
            go_frame
            refine wpAnyH_all (rs := [7]) (by kernel_rfl) (by simp) ?_
            simp only [List.mem_singleton, forall_eq]
            refine wpOp_callD 71 rfl rfl rfl 8 #[.int .i64 ((y : Int) + 1)] (by go_simp) ?_
            refine (HHR.out W1).mono ?_
            rintro e W2 ⟨v2, rfl, ho2, hb2⟩
            have HW2 := Lib.hid (HW1.out.trans (hb2.mono HW1.out.size))
            have Hv12 := Lib.hid (Hv1.out.below hb2)
            have Hv2 := Lib.hid ho2.sl; clear ho2 hb2
            refine ⟨_, rfl, trivial, ?_⟩
            go_frame
            refine wpAnyH_all (rs := [8]) (by kernel_rfl) (by simp) ?_
            simp only [List.mem_singleton, forall_eq]
            refine wpOp_appSl 72 rfl rfl rfl (.tmp 67) (.tmp 71) rfl wr.heap.size v1 _ _ rfl Hv12.out W2.heap.size v2 rfl Hv2.out (by have := HXL.out; have := HHL.out; rw [List.length_take]; omega) HW2.out.size ?_
            intro v3 W3 hv3 hg3
            have HW3 := Lib.hid (HW2.out.trans (Hv12.out.belowBase hg3 HW2.out.size))
            have Hv3 := Lib.hid hv3; clear hv3 hg3
            refine ⟨trivial, ?_⟩
            go_frame
            refine wpAnyH_all (rs := [12]) (by kernel_rfl) (by simp) ?_
            simp only [List.mem_singleton, forall_eq]
            refine wpOp_appSl 76 rfl rfl rfl (.tmp 72) (.tmp 75) rfl wr.heap.size v3 _ _ rfl Hv3.out wr.heap.size V2 rfl (HX2.out _ HW3.out) (by have := HXL.out; have := HHL.out; rw [List.length_append, List.length_take, List.length_drop]; omega) HW3.out.size ?_
            intro v4 W4 hv4 hg4
            have HW4 := Lib.hid (HW3.out.trans (Hv3.out.belowBase hg4 HW3.out.size))
            have Hv4 := Lib.hid hv4; clear hv4 hg4
            refine ⟨trivial, ?_⟩
            obtain ⟨Z, hZ⟩ : ∃ Z, Z = x.take p ++ tl2 ++ x.drop p := ⟨_, rfl⟩
            have HZ := Lib.hid (show Z.length ≤ x.length + 32 by rw [hZ]; have := HHL.out; simp only [List.length_append, List.length_take, List.length_drop]; omega)
            rw [← hZ] at Hv4
            clear hZ
            go_frame
            obtain ⟨Aw, cw, rfl, _, _, _, _⟩ := id Hv4.out.sl
            refine takeH 13 1 (.slice Aw Z.length cw) rfl rfl (by kernel_rfl) (by kernel_rfl) (by kernel_rfl) (fun _ _ _ h => h) rfl (fun w' _ => by go_simp) trivial ?_
            go_frame
            refine wpAnyH_done (by kernel_rfl) ?_ _
            refine NoPanic.normal ?_
            go_wp2_with fail
            go_roundw
            case rel => exact ⟨k + 1, _, by omega, by go_num, ⟨Aw, cw, rfl⟩, Hv4.out.lower HBR.out.size, by have := HZ.out; have := HXK.out; omega, HBR.out.trans (HW4.out.mono HBR.out.size)⟩
            case measure => simp [intOf]; omega
        · skip
          refine wpOp_valueD 75 rfl rfl rfl V2 (by go_simp) ⟨trivial, ?_⟩
          go_frame
          refine wpAnyH_all (rs := [2]) (by kernel_rfl) (by simp) ?_
          simp only [List.mem_singleton, forall_eq]
          refine wpOp_valueD 66 rfl rfl rfl (.slice At p ct) (by go_simp) ⟨trivial, ?_⟩
          go_frame
          refine wpAnyH_all (rs := [3]) (by kernel_rfl) (by simp) ?_
          simp only [List.mem_singleton, forall_eq]
          refine wpOp_callD 67 rfl rfl rfl 10 #[.slice At p ct] (by go_simp) ?_
          refine (copy_any wr.heap.size _ _ wr.drew (HX1.out _ (Below.refl _ _).drew) (Nat.le_refl _) (by rw [List.length_take]; have := HXL.out; omega)).mono ?_
          rintro e W1 ⟨v1, rfl, ho1, hb1⟩
          have HW1 := Lib.hid (show Below wr.heap.size wr W1 from (Below.refl _ _).drew.trans hb1)
          have Hv1 := Lib.hid (show OwnB W1 wr.heap.size v1 _ from ho1); clear ho1 hb1
          refine ⟨_, rfl, trivial, ?_⟩
          go_frame
          refine wpAnyH_all (rs := [7]) (by kernel_rfl) (by simp) ?_
          simp only [List.mem_singleton, forall_eq]
          refine wpOp_callD 71 rfl rfl rfl 8 #[.int .i64 ((y : Int) + 1)] (by go_simp) ?_
          refine (HHR.out W1).mono ?_
          rintro e W2 ⟨v2, rfl, ho2, hb2⟩
          have HW2 := Lib.hid (HW1.out.trans (hb2.mono HW1.out.size))
          have Hv12 := Lib.hid (Hv1.out.below hb2)
          have Hv2 := Lib.hid ho2.sl; clear ho2 hb2
          refine ⟨_, rfl, trivial, ?_⟩
          go_frame
          refine wpAnyH_all (rs := [8]) (by kernel_rfl) (by simp) ?_
          simp only [List.mem_singleton, forall_eq]
          refine wpOp_appSl 72 rfl rfl rfl (.tmp 67) (.tmp 71) rfl wr.heap.size v1 _ _ rfl Hv12.out W2.heap.size v2 rfl Hv2.out (by have := HXL.out; have := HHL.out; rw [List.length_take]; omega) HW2.out.size ?_
          intro v3 W3 hv3 hg3
          have HW3 := Lib.hid (HW2.out.trans (Hv12.out.belowBase hg3 HW2.out.size))
          have Hv3 := Lib.hid hv3; clear hv3 hg3
          refine ⟨trivial, ?_⟩
          go_frame
          refine wpAnyH_all (rs := [12]) (by kernel_rfl) (by simp) ?_
          simp only [List.mem_singleton, forall_eq]
          refine wpOp_appSl 76 rfl rfl rfl (.tmp 72) (.tmp 75) rfl wr.heap.size v3 _ _ rfl Hv3.out wr.heap.size V2 rfl (HX2.out _ HW3.out) (by have := HXL.out; have := HHL.out; rw [List.length_append, List.length_take, List.length_drop]; omega) HW3.out.size ?_
          intro v4 W4 hv4 hg4
          have HW4 := Lib.hid (HW3.out.trans (Hv3.out.belowBase hg4 HW3.out.size))
          have Hv4 := Lib.hid hv4; clear hv4 hg4
          refine ⟨trivial, ?_⟩
          obtain ⟨Z, hZ⟩ : ∃ Z, Z = x.take p ++ tl2 ++ x.drop p := ⟨_, rfl⟩
          have HZ := Lib.hid (show Z.length ≤ x.length + 32 by rw [hZ]; have := HHL.out; simp only [List.length_append, List.length_take, List.length_drop]; omega)
          rw [← hZ] at Hv4
          clear hZ
          go_frame
          obtain ⟨Aw, cw, rfl, _, _, _, _⟩ := id Hv4.out.sl
          refine takeH 13 1 (.slice Aw Z.length cw) rfl rfl (by kernel_rfl) (by kernel_rfl) (by kernel_rfl) (fun _ _ _ h => h) rfl (fun w' _ => by go_simp) trivial ?_
          go_frame
          refine wpAnyH_done (by kernel_rfl) ?_ _
          refine NoPanic.normal ?_
          go_wp2_with fail
          go_roundw
          case rel => exact ⟨k + 1, _, by omega, by go_num, ⟨Aw, cw, rfl⟩, Hv4.out.lower HBR.out.size, by have := HZ.out; have := HXK.out; omega, HBR.out.trans (HW4.out.mono HBR.out.size)⟩
          case measure => simp [intOf]; omega
      · have k3 : ¬ (k : Int) < 3 := by omega
        go_wp2_with fail
        go_roundw
        case rel => exact ⟨k + 1, x, by omega, by go_num, ⟨At, ct, rfl⟩, HO.out, by have := HXK.out; omega, HBR.out⟩
        case measure => simp [intOf]; omega
    · obtain rfl : k = l2.length := by omega
      have hSX := HO.out.sl
      have HRF := Lib.hid (refFinds_any wr.heap.size _ x wr hSX (Nat.le_refl _) (by have := HXL.out; omega))
      have HF := Lib.hid (show ∀ W m, Below wr.heap.size wr W → 1 ≤ m → m ≤ 1000 → _ from fun W m hW h1 h2 => finds_any wr.heap.size _ x m W (hSX.below hW (Nat.le_refl _)) hW.size (by have := HXL.out; omega) h1 h2)
      have hrl := fins_len x
      obtain ⟨xs, hxs⟩ : ∃ xs, xs = fins x 0 := ⟨_, rfl⟩
      rw [← hxs] at HRF HF hrl
      have HX1 := Lib.hid (show xs.length ≤ 200 by have := HXL.out; omega)
      clear hSX hrl hxs hlt
      go_wp2_with fail
      refine HRF.out.mono ?_
      rintro e w6 ⟨v6, rfl, hO6, hB6⟩
      have HO6 := Lib.hid (show OwnFd w6 wr.heap.size v6 xs from hO6); clear hO6
      obtain ⟨A6, c6, rfl, hc6⟩ := HO6.out.cap
      have HI6 := Lib.hid HO6.out.fdIn
      have HB6 := Lib.hid hB6; clear hB6 HRF
      have hku := HKU.out
      go_wp2_with fail
      rw [← hku]
      clear hku
      obtain ⟨M, hM, hMr⟩ : ∃ M : Nat, M = min xs.length K ∧ (M ≤ xs.length) := ⟨_, rfl, by omega⟩
      have hmin : min (xs.length : Int) (K : Int) = (M : Int) := by omega
      have htk : xs.take K = xs.take M := by rw [hM, Nat.min_comm, ← List.take_take, List.take_length]
      have HTK := Lib.hid htk
      have hsl2 := fun W => slice_hF A6 xs.length c6 M (by omega) W
      have HSL := Lib.hid hsl2
      have HMIN := Lib.hid hmin
      have HT1 := Lib.hid (show xs.take 1000 = xs from List.take_of_length_le (by have := HX1.out; omega))
      clear hM htk hmin hsl2
      refine wp_region_noPanic ?_
      refine wp_region_held (S := fun _ => True) (by kernel_rfl) ?_
      change wpAnyH _ _ _ _ _ _ _ _ w6.drew
      have HBd := Lib.hid HB6.out.drew
      have HId := Lib.hid (HI6.out.below (Below.refl _ _).drew)
      clear HI6
      refine takeH 0 84 (Value.slice At x.length ct) rfl rfl (by kernel_rfl) (by kernel_rfl) (by kernel_rfl) (fun _ _ _ h => h) rfl (fun w' _ => by go_simp) trivial ?_
      go_frame
      refine takeH 2 86 (Value.slice A6 xs.length c6) rfl rfl (by kernel_rfl) (by kernel_rfl) (by kernel_rfl) (fun _ _ _ h => h) rfl (fun w' _ => by go_simp) trivial ?_
      go_frame
      refine wpAnyH_all (rs := [1]) (by kernel_rfl) (by simp) ?_
      simp only [List.mem_singleton, forall_eq]
      refine wpOp_callD 85 rfl rfl rfl 13 #[Value.slice At x.length ct, .int .i64 1000] (by go_simp) ?_
      refine (HF.out w6.drew 1000 HBd.out (by omega) (by omega)).mono ?_
      rintro e w7 ⟨v7, rfl, hO7, hB7⟩
      rw [HT1.out] at hO7
      have HI7 := Lib.hid (HId.out.below hB7)
      have HS7 := Lib.hid hO7.fdIn; clear hO7
      have HB7 := Lib.hid (HBd.out.trans (hB7.mono HBd.out.size)); clear hB7
      refine ⟨_, rfl, trivial, ?_⟩
      go_frame
      refine wpAnyH_all (rs := [3]) (by kernel_rfl) (by simp) ?_
      simp only [List.mem_singleton, forall_eq]
      refine wpOp_callD 87 rfl rfl rfl 12 #[v7, Value.slice A6 xs.length c6] (by go_simp) ?_
      refine (sameFd_any v7 _ xs w7 HS7.out HI7.out (by have := HX1.out; omega)).mono ?_
      rintro e w8 ⟨rfl, hB8⟩
      have HI8 := Lib.hid (HI7.out.below hB8)
      have HB8 := Lib.hid (HB7.out.trans (hB8.mono HB7.out.size)); clear hB8
      refine ⟨_, rfl, trivial, ?_⟩
      go_frame
      refine takeH 4 88 (.bool true) rfl rfl (by kernel_rfl) (by kernel_rfl) (by kernel_rfl) (fun _ _ _ h => h) rfl (fun w' _ => by go_simp) trivial ?_
      go_frame
      refine takeH 5 89 (Value.slice At x.length ct) rfl rfl (by kernel_rfl) (by kernel_rfl) (by kernel_rfl) (fun _ _ _ h => h) rfl (fun w' _ => by go_simp) trivial ?_
      go_frame
      refine takeH 6 90 (.int .i64 (K : Int)) rfl rfl (by kernel_rfl) (by kernel_rfl) (by kernel_rfl) (fun _ _ _ h => h) rfl (fun w' _ => by go_simp) trivial ?_
      go_frame
      refine takeH 8 92 (Value.slice A6 xs.length c6) rfl rfl (by kernel_rfl) (by kernel_rfl) (by kernel_rfl) (fun _ _ _ h => h) rfl (fun w' _ => by go_simp) trivial ?_
      go_frame
      refine takeH 9 93 (Value.slice A6 xs.length c6) rfl rfl (by kernel_rfl) (by kernel_rfl) (by kernel_rfl) (fun _ _ _ h => h) rfl (fun w' _ => by go_simp) trivial ?_
      go_frame
      refine takeH 10 94 (.int .i64 (xs.length : Int)) rfl rfl (by kernel_rfl) (by kernel_rfl) (by kernel_rfl) (fun _ _ _ h => h) rfl (fun w' _ => by go_simp) trivial ?_
      go_frame
      refine takeH 11 95 (.int .i64 (K : Int)) rfl rfl (by kernel_rfl) (by kernel_rfl) (by kernel_rfl) (fun _ _ _ h => h) rfl (fun w' _ => by go_simp) trivial ?_
      go_frame
      refine takeH 12 96 (.int .i64 (M : Int)) rfl rfl (by kernel_rfl) (by kernel_rfl) (by kernel_rfl) (fun _ _ _ h => h) rfl (fun w' _ => by go_simp; exact HMIN.out) trivial ?_
      go_frame
      have hsl3 := HSL.out
      refine wpAnyH_all (rs := [7, 13]) (by kernel_rfl) (by simp) ?_
      simp only [List.mem_cons, List.not_mem_nil, or_false, forall_eq_or_imp, forall_eq]
      refine ⟨?_, ?_⟩
      · skip
        refine wpOp_callD 91 rfl rfl rfl 13 #[Value.slice At x.length ct, .int .i64 (K : Int)] (by go_simp) ?_
        refine (HF.out w8 K HB8.out (by omega) (by omega)).mono ?_
        rintro e w9 ⟨v9, rfl, hO9, hB9⟩
        rw [HTK.out] at hO9
        have HI9 := Lib.hid ((HI8.out.below hB9).take rfl hMr)
        have HS9 := Lib.hid hO9.fdIn; clear hO9
        have HB9 := Lib.hid (HB8.out.trans (hB9.mono HB8.out.size)); clear hB9
        refine ⟨_, rfl, trivial, ?_⟩
        go_frame
        refine wpAnyH_all (rs := [13]) (by kernel_rfl) (by simp) ?_
        simp only [List.mem_singleton, forall_eq]
        refine wpOp_valueD 97 rfl rfl rfl (.slice A6 M c6) (by go_simp) ⟨trivial, ?_⟩
        go_frame
        refine wpAnyH_all (rs := [14]) (by kernel_rfl) (by simp) ?_
        simp only [List.mem_singleton, forall_eq]
        refine wpOp_callD 98 rfl rfl rfl 12 #[v9, Value.slice A6 M c6] (by go_simp) ?_
        refine (sameFd_any v9 _ (xs.take M) w9 HS9.out HI9.out (by rw [List.length_take]; have := HX1.out; omega)).mono ?_
        rintro e w10 ⟨rfl, hB10⟩
        have HB10 := Lib.hid (HB9.out.trans (hB10.mono HB9.out.size)); clear hB10
        refine ⟨_, rfl, trivial, ?_⟩
        go_frame
        refine takeH 15 99 (.bool true) rfl rfl (by kernel_rfl) (by kernel_rfl) (by kernel_rfl) (fun _ _ _ h => h) rfl (fun w' _ => by go_simp) trivial ?_
        go_frame
        refine takeH 16 8 (.bool true) rfl rfl (by kernel_rfl) (by kernel_rfl) (by kernel_rfl) (fun _ _ _ h => h) rfl (fun w' _ => by go_simp) trivial ?_
        go_frame
        refine wpAnyH_done (by kernel_rfl) ?_ _
        refine NoPanic.normal ?_
        go_wp2_with fail
        go_ret
        exact ⟨rfl, HBR.out.trans (HB10.out.mono HBR.out.size)⟩
      · skip
        refine wpOp_valueD 97 rfl rfl rfl (.slice A6 M c6) (by go_simp) ⟨trivial, ?_⟩
        go_frame
        refine wpAnyH_all (rs := [7]) (by kernel_rfl) (by simp) ?_
        simp only [List.mem_singleton, forall_eq]
        refine wpOp_callD 91 rfl rfl rfl 13 #[Value.slice At x.length ct, .int .i64 (K : Int)] (by go_simp) ?_
        refine (HF.out w8 K HB8.out (by omega) (by omega)).mono ?_
        rintro e w9 ⟨v9, rfl, hO9, hB9⟩
        rw [HTK.out] at hO9
        have HI9 := Lib.hid ((HI8.out.below hB9).take rfl hMr)
        have HS9 := Lib.hid hO9.fdIn; clear hO9
        have HB9 := Lib.hid (HB8.out.trans (hB9.mono HB8.out.size)); clear hB9
        refine ⟨_, rfl, trivial, ?_⟩
        go_frame
        refine wpAnyH_all (rs := [14]) (by kernel_rfl) (by simp) ?_
        simp only [List.mem_singleton, forall_eq]
        refine wpOp_callD 98 rfl rfl rfl 12 #[v9, Value.slice A6 M c6] (by go_simp) ?_
        refine (sameFd_any v9 _ (xs.take M) w9 HS9.out HI9.out (by rw [List.length_take]; have := HX1.out; omega)).mono ?_
        rintro e w10 ⟨rfl, hB10⟩
        have HB10 := Lib.hid (HB9.out.trans (hB10.mono HB9.out.size)); clear hB10
        refine ⟨_, rfl, trivial, ?_⟩
        go_frame
        refine takeH 15 99 (.bool true) rfl rfl (by kernel_rfl) (by kernel_rfl) (by kernel_rfl) (fun _ _ _ h => h) rfl (fun w' _ => by go_simp) trivial ?_
        go_frame
        refine takeH 16 8 (.bool true) rfl rfl (by kernel_rfl) (by kernel_rfl) (by kernel_rfl) (fun _ _ _ h => h) rfl (fun w' _ => by go_simp) trivial ?_
        go_frame
        refine wpAnyH_done (by kernel_rfl) ?_ _
        refine NoPanic.normal ?_
        go_wp2_with fail
        go_ret
        exact ⟨rfl, HBR.out.trans (HB10.out.mono HBR.out.size)⟩

end Go.Proofs.YtpfbpiegejbhkaaDoor
namespace Go.Proofs.YtpfbpiegejbhkaaDoor
open Go.RowKit
theorem boxHandles_w (B : Nat) (n0 : Int) (v1 : Value) (l1 : List UInt8) (v2 : Value) (l2 : List UInt8) (n3 : Int) (w : World) (h0 : (Lit.int .u32 n0).wf = true) (h1 : Sl w B v1 l1) (h2 : Sl w B v2 l2) (h3 : (Lit.int .u8 n3).wf = true) (hB : B ≤ w.heap.size) :
    Calls Tryd.prog 3 #[.int .u32 n0, v1, v2, .int .u8 n3] w fun e w' => e = .returned (.bool true) ∧ Below w.heap.size w w' := by
  have h4 : 0 ≤ n0 ∧ n0 < 4294967296 := by
    simp [Lit.wf, IntKind.min, IntKind.max, IntKind.bits, IntKind.signed] at h0
    omega
  have h5 : 0 ≤ n3 ∧ n3 ≤ 255 := by
    simp [Lit.wf, IntKind.min, IntKind.max, IntKind.bits, IntKind.signed] at h3
    omega
  by_cases hz : 0 < n0
  · exact boxHandles_pos n0 B B v1 v2 l1 l2 n3 w h4.1 h4.2 hz h1 h2 hB hB h5.1 h5.2
  · exact boxHandles_zero n0 B B v1 v2 l1 l2 n3 w h4.1 h4.2 hz h1 h2 hB hB h5.1 h5.2
end Go.Proofs.YtpfbpiegejbhkaaDoor
namespace Go.Proofs.YtpfbpiegejbhkaaDoor
def kz : List Int := [1116352408, 1899447441, 3049323471, 3921009573, 961987163, 1508970993, 2453635748, 2870763221, 3624381080, 310598401, 607225278, 1426881987, 1925078388, 2162078206, 2614888103, 3248222580, 3835390401, 4022224774, 264347078, 604807628, 770255983, 1249150122, 1555081692, 1996064986, 2554220882, 2821834349, 2952996808, 3210313671, 3336571891, 3584528711, 113926993, 338241895, 666307205, 773529912, 1294757372, 1396182291, 1695183700, 1986661051, 2177026350, 2456956037, 2730485921, 2820302411, 3259730800, 3345764771, 3516065817, 3600352804, 4094571909, 275423344, 430227734, 506948616, 659060556, 883997877, 958139571, 1322822218, 1537002063, 1747873779, 1955562222, 2024104815, 2227730452, 2361852424, 2428436474, 2756734187, 3204031479, 3329325298]
end Go.Proofs.YtpfbpiegejbhkaaDoor
