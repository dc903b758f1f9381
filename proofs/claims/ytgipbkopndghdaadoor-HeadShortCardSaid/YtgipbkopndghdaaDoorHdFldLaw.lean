/- HeadFields' walk. -/
import Derived.Test.YtgipbkopndghdaaDoorHdVal
import Derived.Test.YtgipbkopndghdaaDoorHdAwk
import Derived.Test.YtgipbkopndghdaaDoorHdLongLaw
import Derived.Test.YtgipbkopndghdaaDoorReg
import Derived.Test.YtgipbkopndghdaaDoorStrT
import Derived.Deep.RegionLaw
set_option maxRecDepth 100000
namespace Go.Proofs.YtgipbkopndghdaaDoor
open Go.RowKit Go.Shelf
theorem step_appP {w : World} {ops : Array Oper} {o : Oper} {a : Act} {K : Act → World → Prop} {Q : Exit → Act → World → Prop} {E : Prop} (hgd : o.guard = none) (s x : Operand) (ho : o.op = .call { callee := .builtin .append, args := #[s, x], argTypes := #[22, 22] })
    (base : Nat) (v : Value) (xs : Prs) (hs : a.eval s = v) (hown : OwnP w base v xs) (gb : Nat) (q r : List UInt8) (hx : a.eval x = .slice (some ⟨gb, 0, none⟩) 1 1)
    (hnew : w.heap[gb]? = some (.cells #[str q, str r] 37 (0, 0))) (hn : xs.length ≤ 100000) (hbase : base ≤ w.heap.size)
    (h : ∀ v' w', OwnP w' base v' (xs ++ [(q, r)]) → w.grownBy w' v.ownBlock → K (a.put o.dst v') w') : if Region.wanted o (yielded ops a.tmps) = true then Oper.wp Tryd.prog o a w K Q else E := by
  rw [if_pos (show Region.wanted o (yielded ops a.tmps) = true by simp [Region.wanted, hgd])]
  obtain ⟨i0, hi, hz0, hz1, hz2⟩ := info_parts info_pr
  refine wp_append_own w s x 22 ho base 37 i0 (.agg #[str [], str []]) 2 32 Tryd.underlying22 hi hz0 hz1 hz2 rfl (by decide) v xs.length (prc xs) hs hown ⟨gb, 0, none⟩ 1 1 [str q, str r] hx rfl (World.news_of_block hnew) (by simp [Value.oneCell']) (by unfold maxLen; omega) (by omega) hbase ?_
  intro v' w' h1 h2 _
  refine h v' w' ?_ h2
  unfold OwnP
  rw [List.length_append, prc_snoc]
  exact h1
theorem World.heap_size_drewX (w : World) : w.drew.heap.size = w.heap.size := rfl
theorem wpOp_valueW {P : Program} {ops : Array Oper} {Q : Exit → Act → World → Prop} {K : Act → World → Prop} {a : Act} {w : World} {i : Nat} {o : Oper} (d : Tmp) (hi : ops[i]? = some o) (hd : o.dst = some d) (hw : Region.wanted o (yielded ops a.tmps) = true) (v : Value) (w' : World) (hr : (execOp a.eval o).run P w = .ok (.value v) w') (h : K (a.put (some d) v) w') : wpOp P ops Q i K a w :=
  wpOp_of_wp hi hw (by unfold Oper.wp; rw [hr]; rw [← hd] at h; exact h)
theorem wpOp_appP {ops : Array Oper} {Q : Exit → Act → World → Prop} {K : Act → World → Prop} {a : Act} {w : World} {i : Nat} {o : Oper} (d : Tmp) (hi : ops[i]? = some o) (hd : o.dst = some d) (hgd : o.guard = none) (s x : Operand) (ho : o.op = .call { callee := .builtin .append, args := #[s, x], argTypes := #[22, 22] })
    (base : Nat) (v : Value) (xs : Prs) (hs : a.eval s = v) (hown : OwnP w base v xs) (gb : Nat) (q r : List UInt8) (hx : a.eval x = .slice (some ⟨gb, 0, none⟩) 1 1)
    (hnew : w.heap[gb]? = some (.cells #[str q, str r] 37 (0, 0))) (hn : xs.length ≤ 100000) (hbase : base ≤ w.heap.size)
    (h : ∀ v' w', OwnP w' base v' (xs ++ [(q, r)]) → w.grownBy w' v.ownBlock → K (a.put (some d) v') w') : wpOp Tryd.prog ops Q i K a w := by
  refine wpOp_of_wp hi (by simp [Region.wanted, hgd]) ?_
  obtain ⟨i0, hi, hz0, hz1, hz2⟩ := info_parts info_pr
  refine wp_append_own w s x 22 ho base 37 i0 (.agg #[str [], str []]) 2 32 Tryd.underlying22 hi hz0 hz1 hz2 rfl (by decide) v xs.length (prc xs) hs hown ⟨gb, 0, none⟩ 1 1 [str q, str r] hx rfl (World.news_of_block hnew) (by simp [Value.oneCell']) (by unfold maxLen; omega) (by omega) hbase ?_
  intro v' w' h1 h2 _
  rw [hd]
  refine h v' w' ?_ h2
  unfold OwnP
  rw [List.length_append, prc_snoc]
  exact h1
def cutP (x : List UInt8 × List UInt8) : List UInt8 × List UInt8 := (x.1.take 12, x.2.take 20)
def fldL (l : Prs) : Prs := (l.take 12).map cutP
theorem fldL_low (l : Prs) (k : Nat) (hk : k < l.length) (h : k < 12) : fldL (l.take (k + 1)) = fldL (l.take k) ++ [cutP l[k]] := by
  unfold fldL
  rw [List.take_take, List.take_take, Nat.min_eq_right (by omega), Nat.min_eq_right (by omega), take_snocG l k hk, List.map_append]; rfl
theorem fldL_high (l : Prs) (k : Nat) (h : ¬ k < 12) : fldL (l.take (k + 1)) = fldL (l.take k) := by
  unfold fldL
  rw [List.take_take, List.take_take, Nat.min_eq_left (by omega), Nat.min_eq_left (by omega)]
theorem fldL_len (l : Prs) : (fldL l).length ≤ 12 := by unfold fldL; rw [List.length_map, List.length_take]; omega
theorem fldL_mem (l : Prs) : ∀ x ∈ fldL l, x.1.length ≤ 12 := by
  intro x hx
  unfold fldL at hx
  obtain ⟨y, _, rfl⟩ := List.mem_map.1 hx
  show (y.1.take 12).length ≤ 12
  rw [List.length_take]; omega
set_option maxHeartbeats 4000000 in
theorem fields_law (v0 : Value) (l : Prs) (n0 : List UInt8) (u : Int) (w : World) (hv : PrIn w v0 l) (hbig : ∀ x ∈ l, x.1.length ≤ 9223372036854775807 ∧ x.2.length ≤ 9223372036854775807) (hn0 : n0.length ≤ 9223372036854775807) (hu : (Lit.int .u8 u).wf = true) (hE : Env w) :
    Calls Tryd.prog 4 #[v0, str n0, .int .u8 u] w fun e w' => e = .returned (.bool true) ∧ Below w.heap.size w w' := by
  obtain ⟨hu0, hu1⟩ := u8_rngH hu
  obtain ⟨K, hKu⟩ : ∃ K : Nat, (K : Int) = 1 + u % 3 := ⟨(1 + u % 3).toNat, by omega⟩
  have hK1 : 1 ≤ K := by omega
  have hK2 : K ≤ 9 := by omega
  have hum : 0 ≤ u % 3 ∧ u % 3 < 3 := by omega
  have HKU := Lib.hid hKu; clear hKu hu
  have HV := Lib.hid hv
  have HBIG := Lib.hid hbig
  have HA := Lib.hid (awake9 w hE)
  obtain ⟨A0, c0, rfl, hc0, hcm0, hq⟩ := hv
  clear hq hE hbig
  go_enter Tryd.func4, Tryd.ntmps4
  go_wp2_with fail
  refine HA.out.mono ?_
  rintro e w1 ⟨rfl, hB1⟩
  have HB1 := Lib.hid hB1
  clear hB1 HA
  go_wp2_with fail
  go_loopw [7, 20] (fun v i wr => ∃ k : Nat, k ≤ l.length ∧ i = .int .i64 (k : Int) ∧ OwnP wr w1.heap.size v (fldL (l.take k)) ∧ Below w1.heap.size w1 wr) (fun _ i _ => l.length - (intOf i).toNat)
  case atStart => exact ⟨0, by omega, rfl, World.ownsRow_nil _ _ _ 2, Below.refl _ _⟩
  case round =>
    obtain ⟨k, hk, rfl, hO, hb⟩ := hrel
    by_cases hlt : k < l.length
    · obtain ⟨A', c', he, _, _, hin⟩ := (HV.out.below HB1.out).below (hb.mono (Nat.le_refl _))
      injection he with he1 he2 he3
      subst he1 he3
      obtain ⟨g, o, rfl, d0, d1⟩ := hin k hlt
      clear hin he2
      have hbx := HBIG.out l[k] (List.getElem_mem hlt)
      have hlow := fldL_low l k hlt
      have hhigh := fldL_high l k
      obtain ⟨x, hx⟩ : ∃ x, x = l[k] := ⟨_, rfl⟩
      rw [← hx] at d0 d1 hbx hlow
      clear hx
      obtain ⟨q, r⟩ := x
      simp only at d0 d1 hbx
      have hll := fldL_len (l.take k)
      obtain ⟨L, hL⟩ : ∃ L, L = fldL (l.take k) := ⟨_, rfl⟩
      rw [← hL] at hO hlow hhigh hll
      have hz := hb.size
      have hb2 : Below w1.heap.size w1 (wr.alloc (.cells #[str q, str r] 37)) := hb.alloc hz _
      have HO := Lib.hid (hO.below ((Below.refl wr.heap.size wr).alloc (Nat.le_refl _) (.cells #[str q, str r] 37)))
      have HB2 := Lib.hid hb2
      have HLT := Lib.hid (fun kk (e : u7.ownBlock = some kk) => (World.ownsRow.lt hO kk e).2)
      have HLOW := Lib.hid hlow; have HHIGH := Lib.hid hhigh
      obtain ⟨hb1, hb2'⟩ := hbx
      have HC1 := Lib.hid (fun W => cutText_any q 12 W hb1 (by omega) (by omega))
      have HC2 := Lib.hid (fun W => cutText_any r 20 W hb2' (by omega) (by omega))
      clear hL hO hb hb2 hlow hhigh hb1 hb2'
      by_cases h12 : k < 12
      · have h12' : (k : Int) < 12 := by omega
        have HS := Lib.hid (HLOW.out h12)
        clear h12 HLOW HHIGH
        have hX := Blk.new wr [str q, str r] 37
        obtain ⟨X, hXe⟩ : ∃ X, X = wr.alloc (.cells [str q, str r].toArray 37) := ⟨_, rfl⟩
        have hzX : X.heap.size = wr.heap.size + 1 := by rw [hXe]; simp
        have hXe2 : wr.alloc (.cells #[str q, str r] 37) = X := hXe.symm
        rw [← hXe] at hX
        rw [hXe2] at HO HB2
        have HX := Lib.hid hX
        have HXE := Lib.hid hXe2
        have HZX := Lib.hid hzX
        have hll2 : L.length ≤ 100000 := by omega
        clear hXe hXe2 hX hzX
        go_wp2_with fail
        rw [HXE.out]
        refine wp_region_noPanic ?_
        refine wp_region_held (S := fun W => W.cell? ⟨wr.heap.size, 0, none⟩ = some (str q) ∧ W.cell? ⟨wr.heap.size, 1, none⟩ = some (str r)) (by kernel_rfl) ?_
        change wpAnyH _ _ _ _ _ _ _ _ X.drew
        have hXd : X.drew.cell? ⟨wr.heap.size, 0, none⟩ = some (str q) ∧ X.drew.cell? ⟨wr.heap.size, 1, none⟩ = some (str r) := ⟨HX.out.at (o := 0) rfl, HX.out.at (o := 1) rfl⟩
        have HXD := Lib.hid hXd; clear hXd
        refine takeH 0 27 u7 rfl rfl (by kernel_rfl) (by kernel_rfl) (by kernel_rfl) (fun _ _ _ h => h) rfl (fun w' _ => by go_simp) HXD.out ?_
        go_frame
        refine takeH 1 28 (.pointer (some ⟨wr.heap.size, 0, none⟩)) rfl rfl (by kernel_rfl) (by kernel_rfl) (by kernel_rfl) (fun _ _ _ h => h) rfl (fun w' _ => by go_simp) HXD.out ?_
        go_frame
        refine takeH 2 29 (str q) rfl rfl (by kernel_rfl) (by kernel_rfl) (by kernel_rfl) (fun _ _ _ h => h) rfl (fun w' h => by obtain ⟨h0, h1⟩ := h; go_simp) HXD.out ?_
        go_frame
        refine takeH 4 31 (.pointer (some ⟨wr.heap.size, 1, none⟩)) rfl rfl (by kernel_rfl) (by kernel_rfl) (by kernel_rfl) (fun _ _ _ h => h) rfl (fun w' _ => by go_simp) HXD.out ?_
        go_frame
        refine takeH 5 32 (str r) rfl rfl (by kernel_rfl) (by kernel_rfl) (by kernel_rfl) (fun _ _ _ h => h) rfl (fun w' h => by obtain ⟨h0, h1⟩ := h; go_simp) HXD.out ?_
        go_frame
        refine wpAnyH_all (rs := [3]) (by kernel_rfl) (by simp) ?_
        simp only [List.mem_singleton, forall_eq]
        refine wpOp_callD 30 rfl rfl rfl 13 #[str q, .int .i64 12] (by go_simp) ?_
        refine (HC1.out _).mono ?_
        rintro e w4 ⟨rfl, rfl⟩
        refine ⟨_, rfl, HXD.out, ?_⟩
        go_frame
        refine wpAnyH_all (rs := [6]) (by kernel_rfl) (by simp) ?_
        simp only [List.mem_singleton, forall_eq]
        refine wpOp_callD 33 rfl rfl rfl 13 #[str r, .int .i64 20] (by go_simp) ?_
        refine (HC2.out _).mono ?_
        rintro e w4 ⟨rfl, rfl⟩
        refine ⟨_, rfl, HXD.out, ?_⟩
        go_frame
        obtain ⟨Q1, hQ1⟩ : ∃ Q1, Q1 = q.take (12 : Int).toNat := ⟨_, rfl⟩
        obtain ⟨R1, hR1⟩ : ∃ R1, R1 = r.take (20 : Int).toNat := ⟨_, rfl⟩
        rw [← hQ1, ← hR1]
        have HQR := Lib.hid (show cutP (q, r) = (Q1, R1) by rw [hQ1, hR1]; rfl)
        clear hQ1 hR1
        refine takeH 7 34 (.agg #[str Q1, str R1]) rfl rfl (by kernel_rfl) (by kernel_rfl) (by kernel_rfl) (fun _ _ _ h => h) rfl (fun w' _ => by go_simp) HXD.out ?_
        go_frame
        obtain ⟨Y, hY⟩ : ∃ Y, Y = X.drew.alloc (.cells #[str Q1, str R1] 37) := ⟨_, rfl⟩
        have hbX : Below X.heap.size X Y := by rw [hY]; exact ((Below.refl _ X).drew).alloc (Nat.le_refl _) _
        have hYn : Y.heap[X.heap.size]? = some (.cells #[str Q1, str R1] 37 (0, 0)) := by rw [hY]; exact heap_alloc_new X.drew _
        have hY0 : Y.cell? ⟨wr.heap.size, 0, none⟩ = some (str q) ∧ Y.cell? ⟨wr.heap.size, 1, none⟩ = some (str r) := ⟨cell_below (HX.out.at (o := 0) rfl) hbX, cell_below (HX.out.at (o := 1) rfl) hbX⟩
        refine wpAnyH_all (rs := [8]) (by kernel_rfl) (by simp) ?_
        simp only [List.mem_singleton, forall_eq]
        refine wpOp_valueW 35 rfl rfl rfl (.slice (some ⟨X.heap.size, 0, none⟩) 1 1) Y (by rw [hY]; go_simp) ⟨hY0, ?_⟩
        go_frame
        have HOW := Lib.hid (HO.out.below hbX)
        have hzY : w1.heap.size ≤ Y.heap.size := by have := hbX.size; have := HZX.out; omega
        have HBY := Lib.hid (HB2.out.trans (hbX.mono (by have := HZX.out; omega)))
        have hYX : X.heap.size < Y.heap.size := (Array.getElem?_eq_some_iff.1 hYn).1
        clear hY
        refine wpAnyH_all (rs := [9]) (by kernel_rfl) (by simp) ?_
        simp only [List.mem_singleton, forall_eq]
        refine wpOp_appP 36 rfl rfl rfl (.tmp 27) (.tmp 35) rfl w1.heap.size u7 L rfl HOW.out X.heap.size Q1 R1 rfl hYn hll2 hzY ?_
        intro v5 A1 hO5 hg5
        have hB5 := HBY.out.grown hg5 hzY (fun kk hkk => (World.ownsRow.lt HOW.out kk hkk).1)
        have hne : some wr.heap.size ≠ u7.ownBlock := fun e => by
          have := HLT.out _ e.symm; omega
        have hA0 : A1.cell? ⟨wr.heap.size, 0, none⟩ = some (str q) ∧ A1.cell? ⟨wr.heap.size, 1, none⟩ = some (str r) := by
          have hb := hg5.block wr.heap.size (by have := HZX.out; omega) hne
          exact ⟨(World.cell?_of_block (a := ⟨wr.heap.size, 0, none⟩) hb).trans hY0.1, (World.cell?_of_block (a := ⟨wr.heap.size, 1, none⟩) hb).trans hY0.2⟩
        refine ⟨hA0, ?_⟩
        go_frame
        have HO5 := Lib.hid hO5; have HB5 := Lib.hid hB5
        refine takeH 10 7 v5 rfl rfl (by kernel_rfl) (by kernel_rfl) (by kernel_rfl) (fun _ _ _ h => h) rfl (fun w' _ => by go_simp) hA0 ?_
        go_frame
        refine wpAnyH_done (by kernel_rfl) ?_ _
        refine NoPanic.normal ?_
        clear hO5 hg5 hB5 hA0 hne hYn hY0 hbX hzY hYX
        go_wp2_with fail
        go_roundw
        case rel => exact ⟨k + 1, by omega, by go_num, by rw [HS.out, HQR.out]; exact HO5.out, HB5.out⟩
        case measure => simp [intOf]; omega
      · have h12' : ¬ (k : Int) < 12 := by omega
        have HS := Lib.hid (HHIGH.out h12)
        clear h12 HLOW HHIGH
        go_wp2_with fail
        go_roundw
        case rel => exact ⟨k + 1, by omega, by go_num, by rw [HS.out]; exact HO.out, HB2.out⟩
        case measure => simp [intOf]; omega
    · have htk : l.take k = l := List.take_of_length_le (by omega)
      rw [htk] at hO
      have hfl := fldL_len l
      have hfm := fldL_mem l
      obtain ⟨xs, hxs⟩ : ∃ xs, xs = fldL l := ⟨_, rfl⟩
      rw [← hxs] at hO hfl hfm
      have hxl : xs.length ≤ 1000 := by omega
      have hfm2 : ∀ x ∈ xs, x.1.length ≤ 1000 := fun x hx => by have := hfm x hx; omega
      have HP := Lib.hid (OwnP.prIn hO)
      obtain ⟨VA, VC, rfl⟩ := hO.form
      have HB2 := Lib.hid (HB1.out.trans (hb.mono HB1.out.size))
      have HCN := Lib.hid (fun W => cutText_any n0 12 W hn0 (by omega) (by omega))
      obtain ⟨n, hn⟩ : ∃ n, n = n0.take (12 : Int).toNat := ⟨_, rfl⟩
      rw [← hn] at HCN
      have hnl : n.length ≤ 1000 := by rw [hn, List.length_take]; have : (12 : Int).toNat = 12 := rfl; omega
      have HFM := Lib.hid hfm2
      clear hxs htk hO hb hfm hfm2 hn HV HBIG
      go_wp2_with fail
      refine (HCN.out _).mono ?_
      rintro e w3 ⟨rfl, rfl⟩
      go_wp2_with fail
      refine (refGet_any _ xs n wr HP.out hxl HFM.out hnl).mono ?_
      rintro e w3 ⟨v3, rfl, hO3, hB3⟩
      have hgl := getL_len xs n
      have HF := Lib.hid (first_get _ xs n w3 (HP.out.below hB3) hxl hnl HFM.out)
      have HP3 := Lib.hid (HP.out.below hB3)
      have HB3 := Lib.hid (HB2.out.trans (hB3.mono HB2.out.size))
      have HT3 := Lib.hid hO3.txIn
      obtain ⟨A3, c3, e3, hc3, hT3⟩ := hO3.txIn
      subst e3
      obtain ⟨G, hG⟩ : ∃ G, G = getL xs n := ⟨_, rfl⟩
      have HG := Lib.hid hG
      rw [← hG] at hgl HF HT3 hc3 hT3 ⊢
      clear hG hB3 hO3
      go_wp2_with fail
      refine HF.out.mono ?_
      rintro e w4 ⟨rfl, hB4⟩
      have hhd : 0 < G.length → ∃ g, A3 = some ⟨g, 0, none⟩ ∧ w4.cell? ⟨g, 0, none⟩ = some (str (G.headD [])) := fun h => by
        obtain ⟨g, hg, hc⟩ := hT3 0 h
        refine ⟨g, hg, ?_⟩
        rw [Nat.add_zero] at hc
        rw [cell_below hc hB4]
        cases G with
        | nil => simp at h
        | cons a t => rfl
      have HHD := Lib.hid hhd
      have HP4 := Lib.hid (HP3.out.below hB4)
      have HT4 := Lib.hid (HT3.out.below hB4)
      have HB4 := Lib.hid (HB3.out.trans (hB4.mono HB3.out.size))
      clear hB4 hhd hT3 HF HP HP3 HT3
      have hku := HKU.out
      have hB4z := HB4.out.size
      by_cases hG0 : G.length = 0
      · have hGe : G = [] := List.eq_nil_of_length_eq_zero hG0
        subst hGe
        have hhd0 : ([] : List (List UInt8)).headD [] = [] := rfl
        have hem : ([] : List (List UInt8)).isEmpty = true := rfl
        rw [hhd0, hem]
        clear hhd0 hem hG0
        go_wp2_with fail
        go_loopw [78] (fun i wr => ∃ k : Nat, k ≤ xs.length ∧ i = .int .i64 (k : Int) ∧ Below w4.heap.size w4 wr) (fun i _ => xs.length - (intOf i).toNat)
        case atStart => exact ⟨0, by omega, rfl, Below.refl _ _⟩
        case round =>
          obtain ⟨k, hk, rfl, hb⟩ := hrel
          by_cases hlt : k < xs.length
          · obtain ⟨A', c', he, _, _, hin⟩ := HP4.out.below hb
            injection he with he1 he2 he3
            subst he1 he3
            obtain ⟨g9, o9, e9, d0, d1⟩ := hin k hlt
            subst e9
            clear hin he2
            have hs1 := HFM.out xs[k] (List.getElem_mem hlt)
            obtain ⟨x, hx⟩ : ∃ x, x = xs[k] := ⟨_, rfl⟩
            rw [← hx] at d0 d1 hs1
            clear hx
            obtain ⟨q, r⟩ := x
            simp only at d0 d1 hs1
            have hz := hb.size
            have HB6 := Lib.hid (hb.alloc hz (.cells #[str q, str r] 37))
            clear hb hku
            go_wp2_with fail
            go_quiet (first | (go_at_call 16; exact Calls.quiet_of (fold_any q n _ (by omega) (by omega))) | (go_at_call 17; exact Calls.quiet_of (refFold_any q n _ (by omega) (by omega))))
            go_wp2_with fail
            go_roundw
            case rel => exact ⟨k + 1, by omega, by go_num, below_drewN HB6.out _⟩
            case measure => simp [intOf]; omega
          · have HB6 := Lib.hid (HB4.out.trans (hb.mono hB4z))
            have HP6 := Lib.hid (HP4.out.below hb)
            have HT6 := Lib.hid (HT4.out.below hb)
            clear hb
            obtain ⟨M, hM, hMr⟩ : ∃ M : Nat, M = min 0 K ∧ (M ≤ 0) := ⟨_, rfl, by omega⟩
            have HMIN := Lib.hid (show min (0 : Int) (K : Int) = (M : Int) by omega)
            have HSL := Lib.hid (fun W => slice_hT A3 0 c3 M (by omega) W)
            have HTK := Lib.hid (show ([] : List (List UInt8)).take K = ([] : List (List UInt8)).take M by simp)
            clear hM
            go_wp2_with fail
            rw [← hku]
            clear hku
            refine wp_region_noPanic ?_
            refine wp_region_held (S := fun _ => True) (by kernel_rfl) ?_
            change wpAnyH _ _ _ _ _ _ _ _ wr.drew
            have HBd := Lib.hid HB6.out.drew
            have HPd := Lib.hid (HP6.out.below (Below.refl _ _).drew)
            have HTd := Lib.hid (HT6.out.below (Below.refl _ _).drew)
            refine takeH 0 92 (Value.slice VA xs.length VC) rfl rfl (by kernel_rfl) (by kernel_rfl) (by kernel_rfl) (fun _ _ _ h => h) rfl (fun w' _ => by go_simp) trivial ?_
            go_frame
            refine takeH 1 93 (str n) rfl rfl (by kernel_rfl) (by kernel_rfl) (by kernel_rfl) (fun _ _ _ h => h) rfl (fun w' _ => by go_simp) trivial ?_
            go_frame
            refine takeH 4 96 (Value.slice A3 0 c3) rfl rfl (by kernel_rfl) (by kernel_rfl) (by kernel_rfl) (fun _ _ _ h => h) rfl (fun w' _ => by go_simp) trivial ?_
            go_frame
            refine wpAnyH_all (rs := [2]) (by kernel_rfl) (by simp) ?_
            simp only [List.mem_singleton, forall_eq]
            refine wpOp_callD 94 rfl rfl rfl 20 #[Value.slice VA xs.length VC, str n] (by go_simp) ?_
            refine (get_any _ xs n wr.drew HPd.out hxl).mono ?_
            rintro e w5 ⟨rfl, ⟨v5, hGI5⟩, hB5, hz5⟩
            have HB5 := Lib.hid (HBd.out.trans (hB5.mono HBd.out.size))
            have HP5 := Lib.hid (HPd.out.below hB5)
            have HT5 := Lib.hid (HTd.out.below hB5)
            have HGI := Lib.hid hGI5
            clear hB5 hz5 hGI5
            refine ⟨_, rfl, trivial, ?_⟩
            go_frame
            refine wpAnyH_all (rs := [3]) (by kernel_rfl) (by simp) ?_
            simp only [List.mem_singleton, forall_eq]
            refine wpOp_callD 95 rfl rfl rfl 19 #[gvGet wr.drew.heap.size] (by go_simp) ?_
            refine (collect_get _ v5 xs n hxl hnl HFM.out w5 HGI.out).mono ?_
            rintro e w6 ⟨v6, rfl, hO6, hB6⟩
            rw [← HG.out] at hO6
            have HO6 := Lib.hid hO6.txIn
            have HB7 := Lib.hid (HB5.out.trans (hB6.mono HB5.out.size))
            have HP7 := Lib.hid (HP5.out.below hB6)
            have HT7 := Lib.hid (HT5.out.below hB6)
            clear hO6 hB6
            refine ⟨_, rfl, trivial, ?_⟩
            go_frame
            refine wpAnyH_all (rs := [5]) (by kernel_rfl) (by simp) ?_
            simp only [List.mem_singleton, forall_eq]
            refine wpOp_callD 97 rfl rfl rfl 18 #[v6, Value.slice A3 0 c3] (by go_simp) ?_
            refine (equalT_any v6 _ [] w6 HO6.out HT7.out (by omega)).mono ?_
            rintro e w7 ⟨rfl, hB8⟩
            have HB8 := Lib.hid (HB7.out.trans (hB8.mono HB7.out.size))
            have HP8 := Lib.hid (HP7.out.below hB8)
            have HT8 := Lib.hid (HT7.out.below hB8)
            clear hB8
            refine ⟨_, rfl, trivial, ?_⟩
            go_frame
            refine takeH 6 98 (.bool true) rfl rfl (by kernel_rfl) (by kernel_rfl) (by kernel_rfl) (fun _ _ _ h => h) rfl (fun w' _ => by go_simp) trivial ?_
            go_frame
            refine takeH 7 99 (Value.slice VA xs.length VC) rfl rfl (by kernel_rfl) (by kernel_rfl) (by kernel_rfl) (fun _ _ _ h => h) rfl (fun w' _ => by go_simp) trivial ?_
            go_frame
            refine takeH 8 100 (str n) rfl rfl (by kernel_rfl) (by kernel_rfl) (by kernel_rfl) (fun _ _ _ h => h) rfl (fun w' _ => by go_simp) trivial ?_
            go_frame
            refine takeH 9 101 (.int .i64 (K : Int)) rfl rfl (by kernel_rfl) (by kernel_rfl) (by kernel_rfl) (fun _ _ _ h => h) rfl (fun w' _ => by go_simp) trivial ?_
            go_frame
            refine takeH 11 103 (Value.slice A3 0 c3) rfl rfl (by kernel_rfl) (by kernel_rfl) (by kernel_rfl) (fun _ _ _ h => h) rfl (fun w' _ => by go_simp) trivial ?_
            go_frame
            refine takeH 12 104 (Value.slice A3 0 c3) rfl rfl (by kernel_rfl) (by kernel_rfl) (by kernel_rfl) (fun _ _ _ h => h) rfl (fun w' _ => by go_simp) trivial ?_
            go_frame
            refine takeH 13 105 (.int .i64 (0 : Int)) rfl rfl (by kernel_rfl) (by kernel_rfl) (by kernel_rfl) (fun _ _ _ h => h) rfl (fun w' _ => by go_simp) trivial ?_
            go_frame
            refine takeH 14 106 (.int .i64 (K : Int)) rfl rfl (by kernel_rfl) (by kernel_rfl) (by kernel_rfl) (fun _ _ _ h => h) rfl (fun w' _ => by go_simp) trivial ?_
            go_frame
            refine takeH 15 107 (.int .i64 (M : Int)) rfl rfl (by kernel_rfl) (by kernel_rfl) (by kernel_rfl) (fun _ _ _ h => h) rfl (fun w' _ => by go_simp; exact HMIN.out) trivial ?_
            go_frame
            have hsl3 := HSL.out
            refine wpAnyH_all (rs := [10, 16]) (by kernel_rfl) (by simp) ?_
            simp only [List.mem_cons, List.not_mem_nil, or_false, forall_eq_or_imp, forall_eq]
            refine ⟨?_, ?_⟩
            · refine wpOp_callD 102 rfl rfl rfl 21 #[Value.slice VA xs.length VC, str n, .int .i64 (K : Int)] (by go_simp) ?_
              refine (values_any _ xs n K w7 HP8.out hxl hnl HFM.out hK1 (by omega)).mono ?_
              rintro e w8 ⟨v8, rfl, hO8, hB9⟩
              rw [← HG.out, HTK.out] at hO8
              have HO8 := Lib.hid hO8.txIn
              have HB9 := Lib.hid (HB8.out.trans (hB9.mono HB8.out.size))
              have HT9 := Lib.hid ((HT8.out.below hB9).take hMr)
              clear hO8 hB9
              refine ⟨_, rfl, trivial, ?_⟩
              go_frame
              refine wpAnyH_all (rs := [16]) (by kernel_rfl) (by simp) ?_
              simp only [List.mem_singleton, forall_eq]
              refine wpOp_valueD 108 rfl rfl rfl (.slice A3 M c3) (by go_simp) ⟨trivial, ?_⟩
              go_frame
              refine wpAnyH_all (rs := [17]) (by kernel_rfl) (by simp) ?_
              simp only [List.mem_singleton, forall_eq]
              refine wpOp_callD 109 rfl rfl rfl 18 #[v8, Value.slice A3 M c3] (by go_simp) ?_
              refine (equalT_any v8 _ (([] : List (List UInt8)).take M) w8 HO8.out HT9.out (by rw [List.length_take]; omega)).mono ?_
              rintro e w9 ⟨rfl, hB10⟩
              have HB10 := Lib.hid (HB9.out.trans (hB10.mono HB9.out.size))
              clear hB10
              refine ⟨_, rfl, trivial, ?_⟩
              go_frame
              refine takeH 18 110 (.bool true) rfl rfl (by kernel_rfl) (by kernel_rfl) (by kernel_rfl) (fun _ _ _ h => h) rfl (fun w' _ => by go_simp) trivial ?_
              go_frame
              refine takeH 19 6 (.bool true) rfl rfl (by kernel_rfl) (by kernel_rfl) (by kernel_rfl) (fun _ _ _ h => h) rfl (fun w' _ => by go_simp) trivial ?_
              go_frame
              refine wpAnyH_done (by kernel_rfl) ?_ _
              refine NoPanic.normal ?_
              go_wp2_with fail
              go_ret
              exact ⟨rfl, HB10.out⟩
            · refine wpOp_valueD 108 rfl rfl rfl (.slice A3 M c3) (by go_simp) ⟨trivial, ?_⟩
              go_frame
              refine wpAnyH_all (rs := [10]) (by kernel_rfl) (by simp) ?_
              simp only [List.mem_singleton, forall_eq]
              refine wpOp_callD 102 rfl rfl rfl 21 #[Value.slice VA xs.length VC, str n, .int .i64 (K : Int)] (by go_simp) ?_
              refine (values_any _ xs n K w7 HP8.out hxl hnl HFM.out hK1 (by omega)).mono ?_
              rintro e w8 ⟨v8, rfl, hO8, hB9⟩
              rw [← HG.out, HTK.out] at hO8
              have HO8 := Lib.hid hO8.txIn
              have HB9 := Lib.hid (HB8.out.trans (hB9.mono HB8.out.size))
              have HT9 := Lib.hid ((HT8.out.below hB9).take hMr)
              clear hO8 hB9
              refine ⟨_, rfl, trivial, ?_⟩
              go_frame
              refine wpAnyH_all (rs := [17]) (by kernel_rfl) (by simp) ?_
              simp only [List.mem_singleton, forall_eq]
              refine wpOp_callD 109 rfl rfl rfl 18 #[v8, Value.slice A3 M c3] (by go_simp) ?_
              refine (equalT_any v8 _ (([] : List (List UInt8)).take M) w8 HO8.out HT9.out (by rw [List.length_take]; omega)).mono ?_
              rintro e w9 ⟨rfl, hB10⟩
              have HB10 := Lib.hid (HB9.out.trans (hB10.mono HB9.out.size))
              clear hB10
              refine ⟨_, rfl, trivial, ?_⟩
              go_frame
              refine takeH 18 110 (.bool true) rfl rfl (by kernel_rfl) (by kernel_rfl) (by kernel_rfl) (fun _ _ _ h => h) rfl (fun w' _ => by go_simp) trivial ?_
              go_frame
              refine takeH 19 6 (.bool true) rfl rfl (by kernel_rfl) (by kernel_rfl) (by kernel_rfl) (fun _ _ _ h => h) rfl (fun w' _ => by go_simp) trivial ?_
              go_frame
              refine wpAnyH_done (by kernel_rfl) ?_ _
              refine NoPanic.normal ?_
              go_wp2_with fail
              go_ret
              exact ⟨rfl, HB10.out⟩
      · have hlen : 0 < G.length := by omega
        have hlen' : (0 : Int) < (G.length : Int) := by omega
        have hem : G.isEmpty = false := by cases G; exact absurd rfl hG0; rfl
        obtain ⟨g, rfl, hg0⟩ := HHD.out hlen
        rw [hem]
        obtain ⟨H, hH⟩ : ∃ H, H = G.headD [] := ⟨_, rfl⟩
        rw [← hH] at hg0 ⊢
        clear hH hem
        go_wp2_with fail
        clear hg0
        go_loopw [78] (fun i wr => ∃ k : Nat, k ≤ xs.length ∧ i = .int .i64 (k : Int) ∧ Below w4.heap.size w4 wr) (fun i _ => xs.length - (intOf i).toNat)
        case atStart => exact ⟨0, by omega, rfl, Below.refl _ _⟩
        case round =>
          obtain ⟨k, hk, rfl, hb⟩ := hrel
          by_cases hlt : k < xs.length
          · obtain ⟨A', c', he, _, _, hin⟩ := HP4.out.below hb
            injection he with he1 he2 he3
            subst he1 he3
            obtain ⟨g9, o9, e9, d0, d1⟩ := hin k hlt
            subst e9
            clear hin he2
            have hs1 := HFM.out xs[k] (List.getElem_mem hlt)
            obtain ⟨x, hx⟩ : ∃ x, x = xs[k] := ⟨_, rfl⟩
            rw [← hx] at d0 d1 hs1
            clear hx
            obtain ⟨q, r⟩ := x
            simp only at d0 d1 hs1
            have hz := hb.size
            have HB6 := Lib.hid (hb.alloc hz (.cells #[str q, str r] 37))
            clear hb hku
            go_wp2_with fail
            go_quiet (first | (go_at_call 16; exact Calls.quiet_of (fold_any q n _ (by omega) (by omega))) | (go_at_call 17; exact Calls.quiet_of (refFold_any q n _ (by omega) (by omega))))
            go_wp2_with fail
            go_roundw
            case rel => exact ⟨k + 1, by omega, by go_num, below_drewN HB6.out _⟩
            case measure => simp [intOf]; omega
          · have HB6 := Lib.hid (HB4.out.trans (hb.mono hB4z))
            have HP6 := Lib.hid (HP4.out.below hb)
            have HT6 := Lib.hid (HT4.out.below hb)
            clear hb
            obtain ⟨M, hM, hMr⟩ : ∃ M : Nat, M = min G.length K ∧ (M ≤ G.length) := ⟨_, rfl, by omega⟩
            have HMIN := Lib.hid (show min (G.length : Int) (K : Int) = (M : Int) by omega)
            have HSL := Lib.hid (fun W => slice_hT (some ⟨g, 0, none⟩) G.length c3 M (by omega) W)
            have HTK := Lib.hid (show G.take K = G.take M by rw [hM, Nat.min_comm, ← List.take_take, List.take_length])
            clear hM
            go_wp2_with fail
            rw [← hku]
            clear hku
            refine wp_region_noPanic ?_
            refine wp_region_held (S := fun _ => True) (by kernel_rfl) ?_
            change wpAnyH _ _ _ _ _ _ _ _ wr.drew
            have HBd := Lib.hid HB6.out.drew
            have HPd := Lib.hid (HP6.out.below (Below.refl _ _).drew)
            have HTd := Lib.hid (HT6.out.below (Below.refl _ _).drew)
            refine takeH 0 92 (Value.slice VA xs.length VC) rfl rfl (by kernel_rfl) (by kernel_rfl) (by kernel_rfl) (fun _ _ _ h => h) rfl (fun w' _ => by go_simp) trivial ?_
            go_frame
            refine takeH 1 93 (str n) rfl rfl (by kernel_rfl) (by kernel_rfl) (by kernel_rfl) (fun _ _ _ h => h) rfl (fun w' _ => by go_simp) trivial ?_
            go_frame
            refine takeH 4 96 (Value.slice (some ⟨g, 0, none⟩) G.length c3) rfl rfl (by kernel_rfl) (by kernel_rfl) (by kernel_rfl) (fun _ _ _ h => h) rfl (fun w' _ => by go_simp) trivial ?_
            go_frame
            refine wpAnyH_all (rs := [2]) (by kernel_rfl) (by simp) ?_
            simp only [List.mem_singleton, forall_eq]
            refine wpOp_callD 94 rfl rfl rfl 20 #[Value.slice VA xs.length VC, str n] (by go_simp) ?_
            refine (get_any _ xs n wr.drew HPd.out hxl).mono ?_
            rintro e w5 ⟨rfl, ⟨v5, hGI5⟩, hB5, hz5⟩
            have HB5 := Lib.hid (HBd.out.trans (hB5.mono HBd.out.size))
            have HP5 := Lib.hid (HPd.out.below hB5)
            have HT5 := Lib.hid (HTd.out.below hB5)
            have HGI := Lib.hid hGI5
            clear hB5 hz5 hGI5
            refine ⟨_, rfl, trivial, ?_⟩
            go_frame
            refine wpAnyH_all (rs := [3]) (by kernel_rfl) (by simp) ?_
            simp only [List.mem_singleton, forall_eq]
            refine wpOp_callD 95 rfl rfl rfl 19 #[gvGet wr.drew.heap.size] (by go_simp) ?_
            refine (collect_get _ v5 xs n hxl hnl HFM.out w5 HGI.out).mono ?_
            rintro e w6 ⟨v6, rfl, hO6, hB6⟩
            rw [← HG.out] at hO6
            have HO6 := Lib.hid hO6.txIn
            have HB7 := Lib.hid (HB5.out.trans (hB6.mono HB5.out.size))
            have HP7 := Lib.hid (HP5.out.below hB6)
            have HT7 := Lib.hid (HT5.out.below hB6)
            clear hO6 hB6
            refine ⟨_, rfl, trivial, ?_⟩
            go_frame
            refine wpAnyH_all (rs := [5]) (by kernel_rfl) (by simp) ?_
            simp only [List.mem_singleton, forall_eq]
            refine wpOp_callD 97 rfl rfl rfl 18 #[v6, Value.slice (some ⟨g, 0, none⟩) G.length c3] (by go_simp) ?_
            refine (equalT_any v6 _ G w6 HO6.out HT7.out (by omega)).mono ?_
            rintro e w7 ⟨rfl, hB8⟩
            have HB8 := Lib.hid (HB7.out.trans (hB8.mono HB7.out.size))
            have HP8 := Lib.hid (HP7.out.below hB8)
            have HT8 := Lib.hid (HT7.out.below hB8)
            clear hB8
            refine ⟨_, rfl, trivial, ?_⟩
            go_frame
            refine takeH 6 98 (.bool true) rfl rfl (by kernel_rfl) (by kernel_rfl) (by kernel_rfl) (fun _ _ _ h => h) rfl (fun w' _ => by go_simp) trivial ?_
            go_frame
            refine takeH 7 99 (Value.slice VA xs.length VC) rfl rfl (by kernel_rfl) (by kernel_rfl) (by kernel_rfl) (fun _ _ _ h => h) rfl (fun w' _ => by go_simp) trivial ?_
            go_frame
            refine takeH 8 100 (str n) rfl rfl (by kernel_rfl) (by kernel_rfl) (by kernel_rfl) (fun _ _ _ h => h) rfl (fun w' _ => by go_simp) trivial ?_
            go_frame
            refine takeH 9 101 (.int .i64 (K : Int)) rfl rfl (by kernel_rfl) (by kernel_rfl) (by kernel_rfl) (fun _ _ _ h => h) rfl (fun w' _ => by go_simp) trivial ?_
            go_frame
            refine takeH 11 103 (Value.slice (some ⟨g, 0, none⟩) G.length c3) rfl rfl (by kernel_rfl) (by kernel_rfl) (by kernel_rfl) (fun _ _ _ h => h) rfl (fun w' _ => by go_simp) trivial ?_
            go_frame
            refine takeH 12 104 (Value.slice (some ⟨g, 0, none⟩) G.length c3) rfl rfl (by kernel_rfl) (by kernel_rfl) (by kernel_rfl) (fun _ _ _ h => h) rfl (fun w' _ => by go_simp) trivial ?_
            go_frame
            refine takeH 13 105 (.int .i64 (G.length : Int)) rfl rfl (by kernel_rfl) (by kernel_rfl) (by kernel_rfl) (fun _ _ _ h => h) rfl (fun w' _ => by go_simp) trivial ?_
            go_frame
            refine takeH 14 106 (.int .i64 (K : Int)) rfl rfl (by kernel_rfl) (by kernel_rfl) (by kernel_rfl) (fun _ _ _ h => h) rfl (fun w' _ => by go_simp) trivial ?_
            go_frame
            refine takeH 15 107 (.int .i64 (M : Int)) rfl rfl (by kernel_rfl) (by kernel_rfl) (by kernel_rfl) (fun _ _ _ h => h) rfl (fun w' _ => by go_simp; exact HMIN.out) trivial ?_
            go_frame
            have hsl3 := HSL.out
            refine wpAnyH_all (rs := [10, 16]) (by kernel_rfl) (by simp) ?_
            simp only [List.mem_cons, List.not_mem_nil, or_false, forall_eq_or_imp, forall_eq]
            refine ⟨?_, ?_⟩
            · refine wpOp_callD 102 rfl rfl rfl 21 #[Value.slice VA xs.length VC, str n, .int .i64 (K : Int)] (by go_simp) ?_
              refine (values_any _ xs n K w7 HP8.out hxl hnl HFM.out hK1 (by omega)).mono ?_
              rintro e w8 ⟨v8, rfl, hO8, hB9⟩
              rw [← HG.out, HTK.out] at hO8
              have HO8 := Lib.hid hO8.txIn
              have HB9 := Lib.hid (HB8.out.trans (hB9.mono HB8.out.size))
              have HT9 := Lib.hid ((HT8.out.below hB9).take hMr)
              clear hO8 hB9
              refine ⟨_, rfl, trivial, ?_⟩
              go_frame
              refine wpAnyH_all (rs := [16]) (by kernel_rfl) (by simp) ?_
              simp only [List.mem_singleton, forall_eq]
              refine wpOp_valueD 108 rfl rfl rfl (.slice (some ⟨g, 0, none⟩) M c3) (by go_simp) ⟨trivial, ?_⟩
              go_frame
              refine wpAnyH_all (rs := [17]) (by kernel_rfl) (by simp) ?_
              simp only [List.mem_singleton, forall_eq]
              refine wpOp_callD 109 rfl rfl rfl 18 #[v8, Value.slice (some ⟨g, 0, none⟩) M c3] (by go_simp) ?_
              refine (equalT_any v8 _ (G.take M) w8 HO8.out HT9.out (by rw [List.length_take]; omega)).mono ?_
              rintro e w9 ⟨rfl, hB10⟩
              have HB10 := Lib.hid (HB9.out.trans (hB10.mono HB9.out.size))
              clear hB10
              refine ⟨_, rfl, trivial, ?_⟩
              go_frame
              refine takeH 18 110 (.bool true) rfl rfl (by kernel_rfl) (by kernel_rfl) (by kernel_rfl) (fun _ _ _ h => h) rfl (fun w' _ => by go_simp) trivial ?_
              go_frame
              refine takeH 19 6 (.bool true) rfl rfl (by kernel_rfl) (by kernel_rfl) (by kernel_rfl) (fun _ _ _ h => h) rfl (fun w' _ => by go_simp) trivial ?_
              go_frame
              refine wpAnyH_done (by kernel_rfl) ?_ _
              refine NoPanic.normal ?_
              go_wp2_with fail
              go_ret
              exact ⟨rfl, HB10.out⟩
            · refine wpOp_valueD 108 rfl rfl rfl (.slice (some ⟨g, 0, none⟩) M c3) (by go_simp) ⟨trivial, ?_⟩
              go_frame
              refine wpAnyH_all (rs := [10]) (by kernel_rfl) (by simp) ?_
              simp only [List.mem_singleton, forall_eq]
              refine wpOp_callD 102 rfl rfl rfl 21 #[Value.slice VA xs.length VC, str n, .int .i64 (K : Int)] (by go_simp) ?_
              refine (values_any _ xs n K w7 HP8.out hxl hnl HFM.out hK1 (by omega)).mono ?_
              rintro e w8 ⟨v8, rfl, hO8, hB9⟩
              rw [← HG.out, HTK.out] at hO8
              have HO8 := Lib.hid hO8.txIn
              have HB9 := Lib.hid (HB8.out.trans (hB9.mono HB8.out.size))
              have HT9 := Lib.hid ((HT8.out.below hB9).take hMr)
              clear hO8 hB9
              refine ⟨_, rfl, trivial, ?_⟩
              go_frame
              refine wpAnyH_all (rs := [17]) (by kernel_rfl) (by simp) ?_
              simp only [List.mem_singleton, forall_eq]
              refine wpOp_callD 109 rfl rfl rfl 18 #[v8, Value.slice (some ⟨g, 0, none⟩) M c3] (by go_simp) ?_
              refine (equalT_any v8 _ (G.take M) w8 HO8.out HT9.out (by rw [List.length_take]; omega)).mono ?_
              rintro e w9 ⟨rfl, hB10⟩
              have HB10 := Lib.hid (HB9.out.trans (hB10.mono HB9.out.size))
              clear hB10
              refine ⟨_, rfl, trivial, ?_⟩
              go_frame
              refine takeH 18 110 (.bool true) rfl rfl (by kernel_rfl) (by kernel_rfl) (by kernel_rfl) (fun _ _ _ h => h) rfl (fun w' _ => by go_simp) trivial ?_
              go_frame
              refine takeH 19 6 (.bool true) rfl rfl (by kernel_rfl) (by kernel_rfl) (by kernel_rfl) (fun _ _ _ h => h) rfl (fun w' _ => by go_simp) trivial ?_
              go_frame
              refine wpAnyH_done (by kernel_rfl) ?_ _
              refine NoPanic.normal ?_
              go_wp2_with fail
              go_ret
              exact ⟨rfl, HB10.out⟩
end Go.Proofs.YtgipbkopndghdaaDoor
