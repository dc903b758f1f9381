/- head: the reference's Parse. head: the law's parse of any bytes; the reference's Parse of none; two heads alike. The statement HeadReads' own text, walked. -/
import Derived.Test.YtajclihnoedecaaGreatDoorHrB
import Derived.Test.YtajclihnoedecaaGreatDoorSame
import Derived.Deep.DeepCutAuto
import Derived.Test.YtajclihnoedecaaGreatDoorHdAwk
import Derived.Test.YtajclihnoedecaaGreatDoorCut
set_option maxRecDepth 100000
namespace Go.Proofs.YtajclihnoedecaaGreatDoor
open Go.RowKit Go.Shelf
attribute [local go_sem] Oper.semAt_some
/-- A first line's parts, and whether it is one: a request's, or an answer's. -/
def hdA (asks : Bool) (l0 : List UInt8) : List UInt8 × List UInt8 × Int × Bool :=
  if asks then ((reqT l0).1, (reqT l0).2.1, 0, (reqT l0).2.2) else ((ansT l0).2.1, [], (ansT l0).1, (ansT l0).2.2)
/-- What a parser of heads gives. -/
def PrsR (asks : Bool) (w : World) (l : List UInt8) (e : Ending) (w' : World) : Prop :=
  ∃ v fs n x, e = .returned (.tuple #[hd4 (if x = 0 then (hdA asks (line0 l)).1 else []) (if x = 0 then (hdA asks (line0 l)).2.1 else []) (if x = 0 then (hdA asks (line0 l)).2.2.1 else 0) v, .int .i64 n, .int .i64 x]) ∧
    parseL (fun l => (hdA asks l).2.2.2) l = (fs, n, x) ∧ OwnP w' w.heap.size v fs ∧ Below w.heap.size w w'
theorem occ_at (l : List UInt8) (k : Nat) (h1 : k + 4 ≤ l.length) (h2 : k + 4 ≤ 4096) : Lib.occAt (l.take 4096) crcr k = ((l.drop k).take 4 == crcr) := by
  rw [Lib.occAt_iff_take _ _ _ (by rw [List.length_take]; simp [crcr]; omega)]
  congr 1
  rw [List.drop_take, List.take_take]
  congr 1
  simp [crcr]; omega
theorem occ_no (l : List UInt8) (k : Nat) (h : ¬ (k + 4 ≤ l.length ∧ k + 4 ≤ 4096)) : Lib.occAt (l.take 4096) crcr k = false := by
  cases e : Lib.occAt (l.take 4096) crcr k with
  | false => rfl
  | true =>
    rcases Lib.occAt_room e with h1 | h1
    · rw [List.length_take] at h1; simp [crcr] at h1; omega
    · exact absurd h1 (by decide)
theorem hd_zero (asks : Bool) (w : World) (l : List UInt8) (x : Int) (w' : World) (hx : x ≠ 0) (hp : parseL (fun l => (hdA asks l).2.2.2) l = ([], 0, x)) (hb : Below w.heap.size w w') :
    PrsR asks w l (.returned (.tuple #[hd4 [] [] 0 (.slice none 0 0), .int .i64 0, .int .i64 x])) w' :=
  ⟨.slice none 0 0, [], 0, x, by rw [if_neg hx, if_neg hx, if_neg hx], hp, World.ownsRow_nil _ _ _ 2, hb⟩
theorem wpOp_valueWr {P : Program} {ops : Array Oper} {Q : Exit → Act → World → Prop} {K : Act → World → Prop} {a : Act} {w : World} {i : Nat} {o : Oper} (d : Tmp) (hi : ops[i]? = some o) (hd : o.dst = some d) (hw : Region.wanted o (yielded ops a.tmps) = true) (v : Value) (w' : World) (hr : (execOp a.eval o).run P w = .ok (.value v) w') (h : K (a.put (some d) v) w') : wpOp P ops Q i K a w :=
  wpOp_of_wp hi hw (by unfold Oper.wp; rw [hr]; rw [← hd] at h; exact h)
theorem wpOp_appPr {ops : Array Oper} {Q : Exit → Act → World → Prop} {K : Act → World → Prop} {a : Act} {w : World} {i : Nat} {o : Oper} (d : Tmp) (hi : ops[i]? = some o) (hd : o.dst = some d) (hgd : o.guard = none) (s x : Operand) (ho : o.op = .call { callee := .builtin .append, args := #[s, x], argTypes := #[27, 27] })
    (base : Nat) (v : Value) (xs : List (List UInt8 × List UInt8)) (hs : a.eval s = v) (hown : OwnP w base v xs) (gb : Nat) (q r : List UInt8) (hx : a.eval x = .slice (some ⟨gb, 0, none⟩) 1 1)
    (hnew : w.heap[gb]? = some (.cells #[str q, str r] 51 (0, 0))) (hn : xs.length ≤ 100000) (hbase : base ≤ w.heap.size)
    (h : ∀ v' w', OwnP w' base v' (xs ++ [(q, r)]) → w.grownBy w' v.ownBlock → K (a.put (some d) v') w') : wpOp Tryz.prog ops Q i K a w := by
  refine wpOp_of_wp hi (by simp [Region.wanted, hgd]) ?_
  obtain ⟨i0, hi, hz0, hz1, hz2⟩ := info_parts info_pr
  refine wp_append_own w s x 27 ho base 51 i0 (.agg #[str [], str []]) 2 32 Tryz.underlying27 hi hz0 hz1 hz2 rfl (by decide) v xs.length (prc xs) hs hown ⟨gb, 0, none⟩ 1 1 [str q, str r] hx rfl (World.news_of_block hnew) (by simp [Value.oneCell']) (by unfold maxLen; omega) (by omega) hbase ?_
  intro v' w' h1 h2 _
  rw [hd]
  refine h v' w' ?_ h2
  unfold OwnP
  rw [List.length_append, prc_snoc]
  exact h1
theorem wpOp_storeGr {P : Program} {ops : Array Oper} {Q : Exit → Act → World → Prop} {K : Act → World → Prop} {a : Act} {w w' : World} {i : Nat} {o : Oper} (hi : ops[i]? = some o) (hd : o.dst = none) (hw : Region.wanted o (yielded ops a.tmps) = true)
    (hr : (execOp a.eval o).run P w = .ok .skip w') (h : K a w') : wpOp P ops Q i K a w :=
  wpOp_of_wp hi hw (by unfold Oper.wp; rw [hr]; show K (a.put o.dst undef) w'; rw [hd]; exact h)
theorem grown_low {A B C : World} {row : Option Nat} (h : A.grownBy B row) (k : Below A.heap.size B C) : A.grownBy C row :=
  ⟨k.os.trans h.os, k.tape.trans h.tape, k.output.trans h.output, Nat.le_trans h.size k.size, fun i hi hn => (k.block i hi).trans (h.block i hi hn)⟩
theorem slice_oneL (g m cap : Nat) (hc : m + 1 ≤ cap) (_hm : cap ≤ maxLen) : ∃ of, (m ≠ 0 → of = 2) ∧ ∀ W, (Instr.slice 56 (.slice (some ⟨g, 0, none⟩) (m + 1) cap) (some (.int .i64 1)) none none).run Tryz.prog W = .ok (.slice (some ⟨g, of, none⟩) m (cap - 1)) W := by
  by_cases h : cap = 1
  · subst h
    obtain rfl : m = 0 := by omega
    exact ⟨0, fun h => absurd rfl h, fun W => by go_simp⟩
  · refine ⟨2, fun _ => rfl, fun W => ?_⟩
    go_simp
    intro h'
    exfalso; omega
theorem hd_low {w W : World} {a b c d : Value} (h : Below w.heap.size w W) : Below w.heap.size w ((((W.setCell ⟨w.heap.size, 0, none⟩ a).setCell ⟨w.heap.size, 1, none⟩ b).setCell ⟨w.heap.size, 2, none⟩ c).setCell ⟨w.heap.size, 3, none⟩ d) :=
  (((h.setCell (p := ⟨w.heap.size, 0, none⟩) (Nat.le_refl _) a).setCell (p := ⟨w.heap.size, 1, none⟩) (Nat.le_refl _) b).setCell (p := ⟨w.heap.size, 2, none⟩) (Nat.le_refl _) c).setCell (p := ⟨w.heap.size, 3, none⟩) (Nat.le_refl _) d
set_option maxHeartbeats 4000000 in
theorem refParse_any (asks : Bool) (b o c : Nat) (l : List UInt8) (w : World) (hl : Bs w b o l) (hb : b < w.heap.size) (hc : l.length ≤ c) (hc2 : c ≤ 9223372036854775807) (hs : l.length ≤ 5000) :
    Calls Tryz.prog 9 #[.slice (some ⟨b, o, none⟩) l.length c, .bool asks] w (PrsR asks w l) := by
  have hge : -1 ≤ endL l := Lib.index_ge (l.take 4096) crcr
  have hro : endL l ≠ -1 → endL l + 4 ≤ l.length ∧ endL l + 4 ≤ 4096 := fun h => by
    have h1 : endL l = Lib.index (l.take 4096) crcr := rfl
    have := Lib.index_room (l.take 4096) crcr (by omega)
    have h4 : crcr.length = 4 := rfl
    rw [List.length_take, h4] at this
    omega
  have HL := Lib.hid hl
  have HSL : Hid (Sl w (b + 1) (.slice (some ⟨b, o, none⟩) l.length c) l) := Lib.hid ⟨_, c, rfl, (fun h => by cases h), hc, hc2, fun _ => ⟨b, o, rfl, by omega, hl⟩⟩
  have hRN : (∀ j, Lib.occAt (l.take 4096) crcr j = false) → endL l = -1 := fun h => Lib.index_none (fun j _ => h j)
  have HRN := Lib.hid hRN
  have HRH := Lib.hid (fun (k : Nat) (h1 : k ≤ (l.take 4096).length) (h2 : Lib.occAt (l.take 4096) crcr k = true) (h3 : ∀ j, j < k → Lib.occAt (l.take 4096) crcr j = false) => show endL l = k from Lib.index_first h1 h2 h3)
  obtain ⟨E, hE⟩ : ∃ E, E = endL l := ⟨_, rfl⟩
  rw [← hE] at hge hro HRN HRH
  have HE := Lib.hid hE
  clear hE hl hRN
  obtain ⟨W0, hW0⟩ : ∃ W, W = w.alloc (.cells #[str [], str [], .int .i64 0, .slice none 0 0] 29) := ⟨_, rfl⟩
  have HK0 : Hid (Blk W0 w.heap.size [str [], str [], .int .i64 0, .slice none 0 0]) := Lib.hid (by rw [hW0]; exact Blk.new w _ _)
  have HB0 : Hid (Below w.heap.size w W0) := Lib.hid (by rw [hW0]; exact (Below.refl _ w).alloc (Nat.le_refl _) _)
  have hz0 : W0.heap.size = w.heap.size + 1 := by rw [hW0]; simp
  have HS0 := Lib.hid (HSL.out.below HB0.out (by omega))
  go_enter Tryz.func9, Tryz.ntmps9
  go_wp2_with fail
  rw [← hW0]
  clear hW0
  go_loopw [7, 8] (fun e i wr => ∃ k : Nat, i = .int .i64 (k : Int) ∧ k ≤ 5000 ∧ wr = W0 ∧ ((e = .int .i64 (-1) ∧ (∀ j, j < k → Lib.occAt (l.take 4096) crcr j = false)) ∨ (e = .int .i64 E ∧ 0 ≤ E ∧ k ≤ 4097))) (fun _ i _ => 5000 - (intOf i).toNat)
  case atStart => exact ⟨0, rfl, by omega, rfl, .inl ⟨rfl, fun _ h => absurd h (by omega)⟩⟩
  case round =>
    obtain ⟨k, rfl, hk, rfl, hst⟩ := hrel
    obtain ⟨en, rfl, hen, HST⟩ : ∃ en : Int, u7 = .int .i64 en ∧ (en < 0 → ∀ j, j < k → Lib.occAt (l.take 4096) crcr j = false) ∧ Hid ((en = -1 ∧ en < 0) ∨ (en = E ∧ 0 ≤ E)) := by
      rcases hst with ⟨h1, h2⟩ | ⟨h1, h2, h3⟩
      · exact ⟨-1, h1, fun _ => h2, Lib.hid (.inl ⟨rfl, by omega⟩)⟩
      · exact ⟨E, h1, fun h => absurd h (by omega), Lib.hid (.inr ⟨rfl, h2⟩)⟩
    have HEN := Lib.hid hen
    clear hst hen
    go_upto_region 3 with fail
    go_cut [28] (fun s28 wx => wx = wr ∧ s28 = .bool (decide (k + 4 ≤ l.length ∧ k + 4 ≤ 4096 ∧ en < 0)))
    case first =>
      by_cases h1 : k + 4 ≤ l.length
      · have d1 : (k : Int) + 4 ≤ (l.length : Int) := by omega
        by_cases h2 : k + 4 ≤ 4096
        · have d2 : (k : Int) + 4 ≤ 4096 := by omega
          by_cases h3 : en < 0
          · have HD := Lib.hid (show decide (k + 4 ≤ l.length ∧ k + 4 ≤ 4096 ∧ en < 0) = true from decide_eq_true ⟨h1, h2, h3⟩)
            go_wp2_with fail
            go_meet
            exact ⟨rfl, by rw [HD.out]⟩
          · have HD := Lib.hid (show decide (k + 4 ≤ l.length ∧ k + 4 ≤ 4096 ∧ en < 0) = false from decide_eq_false (fun h => h3 h.2.2))
            go_wp2_with fail
            go_meet
            exact ⟨rfl, by rw [HD.out]⟩
        · have d2 : ¬ (k : Int) + 4 ≤ 4096 := by omega
          have HD := Lib.hid (show decide (k + 4 ≤ l.length ∧ k + 4 ≤ 4096 ∧ en < 0) = false from decide_eq_false (fun h => h2 h.2.1))
          go_wp2_with fail
          go_meet
          exact ⟨rfl, by rw [HD.out]⟩
      · have d1 : ¬ (k : Int) + 4 ≤ (l.length : Int) := by omega
        have HD := Lib.hid (show decide (k + 4 ≤ l.length ∧ k + 4 ≤ 4096 ∧ en < 0) = false from decide_eq_false (fun h => h1 h.1))
        go_wp2_with fail
        go_meet
        exact ⟨rfl, by rw [HD.out]⟩
    case rest =>
      obtain ⟨rfl, rfl⟩ := hcut
      by_cases hd : k + 4 ≤ l.length ∧ k + 4 ≤ 4096 ∧ en < 0
      · rw [decide_eq_true hd]
        obtain ⟨h1, h2, h3⟩ := hd
        have ho := occ_at l k h1 h2
        obtain ⟨V, hrun, hsl, _⟩ := slice_mid (some ⟨b, o, none⟩) l.length c k (k + 4) (k : Int) ((k : Int) + 4) rfl (by omega) (by omega) h1 hc
        have hcv := conv_sl (hsl wc _ l HS0.out rfl)
        rw [show k + 4 - k = 4 by omega] at hcv
        obtain ⟨q, hq⟩ : ∃ q, q = (l.drop k).take 4 := ⟨_, rfl⟩
        rw [← hq] at ho hcv
        have hq2 : (q == crcr) = (q == [13, 10, 13, 10]) := rfl
        rw [hq2] at ho
        have HO := Lib.hid ho
        clear hsl hq hq2 ho
        cases e : (q == [13, 10, 13, 10]) with
        | false =>
          go_wp2_with fail
          go_roundw
          case rel => exact ⟨k + 1, by go_num, by omega, by first | rfl | trivial, .inl ⟨by rcases HST.out with h | h; rw [h.1]; omega, fun j hj => by
            by_cases hjk : j < k
            · exact HEN.out h3 j hjk
            · obtain rfl : j = k := by omega
              rw [HO.out]; exact e⟩⟩
          case measure => simp [intOf]; omega
        | true =>
          have hEk := HRH.out k (by rw [List.length_take]; omega) (by rw [HO.out]; exact e) (HEN.out h3)
          go_wp2_with fail
          go_roundw
          case rel => exact ⟨k + 1, by go_num, by omega, by first | rfl | trivial, .inr ⟨by rw [hEk], by omega, by omega⟩⟩
          case measure => simp [intOf]; omega
      · rw [decide_eq_false hd]
        have hEn : en = E := by
          rcases HST.out with ⟨h1, h2⟩ | ⟨h1, h2⟩
          · rw [h1]
            exact (HRN.out (fun j => by
              by_cases hjk : j < k
              · exact HEN.out h2 j hjk
              · exact occ_no l j (fun h => hd ⟨by omega, by omega, h2⟩))).symm
          · exact h1
        subst hEn
        clear hd HST HEN HRN HRH
        have hk0 := HK0.out
        have f0 := hk0.free 0; have f1 := hk0.free 1; have f2 := hk0.free 2; have f3 := hk0.free 3
        have c0 := hk0.at (o := 0) rfl; have c1 := hk0.at (o := 1) rfl; have c2 := hk0.at (o := 2) rfl; have c3 := hk0.at (o := 3) rfl
        clear hk0
        by_cases hneg : en < 0
        · have hm1 : endL l = -1 := by rw [← HE.out]; omega
          by_cases hsh : l.length < 4096
          · have hsh2 : (l.length : Int) < 4096 := by omega
            have HPL : Hid (parseL (fun l => (hdA asks l).2.2.2) l = ([], 0, 2)) := Lib.hid (by unfold parseL; rw [if_pos hm1, if_pos hsh])
            clear hm1 hsh
            go_wp2_with fail
            exact bodyPost_ret (v := .tuple #[hd4 [] [] 0 (.slice none 0 0), .int .i64 0, .int .i64 2]) (by simp [results, Tryz.results9, go_sem, c0, c1, c2, c3]) rfl (hd_zero asks w l 2 _ (by decide) HPL.out (hd_low HB0.out))
          · have hsh2 : ¬ (l.length : Int) < 4096 := by omega
            have HPL : Hid (parseL (fun l => (hdA asks l).2.2.2) l = ([], 0, 3)) := Lib.hid (by unfold parseL; rw [if_pos hm1, if_neg hsh])
            clear hm1 hsh
            go_wp2_with fail
            exact bodyPost_ret (v := .tuple #[hd4 [] [] 0 (.slice none 0 0), .int .i64 0, .int .i64 3]) (by simp [results, Tryz.results9, go_sem, c0, c1, c2, c3]) rfl (hd_zero asks w l 3 _ (by decide) HPL.out (hd_low HB0.out))
        · obtain ⟨N, rfl⟩ : ∃ N : Nat, en = N := ⟨en.toNat, by omega⟩
          obtain ⟨hN1, hN2⟩ := hro (by omega)
          have hEN : endL l = N := HE.out.symm
          have hs13 := (HS0.out.take (N + 2) (by omega))
          obtain ⟨At, ct, he, hpc, _, _, hst⟩ := hs13
          injection he with he1 _ he2
          subst he1; subst he2
          have t1 := fun W => slice_h (some ⟨b, o, none⟩) l.length c (N + 2) hpc W
          rw [show ((N + 2 : Nat) : Int) = (N : Int) + 2 by omega] at t1
          have t2 := conv_sl hst
          have hHL : headLines l = (linesL (l.take (N + 2))).map (·.1) := by unfold headLines; rw [hEN]; rfl
          obtain ⟨T, hT⟩ : ∃ T, T = l.take (N + 2) := ⟨_, rfl⟩
          have hTl : T.length = N + 2 := by rw [hT, List.length_take]; omega
          rw [← hT] at t2 hHL
          have HRL := Lib.hid (refLines_any T wc (by omega))
          have hne : linesL T ≠ [] := linesL_ne (by intro e; rw [e] at hTl; simp at hTl)
          have hpl : parseL (fun l => (hdA asks l).2.2.2) l = if (hdA asks ((headLines l).headD [])).2.2.2 = false then ([], 0, (4 : Int)) else match fieldsL (headLines l).tail with
              | none => ([], 0, (4 : Int))
              | some fs => if 24 < fs.length then ([], 0, (3 : Int)) else (fs, (N : Int) + 4, 0) := by
            unfold parseL
            rw [if_neg (by omega), hEN]
            rfl
          have HPL := Lib.hid hpl; have HHL := Lib.hid hHL; have HNE := Lib.hid hne
          clear hpl hHL hne hT hst hro hneg hEN
          go_wp2_with fail
          refine HRL.out.mono ?_
          rintro e w2 ⟨v2, rfl, hO2, hB2⟩
          obtain ⟨x0, rest, hxs⟩ : ∃ x0 rest, linesL T = x0 :: rest := by
            cases h : linesL T with
            | nil => exact absurd h HNE.out
            | cons a t => exact ⟨_, _, rfl⟩
          obtain ⟨l0, b0⟩ := x0
          rw [hxs] at hO2
          have hrl : rest.length ≤ 5000 := by
            have := linesL_len T
            rw [hxs] at this; simp at this; omega
          have hparts : ∀ q ∈ (l0, b0) :: rest, q.1.length ≤ 5000 := fun q hq => by
            rw [← hxs] at hq
            have := (lnF_parts (fun _ => true) _ T (by simp) q hq).2
            omega
          have hl0 : (headLines l).headD [] = l0 := by rw [HHL.out, hxs]; rfl
          have htl : (headLines l).tail = rest.map (·.1) := by rw [HHL.out, hxs]; rfl
          have HPL2 : Hid (parseL (fun l => (hdA asks l).2.2.2) l = if (hdA asks l0).2.2.2 = false then ([], 0, (4 : Int)) else match fieldsL (rest.map (·.1)) with
              | none => ([], 0, (4 : Int))
              | some fs => if 24 < fs.length then ([], 0, (3 : Int)) else (fs, (N : Int) + 4, 0)) := Lib.hid (by rw [HPL.out, hl0, htl])
          have HL0 := Lib.hid hl0
          have HIN := Lib.hid hO2.lnIn
          rcases id hO2 with ⟨_, ⟨_, h0⟩ | ⟨g, cap, cur, rfl, hgb, hgl, hcap, hcm, _⟩⟩
          · simp at h0
          obtain ⟨A', c', he, hin⟩ := HIN.out
          injection he with he1 he2 he3
          subst he1 he3
          have ce0 : w2.cell? ⟨g, 0, none⟩ = some (str l0) := by
            obtain ⟨g', hg', h1, _⟩ := hin 0 (by simp)
            injection hg' with hg'
            injection hg' with hg'
            subst hg'
            simpa using h1
          have HINR := Lib.hid (show ∀ k (hk : k < rest.length), w2.cell? ⟨g, 2 + k * 2, none⟩ = some (str (rest[k]'hk).1) ∧ w2.cell? ⟨g, 2 + k * 2 + 1, none⟩ = some (.bool (rest[k]'hk).2) from fun k hk => by
            obtain ⟨g', hg', h1, h2⟩ := hin (k + 1) (by simp; omega)
            injection hg' with hg'
            injection hg' with hg'
            subst hg'
            rw [show 0 + (k + 1) * 2 = 2 + k * 2 by omega] at h1 h2
            exact ⟨by simpa using h1, by simpa using h2⟩)
          have hlen : ((l0, b0) :: rest).length = rest.length + 1 := rfl
          rw [hlen] at hcap ⊢
          have hi0 : (0 : Int) < ((rest.length + 1 : Nat) : Int) := by omega
          obtain ⟨of, hof, hs1⟩ := slice_oneL g rest.length cap hcap hcm
          have HPARTS := Lib.hid hparts
          have hl0l := hparts (l0, b0) (List.mem_cons_self ..)
          simp only at hl0l
          have HLOW2 := Lib.hid (HB0.out.trans (hB2.mono HB0.out.size))
          have hz2 := hB2.size
          have HK2 := Lib.hid (HK0.out.below hB2 HK0.out.lt)
          clear hin he2 hO2 hgb hgl hcm hparts hl0 htl hxs hB2 HPL HHL HNE HRL HIN c0 c1 c2 c3 f0 f1 f2 f3
          obtain ⟨W3, hW3⟩ : ∃ W, W = w2.alloc (.cells #[str [], str [], .int .i64 0, .slice none 0 0] 29) := ⟨_, rfl⟩
          have hb3 : Below w2.heap.size w2 W3 := by rw [hW3]; exact (Below.refl _ w2).alloc (Nat.le_refl _) _
          have HK3 : Hid (Blk W3 w2.heap.size [str [], str [], .int .i64 0, .slice none 0 0]) := Lib.hid (by rw [hW3]; exact Blk.new w2 _ _)
          have HK2b := Lib.hid (HK2.out.below hb3 HK2.out.lt)
          have hgl3 : g < w2.heap.size := World.block_lt_of_cell? w2 _ ce0
          have ce3 : W3.cell? ⟨g, 0, none⟩ = some (str l0) := (hb3.cell (p := ⟨g, 0, none⟩) hgl3).trans ce0
          have HLOW3 := Lib.hid (HLOW2.out.trans (hb3.mono (by have := HLOW2.out.size; omega)))
          have HINR3 := Lib.hid (fun k (hk : k < rest.length) => (⟨(hb3.cell (p := ⟨g, 2 + k * 2, none⟩) hgl3).trans (HINR.out k hk).1, (hb3.cell (p := ⟨g, 2 + k * 2 + 1, none⟩) hgl3).trans (HINR.out k hk).2⟩ : W3.cell? ⟨g, 2 + k * 2, none⟩ = some (str (rest[k]'hk).1) ∧ W3.cell? ⟨g, 2 + k * 2 + 1, none⟩ = some (.bool (rest[k]'hk).2)))
          have hz3 : W3.heap.size = w2.heap.size + 1 := by rw [hW3]; simp
          have cex := ce3
          rw [hW3] at cex
          have hlw : w.heap.size < w2.heap.size := by omega
          obtain ⟨st, hst⟩ : ∃ st, st = (hdA asks l0).2.2.2 := ⟨_, rfl⟩
          rw [← hst] at HPL2
          have HST := Lib.hid hst
          clear hb3 ce0 HINR HLOW2 HK2 hst
          have HAN : Hid (∀ (ff : Nat), ff = (if asks then 19 else 20) → Calls Tryz.prog ff #[str l0] W3 fun e w' => ∃ (a b : List UInt8) (n : Int), e = .returned (.tuple #[hd4 a b n (.slice none 0 0), .bool st]) ∧ (st = true → a = (hdA asks l0).1 ∧ b = (hdA asks l0).2.1 ∧ n = (hdA asks l0).2.2.1) ∧ Below W3.heap.size W3 w') := Lib.hid (by
            intro ff hff
            rw [HST.out]
            cases asks
            · subst hff
              refine (refAns_any l0 W3 (by omega)).mono ?_
              rintro e w' ⟨a, n, rfl, h1, h2⟩
              exact ⟨a, [], n, rfl, fun h => ⟨(h1 h).1, rfl, (h1 h).2⟩, h2⟩
            · subst hff
              refine (refReq_any l0 W3 (by omega)).mono ?_
              rintro e w' ⟨a, b, rfl, h1, h2⟩
              exact ⟨a, b, 0, rfl, fun h => ⟨(h1 h).1, (h1 h).2, rfl⟩, h2⟩)
          have HK3f := Lib.hid (fun (W : World) (hb : Below W3.heap.size W3 W) => HK3.out.below hb (by omega))
          clear hlen hge hN2 hpc t1 t2
          obtain ⟨Wz, hWz⟩ : ∃ W, W = wc := ⟨_, rfl⟩
          subst hWz
          go_upto_if 56 with fail
          go_cut [11] (fun s11 wx => s11 = .bool st ∧ ∃ (a b : List UInt8) (n : Int), (st = true → a = (hdA asks l0).1 ∧ b = (hdA asks l0).2.1 ∧ n = (hdA asks l0).2.2.1) ∧ Blk wx w2.heap.size [str a, str b, .int .i64 n, .slice none 0 0] ∧ W3.grownBy wx (some w2.heap.size))
          case first =>
            cases asks
            all_goals
              go_wp2_with fail
              rw [← hW3]
              refine (HAN.out _ rfl).mono ?_
              rintro e w4 ⟨a, b', n, rfl, h1, hB4⟩
              have hk4 := HK3f.out w4 hB4
              have e0 := hk4.at (o := 0) rfl; have e1 := hk4.at (o := 1) rfl; have e2 := hk4.at (o := 2) rfl; have e3 := hk4.at (o := 3) rfl
              have g0 := hk4.free 0; have g1 := hk4.free 1; have g2 := hk4.free 2; have g3 := hk4.free 3
              have hlw4 := hk4.lt
              have H1 := Lib.hid h1; have HB4 := Lib.hid hB4; have HK4 := Lib.hid hk4
              clear h1 hB4 hk4
              go_wp2_with fail
              go_meet
              exact ⟨rfl, a, b', n, H1.out, (((HK4.out.set 0 _).set 1 _).set 2 _).set 3 _, ((((grown_of_below HB4.out (some w2.heap.size)).trans (grown_set w4 ⟨w2.heap.size, 0, none⟩ _)).trans (grown_set _ ⟨w2.heap.size, 1, none⟩ _)).trans (grown_set _ ⟨w2.heap.size, 2, none⟩ _)).trans (grown_set _ ⟨w2.heap.size, 3, none⟩ _)⟩
          case rest =>
            obtain ⟨rfl, a, bb, n, h1, hkA, hgA⟩ := hcut
            obtain ⟨W5, hW5⟩ : ∃ W, W = wc := ⟨_, rfl⟩
            subst hW5
            have hzA := hgA.size
            have HKA := Lib.hid hkA
            have hkz := HK2b.out.grown hgA (by simp; omega)
            have HKZ := Lib.hid hkz
            have HROW := Lib.hid (fun k (hk : k < rest.length) => (⟨cell_grown (HINR3.out k hk).1 hgA (by omega), cell_grown (HINR3.out k hk).2 hgA (by omega)⟩ : W5.cell? ⟨g, 2 + k * 2, none⟩ = some (str (rest[k]'hk).1) ∧ W5.cell? ⟨g, 2 + k * 2 + 1, none⟩ = some (.bool (rest[k]'hk).2)))
            have HLOW5 := Lib.hid (show Below w.heap.size w W5 from HLOW3.out.trans (belowR hgA (by omega) (by omega)))
            clear hkA hgA HINR3 HLOW3 HK3f HAN HK3 HK2b ce3 cex hW3
            cases st with
            | false =>
              have HPL3 : Hid (parseL (fun l => (hdA asks l).2.2.2) l = ([], 0, 4)) := Lib.hid (by rw [HPL2.out]; exact if_pos rfl)
              have c0 := hkz.at (o := 0) rfl; have c1 := hkz.at (o := 1) rfl; have c2 := hkz.at (o := 2) rfl; have c3 := hkz.at (o := 3) rfl
              have f0 := hkz.free 0; have f1 := hkz.free 1; have f2 := hkz.free 2; have f3 := hkz.free 3
              clear hkz
              go_wp2_with fail
              exact bodyPost_ret (v := .tuple #[hd4 [] [] 0 (.slice none 0 0), .int .i64 0, .int .i64 4]) (by simp [results, Tryz.results9, go_sem, c0, c1, c2, c3]) rfl (hd_zero asks w l 4 _ (by decide) HPL3.out (hd_low HLOW5.out))
            | true =>
              obtain ⟨ha, hbb, hn⟩ := h1 rfl
              have HH1 := Lib.hid (⟨ha, hbb, hn⟩ : a = (hdA asks l0).1 ∧ bb = (hdA asks l0).2.1 ∧ n = (hdA asks l0).2.2.1)
              have HPL3 := Lib.hid (HPL2.out.trans (if_neg (by simp)))
              clear h1 ha hbb hn hkz
              have hs1b := hs1 W5
              go_wp2_with fail
              go_loopw [79] (fun i wr => ∃ (k : Nat) (fs : List (List UInt8 × List UInt8)) (vf : Value), k ≤ rest.length ∧ i = .int .i64 (k : Int) ∧ fieldsL ((rest.map (·.1)).take k) = some fs ∧ Blk wr w2.heap.size [str a, str bb, .int .i64 n, vf] ∧ OwnP wr W5.heap.size vf fs ∧ W5.grownBy wr (some w2.heap.size)) (fun i _ => rest.length - (intOf i).toNat)
              case atStart => exact ⟨0, [], .slice none 0 0, by omega, rfl, rfl, HKA.out, World.ownsRow_nil _ _ _ 2, World.grownBy.refl _ _⟩
              case round =>
                obtain ⟨k, fs, vf, hk, rfl, hfs, hkw, hof2, hgw⟩ := hrel
                have hzw := hgw.size
                have HKW := Lib.hid hkw; have HOF := Lib.hid hof2; have HGW := Lib.hid hgw
                have hkz := HKZ.out.grown hgw (by simp; omega)
                have HLW := Lib.hid (show Below w.heap.size w wr from HLOW5.out.trans (belowR hgw (by omega) (by omega)))
                have hfl := fieldsL_len hfs
                rw [List.length_take, List.length_map] at hfl
                have HFS := Lib.hid hfs
                clear hkw hof2 hgw hfs
                by_cases hlt : k < rest.length
                · obtain rfl : of = 2 := hof (by omega)
                  have hltm : k < (rest.map (·.1)).length := by rw [List.length_map]; exact hlt
                  have hts : (rest.map (·.1)).take (k + 1) = (rest.map (·.1)).take k ++ [(rest.map (·.1))[k]] := take_snocG _ k hltm
                  have hdr : rest.map (·.1) = (rest.map (·.1)).take k ++ (rest.map (·.1))[k] :: (rest.map (·.1)).drop (k + 1) := by rw [← List.drop_eq_getElem_cons hltm, List.take_append_drop]
                  have hgt : (rest.map (·.1))[k] = (rest[k]).1 := by simp
                  rw [hgt] at hts hdr
                  have hq5 := HPARTS.out rest[k] (List.mem_cons_of_mem _ (List.getElem_mem hlt))
                  have ck1 := cell_grown (HROW.out k hlt).1 HGW.out (by omega)
                  have ck2 := cell_grown (HROW.out k hlt).2 HGW.out (by omega)
                  obtain ⟨q1, q2, hq⟩ : ∃ q1 q2, rest[k] = (q1, q2) := ⟨_, _, rfl⟩
                  rw [hq] at hts hdr hq5 ck1 ck2
                  simp only at hts hdr hq5 ck1 ck2
                  have hfd := fieldL_ref q1
                  have HAT := Lib.hid (fun W => at_any q1 58 W (by omega))
                  have hge58 := Lib.indexByte_ge q1 58
                  have hlt58 := ib_lt q1 58
                  obtain ⟨I, hI⟩ : ∃ I, I = Lib.indexByte q1 58 := ⟨_, rfl⟩
                  rw [← hI] at hfd HAT hge58 hlt58
                  have HTS := Lib.hid hts; have HDR := Lib.hid hdr
                  clear hgt hq hI hts hdr
                  obtain ⟨W6, hW6⟩ : ∃ W, W = wr.alloc (.cells #[str q1, .bool q2] 61) := ⟨_, rfl⟩
                  have hb6 : Below wr.heap.size wr W6 := by rw [hW6]; exact (Below.refl _ wr).alloc (Nat.le_refl _) _
                  have hz6 : W6.heap.size = wr.heap.size + 1 := by rw [hW6]; simp
                  have hk6 := HKW.out.below hb6 HKW.out.lt
                  have hkz6 := hkz.below hb6 hkz.lt
                  have hS6 : W6.cell? ⟨wr.heap.size, 0, none⟩ = some (str q1) := by rw [hW6]; exact (Blk.new wr [str q1, .bool q2] 61).at (o := 0) rfl
                  have HLW6 := Lib.hid (HLW.out.trans (hb6.mono (by omega)))
                  have c0 := hkz6.at (o := 0) rfl; have c1 := hkz6.at (o := 1) rfl; have c2 := hkz6.at (o := 2) rfl; have c3 := hkz6.at (o := 3) rfl
                  have f0 := hkz6.free 0; have f1 := hkz6.free 1; have f2 := hkz6.free 2; have f3 := hkz6.free 3
                  have hlwz : w.heap.size < W6.heap.size := by omega
                  have HW6 := Lib.hid hW6
                  have HOF6 := Lib.hid (show OwnP W6 W5.heap.size vf fs from HOF.out.below hb6)
                  have HG6 := Lib.hid (HGW.out.trans (grown_of_below hb6 (some w2.heap.size)))
                  clear hkz hkz6 hW6
                  go_wp2_with fail
                  rw [← HW6.out]
                  refine (HAT.out _).mono ?_
                  rintro e w7 ⟨rfl, rfl⟩
                  by_cases hI0 : I < 0
                  · have hnone : fieldL q1 = none := by rw [hfd, if_neg (fun h => by omega)]
                    have HPL4 : Hid (parseL (fun l => (hdA asks l).2.2.2) l = ([], 0, 4)) := Lib.hid (by rw [HPL3.out, HDR.out, fieldsL_none hnone])
                    clear hnone hfd
                    go_wp2_with fail
                    exact bodyPost_ret (v := .tuple #[hd4 [] [] 0 (.slice none 0 0), .int .i64 0, .int .i64 4]) (by simp [results, Tryz.results9, go_sem, c0, c1, c2, c3]) rfl (hd_zero asks w l 4 _ (by decide) HPL4.out (hd_low HLW6.out))
                  · obtain ⟨i, rfl⟩ : ∃ i : Nat, I = i := ⟨I.toNat, by omega⟩
                    simp only [Int.toNat_natCast] at hfd
                    have t1 := fun W => str_take q1 i (by omega) W
                    have t2 := fun W => str_drop q1 (i + 1) (by omega) W
                    rw [show ((i + 1 : Nat) : Int) = (i : Int) + 1 by omega] at t2
                    have hAl : (q1.take i).length ≤ 5000 := by rw [List.length_take]; omega
                    have hBl : (q1.drop (i + 1)).length ≤ 5000 := by rw [List.length_drop]; omega
                    obtain ⟨A, hA⟩ : ∃ A, A = q1.take i := ⟨_, rfl⟩
                    obtain ⟨B, hB⟩ : ∃ B, B = q1.drop (i + 1) := ⟨_, rfl⟩
                    rw [← hA] at hfd t1 hAl
                    rw [← hB] at hfd t2 hBl
                    have HTK := Lib.hid (fun W => refTok A W (by omega))
                    have HTX := Lib.hid (fun W => refText_any B W (by omega))
                    have HTR := Lib.hid (fun W => refTrim_any B W (by omega))
                    obtain ⟨tk, htk⟩ : ∃ tk, tk = tokB A := ⟨_, rfl⟩
                    obtain ⟨tx, htx⟩ : ∃ tx, tx = txtB B := ⟨_, rfl⟩
                    rw [← htk] at hfd HTK
                    rw [← htx] at hfd HTX
                    clear hA hB htk htx hge58
                    cases tk with
                    | false =>
                      have hnone : fieldL q1 = none := by rw [hfd, if_neg (fun h => absurd h.2.1 (by decide))]
                      have HPL4 : Hid (parseL (fun l => (hdA asks l).2.2.2) l = ([], 0, 4)) := Lib.hid (by rw [HPL3.out, HDR.out, fieldsL_none hnone])
                      clear hnone hfd
                      go_wp2_with fail
                      refine (HTK.out _).mono ?_
                      rintro e w7 ⟨rfl, hw7⟩
                      subst w7
                      go_wp2_with fail
                      exact bodyPost_ret (v := .tuple #[hd4 [] [] 0 (.slice none 0 0), .int .i64 0, .int .i64 4]) (by simp [results, Tryz.results9, go_sem, c0, c1, c2, c3]) rfl (hd_zero asks w l 4 _ (by decide) HPL4.out (hd_low HLW6.out))
                    | true =>
                      cases tx with
                      | false =>
                        have hnone : fieldL q1 = none := by rw [hfd, if_neg (fun h => absurd h.2.2 (by decide))]
                        have HPL4 : Hid (parseL (fun l => (hdA asks l).2.2.2) l = ([], 0, 4)) := Lib.hid (by rw [HPL3.out, HDR.out, fieldsL_none hnone])
                        clear hnone hfd
                        go_wp2_with fail
                        refine (HTK.out _).mono ?_
                        rintro e w7 ⟨rfl, hw7⟩
                        subst w7
                        go_wp2_with fail
                        refine (HTX.out _).mono ?_
                        rintro e w7 ⟨rfl, rfl⟩
                        go_wp2_with fail
                        exact bodyPost_ret (v := .tuple #[hd4 [] [] 0 (.slice none 0 0), .int .i64 0, .int .i64 4]) (by simp [results, Tryz.results9, go_sem, c0, c1, c2, c3]) rfl (hd_zero asks w l 4 _ (by decide) HPL4.out (hd_low HLW6.out))
                      | true =>
                        have hsome : fieldL q1 = some (A, trimR B) := by rw [hfd, if_pos ⟨by omega, rfl, rfl⟩]
                        have HSN := Lib.hid (fieldsL_snoc HFS.out hsome)
                        rw [← HTS.out] at HSN
                        clear hsome hfd
                        go_wp2_with fail
                        refine (HTK.out _).mono ?_
                        rintro e w7 ⟨rfl, hw7⟩
                        subst w7
                        go_wp2_with fail
                        refine (HTX.out _).mono ?_
                        rintro e w7 ⟨rfl, rfl⟩
                        go_wp2_with fail
                        obtain ⟨X, hX⟩ : ∃ X, X = W6.drew := ⟨_, rfl⟩
                        have hzX : X.heap.size = W6.heap.size := by rw [hX]; rfl
                        have hkX : Blk X w2.heap.size [str a, str bb, .int .i64 n, vf] := by rw [hX]; exact hk6
                        have hS0 : X.cell? ⟨wr.heap.size, 0, none⟩ = some (str q1) := by rw [hX]; exact hS6
                        have hGX : W5.grownBy X (some w2.heap.size) := by rw [hX]; exact HG6.out.trans (grown_of_below (Below.refl _ _).drew _)
                        have hOX : OwnP X W5.heap.size vf fs := by rw [hX]; exact HOF6.out.below (Below.refl _ _).drew
                        obtain ⟨Y, hY⟩ : ∃ Y, Y = X.alloc (.cells #[str A, str (trimR B)] 51) := ⟨_, rfl⟩
                        have hbY : Below X.heap.size X Y := by rw [hY]; exact (Below.refl _ X).alloc (Nat.le_refl _) _
                        have hzY : Y.heap.size = X.heap.size + 1 := by rw [hY]; simp
                        have HYN : Hid (Y.heap[X.heap.size]? = some (.cells #[str A, str (trimR B)] 51 (0, 0))) := Lib.hid (by rw [hY]; exact heap_alloc_new X _)
                        have HSY : Hid (Y.cell? ⟨wr.heap.size, 0, none⟩ = some (str q1)) := Lib.hid ((hbY.cell (p := ⟨wr.heap.size, 0, none⟩) (by show wr.heap.size < X.heap.size; omega)).trans hS0)
                        have HKY := Lib.hid (hkX.below hbY hkX.lt)
                        have HOY := Lib.hid (hOX.below hbY)
                        have hlt5 := World.ownsRow.lt HOF.out
                        have HVN : Hid (some wr.heap.size ≠ vf.ownBlock) := Lib.hid (fun e => by have := hlt5 _ e.symm; omega)
                        have HHN : Hid (some w2.heap.size ≠ vf.ownBlock) := Lib.hid (fun e => by have := hlt5 _ e.symm; omega)
                        have HFL : Hid (fs.length ≤ 100000) := Lib.hid (by omega)
                        have HZY : Hid (W5.heap.size ≤ Y.heap.size) := Lib.hid (by omega)
                        have HYL : Hid (wr.heap.size < Y.heap.size) := Lib.hid (by omega)
                        have HEND := Lib.hid (fun (W7 : World) (v7 : Value) (ho : OwnP W7 W5.heap.size v7 (fs ++ [(A, trimR B)])) (hg : Y.grownBy W7 vf.ownBlock) => (⟨ho.set (b := w2.heap.size) (i := 3) (by omega) v7, (grown_low (grown_low hGX (hbY.mono (by omega))) ((Below.refl W5.heap.size Y).grown hg (by omega) (fun kk hkk => (hlt5 kk hkk).1))).trans (grown_set W7 ⟨w2.heap.size, 3, none⟩ v7)⟩ : OwnP (W7.setCell ⟨w2.heap.size, 3, none⟩ v7) W5.heap.size v7 (fs ++ [(A, trimR B)]) ∧ W5.grownBy (W7.setCell ⟨w2.heap.size, 3, none⟩ v7) (some w2.heap.size)))
                        have HY := Lib.hid hY
                        have HKX := Lib.hid hkX
                        clear hfl hlt5 hGX hOX hY hk6 hS6 c0 c1 c2 c3 f0 f1 f2 f3 hbY hkX
                        refine wp_region_noPanic ?_
                        refine wp_region_held (S := fun w' => w'.cell? ⟨wr.heap.size, 0, none⟩ = some (str q1)) (by kernel_rfl) ?_
                        change wpAnyH _ _ _ _ _ _ _ _ W6.drew
                        rw [← hX]
                        clear hX
                        have hw1 : IntKind.i64.wrap ((i : Int) + 1) = (i : Int) + 1 := IntWalk.i64_in _ (by omega)
                        refine takeH 0 106 (.pointer (some ⟨w2.heap.size, 3, none⟩)) rfl rfl (by kernel_rfl) (by kernel_rfl) (by kernel_rfl) (fun _ _ _ h => h) rfl (fun w' hS' => by go_simp) hS0 ?_
                        go_frame
                        refine takeH 2 108 (.pointer (some ⟨wr.heap.size, 0, none⟩)) rfl rfl (by kernel_rfl) (by kernel_rfl) (by kernel_rfl) (fun _ _ _ h => h) rfl (fun w' hS' => by go_simp) hS0 ?_
                        go_frame
                        refine takeH 3 109 (str q1) rfl rfl (by kernel_rfl) (by kernel_rfl) (by kernel_rfl) (fun _ _ _ h => h) rfl (fun w' hS' => by go_simp) hS0 ?_
                        go_frame
                        refine takeH 4 110 (.int .i64 (i : Int)) rfl rfl (by kernel_rfl) (by kernel_rfl) (by kernel_rfl) (fun _ _ _ h => h) rfl (fun w' hS' => by go_simp) hS0 ?_
                        go_frame
                        refine takeH 5 111 (str A) rfl rfl (by kernel_rfl) (by kernel_rfl) (by kernel_rfl) (fun _ _ _ h => h) rfl (fun w' hS' => by go_simp) hS0 ?_
                        go_frame
                        refine takeH 6 112 (.pointer (some ⟨wr.heap.size, 0, none⟩)) rfl rfl (by kernel_rfl) (by kernel_rfl) (by kernel_rfl) (fun _ _ _ h => h) rfl (fun w' hS' => by go_simp) hS0 ?_
                        go_frame
                        refine takeH 7 113 (str q1) rfl rfl (by kernel_rfl) (by kernel_rfl) (by kernel_rfl) (fun _ _ _ h => h) rfl (fun w' hS' => by go_simp) hS0 ?_
                        go_frame
                        refine takeH 8 114 (.int .i64 (i : Int)) rfl rfl (by kernel_rfl) (by kernel_rfl) (by kernel_rfl) (fun _ _ _ h => h) rfl (fun w' hS' => by go_simp) hS0 ?_
                        go_frame
                        refine takeH 9 115 (.int .i64 ((i : Int) + 1)) rfl rfl (by kernel_rfl) (by kernel_rfl) (by kernel_rfl) (fun _ _ _ h => h) rfl (fun w' hS' => by go_simp) hS0 ?_
                        go_frame
                        refine takeH 10 116 (str B) rfl rfl (by kernel_rfl) (by kernel_rfl) (by kernel_rfl) (fun _ _ _ h => h) rfl (fun w' hS' => by go_simp) hS0 ?_
                        go_frame
                        refine wpAnyH_all (rs := [1, 11]) (by kernel_rfl) (by simp) ?_
                        simp only [List.mem_cons, List.not_mem_nil, or_false, forall_eq_or_imp, forall_eq]
                        refine ⟨?_, ?_⟩
                        · skip
                          refine wpOp_valueD 107 rfl rfl rfl vf (by have c3 := HKX.out.at (o := 3) rfl; go_simp) ⟨hS0, ?_⟩
                          go_frame
                          refine wpAnyH_all (rs := [11]) (by kernel_rfl) (by simp) ?_
                          simp only [List.mem_singleton, forall_eq]
                          refine wpOp_callD 117 rfl rfl rfl 24 #[str B] (by go_simp) ?_
                          refine (HTR.out _).mono ?_
                          rintro e w9 ⟨rfl, rfl⟩
                          refine ⟨_, rfl, hS0, ?_⟩
                          go_frame
                          refine takeH 12 118 (.agg #[str A, str (trimR B)]) rfl rfl (by kernel_rfl) (by kernel_rfl) (by kernel_rfl) (fun _ _ _ h => h) rfl (fun w' hS' => by go_simp) hS0 ?_
                          go_frame
                          refine wpAnyH_all (rs := [13]) (by kernel_rfl) (by simp) ?_
                          simp only [List.mem_singleton, forall_eq]
                          refine wpOp_valueWr 119 rfl rfl rfl (.slice (some ⟨X.heap.size, 0, none⟩) 1 1) Y (by rw [HY.out]; go_simp) ⟨HSY.out, ?_⟩
                          go_frame
                          refine wpAnyH_all (rs := [14]) (by kernel_rfl) (by simp) ?_
                          simp only [List.mem_singleton, forall_eq]
                          refine wpOp_appPr 120 rfl rfl rfl (.tmp 107) (.tmp 119) rfl W5.heap.size vf fs rfl HOY.out X.heap.size A (trimR B) rfl HYN.out HFL.out HZY.out ?_
                          intro v7 W7 hO7 hg7
                          have HO7 := Lib.hid hO7; have HG7 := Lib.hid hg7
                          have hS7 : W7.cell? ⟨wr.heap.size, 0, none⟩ = some (str q1) := (World.cell?_of_block (a := ⟨wr.heap.size, 0, none⟩) (hg7.block wr.heap.size HYL.out HVN.out)).trans HSY.out
                          have hK7 := HKY.out.grown hg7 HHN.out
                          clear hO7 hg7
                          refine ⟨hS7, ?_⟩
                          go_frame
                          obtain ⟨A7, c7, e7⟩ := HO7.out.form; rw [List.length_append, List.length_singleton] at e7; subst e7
                          refine takeH 15 121 (.pointer (some ⟨w2.heap.size, 3, none⟩)) rfl rfl (by kernel_rfl) (by kernel_rfl) (by kernel_rfl) (fun _ _ _ h => h) rfl (fun w' hS' => by go_simp) hS7 ?_
                          go_frame
                          have d0 := hK7.at (o := 3) rfl
                          have d1 := hK7.free 3
                          have hK8 := hK7.set 3 (.slice A7 (fs.length + 1) c7)
                          have hS8 : (W7.setCell ⟨w2.heap.size, 3, none⟩ (.slice A7 (fs.length + 1) c7)).cell? ⟨wr.heap.size, 0, none⟩ = some (str q1) := ((grown_set W7 ⟨w2.heap.size, 3, none⟩ (.slice A7 (fs.length + 1) c7)).cell hS7 (by first | (show some wr.heap.size ≠ some w2.heap.size; intro e; injection e with e; omega) | (show wr.heap.size ≠ w2.heap.size; omega)))
                          refine wpAnyH_all (rs := [16]) (by kernel_rfl) (by simp) ?_
                          simp only [List.mem_singleton, forall_eq]
                          refine wpOp_storeGr rfl rfl rfl (w' := W7.setCell ⟨w2.heap.size, 3, none⟩ (.slice A7 (fs.length + 1) c7)) (by go_simp) ⟨hS8, ?_⟩
                          refine wpAnyH_done (by kernel_rfl) ?_ _
                          refine NoPanic.normal ?_
                          have HREL := Lib.hid (HEND.out W7 _ HO7.out HG7.out)
                          have HK8 := Lib.hid hK8
                          clear hS7 hK7 d0 d1 hK8 hS8
                          go_wp2_with fail
                          go_roundw
                          case rel => exact ⟨k + 1, fs ++ [(A, trimR B)], _, by omega, by go_num, HSN.out, HK8.out, HREL.out.1, HREL.out.2⟩
                          case measure => simp [intOf]; omega
                        · skip
                          refine wpOp_callD 117 rfl rfl rfl 24 #[str B] (by go_simp) ?_
                          refine (HTR.out _).mono ?_
                          rintro e w9 ⟨rfl, rfl⟩
                          refine ⟨_, rfl, hS0, ?_⟩
                          go_frame
                          refine takeH 12 118 (.agg #[str A, str (trimR B)]) rfl rfl (by kernel_rfl) (by kernel_rfl) (by kernel_rfl) (fun _ _ _ h => h) rfl (fun w' hS' => by go_simp) hS0 ?_
                          go_frame
                          refine wpAnyH_all (rs := [1, 13]) (by kernel_rfl) (by simp) ?_
                          simp only [List.mem_cons, List.not_mem_nil, or_false, forall_eq_or_imp, forall_eq]
                          refine ⟨?_, ?_⟩
                          · skip
                            refine wpOp_valueD 107 rfl rfl rfl vf (by have c3 := HKX.out.at (o := 3) rfl; go_simp) ⟨hS0, ?_⟩
                            go_frame
                            refine wpAnyH_all (rs := [13]) (by kernel_rfl) (by simp) ?_
                            simp only [List.mem_singleton, forall_eq]
                            refine wpOp_valueWr 119 rfl rfl rfl (.slice (some ⟨X.heap.size, 0, none⟩) 1 1) Y (by rw [HY.out]; go_simp) ⟨HSY.out, ?_⟩
                            go_frame
                            refine wpAnyH_all (rs := [14]) (by kernel_rfl) (by simp) ?_
                            simp only [List.mem_singleton, forall_eq]
                            refine wpOp_appPr 120 rfl rfl rfl (.tmp 107) (.tmp 119) rfl W5.heap.size vf fs rfl HOY.out X.heap.size A (trimR B) rfl HYN.out HFL.out HZY.out ?_
                            intro v7 W7 hO7 hg7
                            have HO7 := Lib.hid hO7; have HG7 := Lib.hid hg7
                            have hS7 : W7.cell? ⟨wr.heap.size, 0, none⟩ = some (str q1) := (World.cell?_of_block (a := ⟨wr.heap.size, 0, none⟩) (hg7.block wr.heap.size HYL.out HVN.out)).trans HSY.out
                            have hK7 := HKY.out.grown hg7 HHN.out
                            clear hO7 hg7
                            refine ⟨hS7, ?_⟩
                            go_frame
                            obtain ⟨A7, c7, e7⟩ := HO7.out.form; rw [List.length_append, List.length_singleton] at e7; subst e7
                            refine takeH 15 121 (.pointer (some ⟨w2.heap.size, 3, none⟩)) rfl rfl (by kernel_rfl) (by kernel_rfl) (by kernel_rfl) (fun _ _ _ h => h) rfl (fun w' hS' => by go_simp) hS7 ?_
                            go_frame
                            have d0 := hK7.at (o := 3) rfl
                            have d1 := hK7.free 3
                            have hK8 := hK7.set 3 (.slice A7 (fs.length + 1) c7)
                            have hS8 : (W7.setCell ⟨w2.heap.size, 3, none⟩ (.slice A7 (fs.length + 1) c7)).cell? ⟨wr.heap.size, 0, none⟩ = some (str q1) := ((grown_set W7 ⟨w2.heap.size, 3, none⟩ (.slice A7 (fs.length + 1) c7)).cell hS7 (by first | (show some wr.heap.size ≠ some w2.heap.size; intro e; injection e with e; omega) | (show wr.heap.size ≠ w2.heap.size; omega)))
                            refine wpAnyH_all (rs := [16]) (by kernel_rfl) (by simp) ?_
                            simp only [List.mem_singleton, forall_eq]
                            refine wpOp_storeGr rfl rfl rfl (w' := W7.setCell ⟨w2.heap.size, 3, none⟩ (.slice A7 (fs.length + 1) c7)) (by go_simp) ⟨hS8, ?_⟩
                            refine wpAnyH_done (by kernel_rfl) ?_ _
                            refine NoPanic.normal ?_
                            have HREL := Lib.hid (HEND.out W7 _ HO7.out HG7.out)
                            have HK8 := Lib.hid hK8
                            clear hS7 hK7 d0 d1 hK8 hS8
                            go_wp2_with fail
                            go_roundw
                            case rel => exact ⟨k + 1, fs ++ [(A, trimR B)], _, by omega, by go_num, HSN.out, HK8.out, HREL.out.1, HREL.out.2⟩
                            case measure => simp [intOf]; omega
                          · skip
                            refine wpOp_valueWr 119 rfl rfl rfl (.slice (some ⟨X.heap.size, 0, none⟩) 1 1) Y (by rw [HY.out]; go_simp) ⟨HSY.out, ?_⟩
                            go_frame
                            refine wpAnyH_all (rs := [1]) (by kernel_rfl) (by simp) ?_
                            simp only [List.mem_singleton, forall_eq]
                            refine wpOp_valueD 107 rfl rfl rfl vf (by have c3 := HKY.out.at (o := 3) rfl; go_simp) ⟨HSY.out, ?_⟩
                            go_frame
                            refine wpAnyH_all (rs := [14]) (by kernel_rfl) (by simp) ?_
                            simp only [List.mem_singleton, forall_eq]
                            refine wpOp_appPr 120 rfl rfl rfl (.tmp 107) (.tmp 119) rfl W5.heap.size vf fs rfl HOY.out X.heap.size A (trimR B) rfl HYN.out HFL.out HZY.out ?_
                            intro v7 W7 hO7 hg7
                            have HO7 := Lib.hid hO7; have HG7 := Lib.hid hg7
                            have hS7 : W7.cell? ⟨wr.heap.size, 0, none⟩ = some (str q1) := (World.cell?_of_block (a := ⟨wr.heap.size, 0, none⟩) (hg7.block wr.heap.size HYL.out HVN.out)).trans HSY.out
                            have hK7 := HKY.out.grown hg7 HHN.out
                            clear hO7 hg7
                            refine ⟨hS7, ?_⟩
                            go_frame
                            obtain ⟨A7, c7, e7⟩ := HO7.out.form; rw [List.length_append, List.length_singleton] at e7; subst e7
                            refine takeH 15 121 (.pointer (some ⟨w2.heap.size, 3, none⟩)) rfl rfl (by kernel_rfl) (by kernel_rfl) (by kernel_rfl) (fun _ _ _ h => h) rfl (fun w' hS' => by go_simp) hS7 ?_
                            go_frame
                            have d0 := hK7.at (o := 3) rfl
                            have d1 := hK7.free 3
                            have hK8 := hK7.set 3 (.slice A7 (fs.length + 1) c7)
                            have hS8 : (W7.setCell ⟨w2.heap.size, 3, none⟩ (.slice A7 (fs.length + 1) c7)).cell? ⟨wr.heap.size, 0, none⟩ = some (str q1) := ((grown_set W7 ⟨w2.heap.size, 3, none⟩ (.slice A7 (fs.length + 1) c7)).cell hS7 (by first | (show some wr.heap.size ≠ some w2.heap.size; intro e; injection e with e; omega) | (show wr.heap.size ≠ w2.heap.size; omega)))
                            refine wpAnyH_all (rs := [16]) (by kernel_rfl) (by simp) ?_
                            simp only [List.mem_singleton, forall_eq]
                            refine wpOp_storeGr rfl rfl rfl (w' := W7.setCell ⟨w2.heap.size, 3, none⟩ (.slice A7 (fs.length + 1) c7)) (by go_simp) ⟨hS8, ?_⟩
                            refine wpAnyH_done (by kernel_rfl) ?_ _
                            refine NoPanic.normal ?_
                            have HREL := Lib.hid (HEND.out W7 _ HO7.out HG7.out)
                            have HK8 := Lib.hid hK8
                            clear hS7 hK7 d0 d1 hK8 hS8
                            go_wp2_with fail
                            go_roundw
                            case rel => exact ⟨k + 1, fs ++ [(A, trimR B)], _, by omega, by go_num, HSN.out, HK8.out, HREL.out.1, HREL.out.2⟩
                            case measure => simp [intOf]; omega
                · obtain rfl : k = rest.length := by omega
                  have htk : (rest.map (·.1)).take rest.length = rest.map (·.1) := List.take_of_length_le (by rw [List.length_map]; omega)
                  have hfs := HFS.out
                  rw [htk] at hfs
                  obtain ⟨A3, c3', rfl⟩ := HOF.out.form
                  clear hfl
                  have hkk := HKW.out
                  have e3 := hkk.at (o := 3) rfl
                  by_cases h24 : 24 < fs.length
                  · have HPL4 : Hid (parseL (fun l => (hdA asks l).2.2.2) l = ([], 0, 3)) := Lib.hid (by rw [HPL3.out, hfs]; exact if_pos h24)
                    have h24' : (24 : Int) < (fs.length : Int) := by omega
                    have c0 := hkz.at (o := 0) rfl; have c1 := hkz.at (o := 1) rfl; have c2 := hkz.at (o := 2) rfl; have c3 := hkz.at (o := 3) rfl
                    have f0 := hkz.free 0; have f1 := hkz.free 1; have f2 := hkz.free 2; have f3 := hkz.free 3
                    clear hfs htk hkk h24 hkz
                    go_wp2_with fail
                    exact bodyPost_ret (v := .tuple #[hd4 [] [] 0 (.slice none 0 0), .int .i64 0, .int .i64 3]) (by simp [results, Tryz.results9, go_sem, c0, c1, c2, c3]) rfl (hd_zero asks w l 3 _ (by decide) HPL4.out (hd_low HLW.out))
                  · have HPL4 : Hid (parseL (fun l => (hdA asks l).2.2.2) l = (fs, (N : Int) + 4, 0)) := Lib.hid (by rw [HPL3.out, hfs]; exact if_neg h24)
                    have h24' : ¬ (24 : Int) < (fs.length : Int) := by omega
                    have e0 := hkk.at (o := 0) rfl; have e1 := hkk.at (o := 1) rfl; have e2 := hkk.at (o := 2) rfl
                    have c0 := hkz.at (o := 0) rfl; have c1 := hkz.at (o := 1) rfl; have c2 := hkz.at (o := 2) rfl; have c3 := hkz.at (o := 3) rfl
                    have f0 := hkz.free 0; have f1 := hkz.free 1; have f2 := hkz.free 2; have f3 := hkz.free 3
                    clear hfs htk hkk h24 hkz
                    go_wp2_with fail
                    exact bodyPost_ret (v := .tuple #[hd4 a bb n (.slice A3 fs.length c3'), .int .i64 ((N : Int) + 4), .int .i64 0]) (by simp [results, Tryz.results9, go_sem, c0, c1, c2, c3]) rfl
                      ⟨_, fs, (N : Int) + 4, 0, by rw [if_pos rfl, if_pos rfl, if_pos rfl, show line0 l = l0 from HL0.out, ← HH1.out.1, ← HH1.out.2.1, ← HH1.out.2.2], HPL4.out,
                        ((((HOF.out.set (b := w.heap.size) (i := 0) (by omega) (str a)).set (b := w.heap.size) (i := 1) (by omega) (str bb)).set (b := w.heap.size) (i := 2) (by omega) (.int .i64 n)).set (b := w.heap.size) (i := 3) (by omega) (.slice A3 fs.length c3')).le (by omega), hd_low HLW.out⟩
end Go.Proofs.YtajclihnoedecaaGreatDoor
set_option maxRecDepth 100000
namespace Go.Proofs.YtajclihnoedecaaGreatDoor
open Go.RowKit Go.Shelf
attribute [local go_sem] Oper.semAt_some
theorem law_low {w W : World} {a b c d : Value} {o : Obj} (h : Below w.heap.size w W) (hz : w.heap.size ≤ W.heap.size) : Below w.heap.size w (((((W.setCell ⟨w.heap.size, 0, none⟩ a).setCell ⟨w.heap.size, 1, none⟩ b).setCell ⟨w.heap.size, 2, none⟩ c).setCell ⟨w.heap.size, 3, none⟩ d).alloc o) :=
  (hd_low h).alloc (by simp; omega) o
theorem law_own {w W : World} {a b c d v : Value} {o : Obj} {fs : List (List UInt8 × List UInt8)} (h : OwnP W (w.heap.size + 1) v fs) : OwnP (((((W.setCell ⟨w.heap.size, 0, none⟩ a).setCell ⟨w.heap.size, 1, none⟩ b).setCell ⟨w.heap.size, 2, none⟩ c).setCell ⟨w.heap.size, 3, none⟩ d).alloc o) w.heap.size v fs :=
  (((((h.set (b := w.heap.size) (i := 0) (by omega) a).set (b := w.heap.size) (i := 1) (by omega) b).set (b := w.heap.size) (i := 2) (by omega) c).set (b := w.heap.size) (i := 3) (by omega) d).below ((Below.refl _ _).alloc (Nat.le_refl _) o)).le (by omega)
set_option maxHeartbeats 2000000 in
theorem lawParse_any (asks : Bool) (b o c : Nat) (l : List UInt8) (w : World) (hE : Env w) (hl : Bs w b o l) (hb : b < w.heap.size) (hc : l.length ≤ c) (hc2 : c ≤ 9223372036854775807) (hs : l.length ≤ 5000) :
    Calls Tryz.prog 8 #[.slice (some ⟨b, o, none⟩) l.length c, .bool asks] w (PrsR asks w l) := by
  have hb1 : Below w.heap.size w (w.alloc (.cells #[str [], str [], .int .i64 0, .slice none 0 0] 29)) := (Below.refl _ w).alloc (Nat.le_refl _) _
  have hk1 := Blk.new w [str [], str [], .int .i64 0, .slice none 0 0] 29
  rw [show [str [], str [], Value.int .i64 0, .slice none 0 0].toArray = #[str [], str [], .int .i64 0, .slice none 0 0] from rfl] at hk1
  have HR := Lib.hid (request_any b o c l _ (hE.below hb1) (hl.below hb1 hb) (by simp; omega) hc hc2 hs)
  have HA := Lib.hid (answer_any b o c l _ (hE.below hb1) (hl.below hb1 hb) (by simp; omega) hc hc2 hs)
  have HK1 := Lib.hid hk1
  have HB1 := Lib.hid hb1
  clear hb1 hk1 hE hl
  cases asks
  · go_enter Tryz.func8, Tryz.ntmps8
    go_wp2_with fail
    refine HA.out.mono ?_
    rintro e w3 ⟨v, fs, n, x, rfl, hp, hO, hB⟩
    obtain ⟨st, hst⟩ : ∃ st : Int, st = if x = 0 then (ansT (line0 l)).1 else 0 := ⟨_, rfl⟩
    obtain ⟨B, hBB⟩ : ∃ B, B = if x = 0 then (ansT (line0 l)).2.1 else [] := ⟨_, rfl⟩
    rw [← hst, ← hBB]
    have HST := Lib.hid hst; have HBB := Lib.hid hBB
    have hsz := hB.size
    simp only [World.size_alloc] at hsz hO
    obtain ⟨VA, VC, rfl⟩ := hO.form
    have hkr := HK1.out.below hB (by simp)
    have HB3 := Lib.hid (HB1.out.trans (hB.mono (by simp)))
    have HO := Lib.hid hO; have HP := Lib.hid hp
    have q0 := hkr.at (o := 0) rfl
    have q1 := hkr.at (o := 1) rfl
    have q2 := hkr.at (o := 2) rfl
    have q3 := hkr.at (o := 3) rfl
    have r0 := hkr.free 0
    have r1 := hkr.free 1
    have r2 := hkr.free 2
    have r3 := hkr.free 3
    have hlt : w.heap.size < w3.heap.size := hkr.lt
    clear hkr hB HR HA hsz hst hBB hO hp
    go_wp2_with fail
    exact bodyPost_ret (v := .tuple #[.agg #[str B, str [], .int .i64 st, .slice VA fs.length VC], .int .i64 n, .int .i64 x]) (by simp [results, Tryz.results8, go_sem, q0, q1, q2, q3, hlt]) rfl
      ⟨_, fs, n, x, by rw [HST.out, HBB.out]; by_cases hx : x = 0 <;> simp [hx, hdA], HP.out, law_own HO.out, law_low HB3.out (by omega)⟩
  · go_enter Tryz.func8, Tryz.ntmps8
    go_wp2_with fail
    refine HR.out.mono ?_
    rintro e w3 ⟨v, fs, n, x, rfl, hp, hO, hB⟩
    obtain ⟨A, hst⟩ : ∃ A, A = if x = 0 then (reqT (line0 l)).1 else [] := ⟨_, rfl⟩
    obtain ⟨B, hBB⟩ : ∃ B, B = if x = 0 then (reqT (line0 l)).2.1 else [] := ⟨_, rfl⟩
    rw [← hst, ← hBB]
    have HST := Lib.hid hst; have HBB := Lib.hid hBB
    have hsz := hB.size
    simp only [World.size_alloc] at hsz hO
    obtain ⟨VA, VC, rfl⟩ := hO.form
    have hkr := HK1.out.below hB (by simp)
    have HB3 := Lib.hid (HB1.out.trans (hB.mono (by simp)))
    have HO := Lib.hid hO; have HP := Lib.hid hp
    have q0 := hkr.at (o := 0) rfl
    have q1 := hkr.at (o := 1) rfl
    have q2 := hkr.at (o := 2) rfl
    have q3 := hkr.at (o := 3) rfl
    have r0 := hkr.free 0
    have r1 := hkr.free 1
    have r2 := hkr.free 2
    have r3 := hkr.free 3
    have hlt : w.heap.size < w3.heap.size := hkr.lt
    clear hkr hB HR HA hsz hst hBB hO hp
    go_wp2_with fail
    exact bodyPost_ret (v := .tuple #[.agg #[str A, str B, .int .i64 0, .slice VA fs.length VC], .int .i64 n, .int .i64 x]) (by simp [results, Tryz.results8, go_sem, q0, q1, q2, q3, hlt]) rfl
      ⟨_, fs, n, x, by rw [HST.out, HBB.out]; by_cases hx : x = 0 <;> simp [hx, hdA], HP.out, law_own HO.out, law_low HB3.out (by omega)⟩
set_option maxHeartbeats 1000000 in
theorem refParse_nil (asks : Bool) (w : World) : Calls Tryz.prog 9 #[.slice none 0 0, .bool asks] w (PrsR asks w []) := by
  have HPL : Hid (parseL (fun l => (hdA asks l).2.2.2) [] = ([], 0, 2)) := Lib.hid (by
    unfold parseL
    rw [if_pos (show endL [] = -1 from by unfold endL; rfl)]; rfl)
  have hk0 := Blk.new w [str [], str [], .int .i64 0, .slice none 0 0] 29
  go_enter Tryz.func9, Tryz.ntmps9
  go_wp2_with fail
  go_loop [7, 8] (fun e i => e = .int .i64 (-1) ∧ i = .int .i64 0) (fun _ _ => 0)
  case atStart => exact ⟨rfl, rfl⟩
  case round =>
    obtain ⟨rfl, rfl⟩ := hrel
    go_wp2_with fail
    exact bodyPost_ret (v := .tuple #[hd4 [] [] 0 (.slice none 0 0), .int .i64 0, .int .i64 2]) (by simp [results, Tryz.results9, go_sem]) rfl (hd_zero asks w [] 2 _ (by decide) HPL.out ((Below.refl _ w).alloc (Nat.le_refl _) _))
end Go.Proofs.YtajclihnoedecaaGreatDoor
set_option maxRecDepth 100000
namespace Go.Proofs.YtajclihnoedecaaGreatDoor
open Go.RowKit Go.Shelf
attribute [local go_sem] Oper.semAt_some
theorem parseL_few (st : List UInt8 → Bool) (p : List UInt8) (fs : List (List UInt8 × List UInt8)) (n x : Int) (h : parseL st p = (fs, n, x)) : fs.length ≤ 24 := by
  unfold parseL at h
  split at h
  · cases h; simp
  · split at h
    · cases h; simp
    · split at h
      · cases h; simp
      · split at h
        · cases h; simp
        · cases h; omega
theorem ownP_cells {W : World} {base : Nat} {v : Value} {xs : List (List UInt8 × List UInt8)} (h : OwnP W base v xs) : ∃ A c, v = .slice A xs.length c ∧ ∀ j (hj : j < xs.length), ∃ g, A = some ⟨g, 0, none⟩ ∧ W.cell? ⟨g, j * 2, none⟩ = some (str xs[j].1) ∧ W.cell? ⟨g, j * 2 + 1, none⟩ = some (str xs[j].2) := by
  rcases h.cells with rfl | ⟨g, cap, rfl, _, hc⟩
  · obtain ⟨A, c, rfl⟩ := h.form
    exact ⟨A, c, rfl, fun j hj => by simp at hj⟩
  · exact ⟨_, _, rfl, fun j hj => ⟨g, rfl, hc j hj⟩⟩
set_option maxHeartbeats 1000000 in
theorem sameHd_any (A B : List UInt8) (st : Int) (v1 v2 : Value) (b1 b2 : Nat) (fs : List (List UInt8 × List UInt8)) (w : World) (h1 : OwnP w b1 v1 fs) (h2 : OwnP w b2 v2 fs) (hl : fs.length ≤ 24) :
    Calls Tryz.prog 10 #[hd4 A B st v1, hd4 A B st v2] w fun e w' => e = .returned (.bool true) ∧ Below w.heap.size w w' := by
  obtain ⟨A1, c1, rfl, hc1⟩ := ownP_cells h1
  obtain ⟨A2, c2, rfl, hc2⟩ := ownP_cells h2
  obtain ⟨W2, hW2⟩ : ∃ W, W = (w.alloc (.cells #[str A, str B, .int .i64 st, .slice A1 fs.length c1] 29)).alloc (.cells #[str A, str B, .int .i64 st, .slice A2 fs.length c2] 29) := ⟨_, rfl⟩
  have hb : Below w.heap.size w W2 := by rw [hW2]; exact ((Below.refl _ w).alloc (Nat.le_refl _) _).alloc (by simp) _
  have hk1 : Blk W2 w.heap.size [str A, str B, .int .i64 st, .slice A1 fs.length c1] := by rw [hW2]; exact (Blk.new w _ _).alloc _
  have hk2 : Blk W2 (w.heap.size + 1) [str A, str B, .int .i64 st, .slice A2 fs.length c2] := by
    rw [hW2]
    have := Blk.new (w.alloc (.cells #[str A, str B, .int .i64 st, .slice A1 fs.length c1] 29)) [str A, str B, .int .i64 st, .slice A2 fs.length c2] 29
    rwa [World.size_alloc] at this
  have HK1 := Lib.hid hk1; have HK2 := Lib.hid hk2; have HB := Lib.hid hb
  have HC1 : Hid (∀ j (hj : j < fs.length), ∃ g, A1 = some ⟨g, 0, none⟩ ∧ W2.cell? ⟨g, j * 2, none⟩ = some (str fs[j].1) ∧ W2.cell? ⟨g, j * 2 + 1, none⟩ = some (str fs[j].2)) := Lib.hid (fun j hj => by
    obtain ⟨g, e, x, y⟩ := hc1 j hj
    exact ⟨g, e, cell_below x hb, cell_below y hb⟩)
  have HC2 : Hid (∀ j (hj : j < fs.length), ∃ g, A2 = some ⟨g, 0, none⟩ ∧ W2.cell? ⟨g, j * 2, none⟩ = some (str fs[j].1) ∧ W2.cell? ⟨g, j * 2 + 1, none⟩ = some (str fs[j].2)) := Lib.hid (fun j hj => by
    obtain ⟨g, e, x, y⟩ := hc2 j hj
    exact ⟨g, e, cell_below x hb, cell_below y hb⟩)
  clear hk1 hk2 hb hc1 hc2 h1 h2
  go_enter Tryz.func10, Tryz.ntmps10
  go_wp2_with fail
  rw [← hW2]
  clear hW2
  go_loopw [37] (fun i wr => ∃ k : Nat, k ≤ fs.length ∧ i = .int .i64 (k : Int) ∧ ∃ m, wr = W2.drewN m) (fun i _ => fs.length - (intOf i).toNat)
  case atStart => exact ⟨0, by omega, rfl, 0, rfl⟩
  case round =>
    obtain ⟨k, hk, rfl, m, rfl⟩ := hrel
    have hka := HK1.out.drewN m
    have hkb := HK2.out.drewN m
    have a3 := hka.at (o := 3) rfl
    have b3 := hkb.at (o := 3) rfl
    have a3' := HK1.out.at (o := 3) rfl
    have b3' := HK2.out.at (o := 3) rfl
    by_cases hlt : k < fs.length
    · obtain ⟨g1, rfl, x1, y1⟩ := HC1.out k hlt
      obtain ⟨g2, rfl, x2, y2⟩ := HC2.out k hlt
      obtain ⟨q, hq⟩ : ∃ q, q = fs[k] := ⟨_, rfl⟩
      rw [← hq] at x1 y1 x2 y2
      clear hq
      obtain ⟨q1, q2⟩ := q
      simp only at x1 y1 x2 y2
      have x1' : (W2.drewN m).cell? ⟨g1, k * 2, none⟩ = some (str q1) := x1
      have y1' : (W2.drewN m).cell? ⟨g1, k * 2 + 1, none⟩ = some (str q2) := y1
      have x2' : (W2.drewN m).cell? ⟨g2, k * 2, none⟩ = some (str q1) := x2
      have y2' : (W2.drewN m).cell? ⟨g2, k * 2 + 1, none⟩ = some (str q2) := y2
      clear hka hkb
      go_wp2_with fail
      go_quiet (fail)
      go_wp2_with fail
      go_roundw
      case rel => exact ⟨k + 1, by omega, by go_num, _, rfl⟩
      case measure => simp [intOf]; omega
    · obtain rfl : k = fs.length := by omega
      clear hka hkb
      go_wp2_with fail
      go_ret
      exact ⟨rfl, below_drewN HB.out m⟩
theorem own_seven {W : World} {base : Nat} {v : Value} {p : List UInt8} (h : OwnB W base v (p ++ [7])) : ∃ g c, v = .slice (some ⟨g, 0, none⟩) (p.length + 1) c ∧ base ≤ g ∧ g < W.heap.size ∧ p.length + 1 ≤ c ∧ c ≤ 9223372036854775807 ∧ Bs W g 0 p ∧ W.cell? ⟨g, p.length, none⟩ = some (.int .u8 7) := by
  have hl : (p ++ [(7 : UInt8)]).length = p.length + 1 := by simp
  rcases h.parts with ⟨_, h0⟩ | ⟨g, cap, rfl, hb, hg, hc, hm, hbs, _⟩
  · simp at h0
  · rw [hl] at hc ⊢
    refine ⟨g, cap, rfl, hb, hg, hc, by unfold maxLen at hm; omega, ?_, ?_⟩
    · have := hbs.take p.length
      rwa [List.take_left' rfl] at this
    · have := hbs p.length (by omega)
      rw [Nat.zero_add] at this
      rw [this]
      simp; rfl
set_option maxHeartbeats 4000000 in
theorem headReads_law (B0 : Nat) (v : Value) (l : List UInt8) (w : World) (hv : Sl w B0 v l) (hB : B0 ≤ w.heap.size) (hE : Env w) :
    Calls Tryz.prog 3 #[v] w fun e w' => e = .returned (.bool true) ∧ Below w.heap.size w w' := by
  have HV := Lib.hid hv; have HE := Lib.hid hE; have HBB := Lib.hid hB
  clear hE
  obtain ⟨Av, cv, rfl, _, _, _, _⟩ := hv
  have HAW := Lib.hid (awake9 w HE.out)
  go_enter Tryz.func3, Tryz.ntmps3
  go_wp2_with fail
  refine HAW.out.mono ?_
  rintro e w1 ⟨rfl, hB1⟩
  have HB1 := Lib.hid hB1; clear hB1 HAW
  go_wp2_with fail
  refine (cut_any B0 _ l 4200 w1 (HV.out.below HB1.out hB) (Nat.le_trans hB HB1.out.size) (by omega) (by omega)).mono ?_
  rintro e w2 ⟨v0, rfl, hO2, hB2⟩
  obtain ⟨p, hp⟩ : ∃ p, p = l.take (4200 : Int).toNat := ⟨_, rfl⟩
  rw [← hp] at hO2
  have hpl : p.length ≤ 4200 := by rw [hp, List.length_take]; omega
  have HLOW2 := Lib.hid (HB1.out.trans (hB2.mono HB1.out.size))
  have HS0 := Lib.hid hO2.sl
  have HRP : Hid (∀ (asks : Bool) (W : World), Below w2.heap.size w2 W → Calls Tryz.prog 9 #[v0, .bool asks] W (PrsR asks W p)) := Lib.hid (fun asks W hW => by
    rcases hO2.parts with ⟨rfl, rfl⟩ | ⟨g, cap, rfl, _, hg, hc, hm, hbs, _⟩
    · exact refParse_nil asks W
    · exact refParse_any asks g 0 cap p W (hbs.below hW hg) (Nat.lt_of_lt_of_le hg hW.size) hc (by unfold maxLen at hm; omega) (by omega))
  obtain ⟨A0, c0, rfl, _, hc0, _, _⟩ := id hO2.sl
  have HEN := Lib.hid (HE.out.below HLOW2.out)
  have hz0 : w.heap.size ≤ w2.heap.size := HLOW2.out.size
  clear hO2 hB2 hp
  go_wp2_with fail
  obtain ⟨W3, hW3⟩ : ∃ W, W = w2.alloc (.cells #[.bool true, .bool false] 4) := ⟨_, rfl⟩
  have hb3 : Below w2.heap.size w2 W3 := by rw [hW3]; exact (Below.refl _ w2).alloc (Nat.le_refl _) _
  have hk3 : Blk W3 w2.heap.size [.bool true, .bool false] := by rw [hW3]; exact Blk.new w2 _ _
  have HB3 := Lib.hid hb3; have HK3 := Lib.hid hk3
  have hz3 : W3.heap.size = w2.heap.size + 1 := by rw [hW3]; simp
  rw [← hW3]
  clear hb3 hk3 hW3
  go_loopw [18] (fun i wr => ∃ k : Nat, k ≤ 2 ∧ i = .int .i64 (k : Int) ∧ Below W3.heap.size W3 wr) (fun i _ => 2 - (intOf i).toNat)
  case atStart => exact ⟨0, by omega, rfl, Below.refl _ _⟩
  case round =>
    obtain ⟨k, hk, rfl, hbr⟩ := hrel
    have hzr := hbr.size
    have HBR := Lib.hid (HB3.out.trans (hbr.mono (by omega)))
    have hkr := HK3.out.below hbr (by omega)
    have HBW := Lib.hid hbr
    clear hbr
    by_cases hlt : k < 2
    · obtain ⟨asks, hck⟩ : ∃ asks, wr.cell? ⟨w2.heap.size, k, none⟩ = some (.bool asks) := by
        rcases (show k = 0 ∨ k = 1 by omega) with rfl | rfl
        · exact ⟨_, hkr.at (o := 0) rfl⟩
        · exact ⟨_, hkr.at (o := 1) rfl⟩
      have hk2 : (k : Int) < 2 := by omega
      have HCP := Lib.hid (copy_any w2.heap.size _ p wr (HS0.out.below HBR.out (Nat.le_refl _)) HBR.out.size (by omega))
      clear hkr
      go_wp2_with fail
      refine HCP.out.mono ?_
      rintro e w4 ⟨vq, rfl, hOq, hBq⟩
      have hz4 := hBq.size
      have HOA := Lib.hid (hOq.below ((Below.refl w4.heap.size w4).alloc (Nat.le_refl _) (.cells #[.int .u8 7] 5)))
      have HS7 := Lib.hid (Sl.newA w4 #[.int .u8 7] 5 [7] (b := w4.heap.size) (n := 1) (B := w4.heap.size + 1) rfl rfl rfl (by omega) (by simp))
      have HB4 := Lib.hid (hBq.alloc hz4 (.cells #[.int .u8 7] 5))
      have hzB : wr.heap.size ≤ (w4.alloc (.cells #[.int .u8 7] 5)).heap.size := by simp; omega
      have HPL : Hid (p.length + 1 ≤ 1099511627776) := Lib.hid (by omega)
      clear hOq hBq HCP
      go_wp2_with (at_builtin; ((with_reducible refine wpList_app_sl ?g1 (.tmp 23) (.tmp 24) ?g2 wr.heap.size vq p [7] ?g3 ?g4 (w4.heap.size + 1) (.slice (some ⟨w4.heap.size, 0, none⟩) 1 1) ?g5 ?g6 ?g7 ?g8 ?_); (case g1 => rfl); (case g2 => rfl); (case g3 => rfl); (case g4 => exact HOA.out); (case g5 => rfl); (case g6 => exact HS7.out); (case g7 => exact HPL.out); (case g8 => exact hzB); intro v5 w5 hv5 hg5; have HB5 := Lib.hid (HB4.out.trans (HOA.out.belowBase hg5 hzB)); obtain ⟨g5, c5, rfl, hgb5, hgl5, hc5, hm5, hbs5, hce5⟩ := own_seven hv5; have hsl1 := fun W => slice_h (some ⟨g5, 0, none⟩) (p.length + 1) c5 p.length (by omega) W; have hsl2 := fun W => slice_h (some ⟨g5, 0, none⟩) p.length c5 (p.length + 1) hc5 W; have HBS5 := Lib.hid hbs5; have HCE5 := Lib.hid hce5; clear hv5 hg5 hbs5 hce5))
      have HE5 := Lib.hid (HEN.out.below ((HBR.out.trans (HB5.out.mono HBR.out.size)).mono (Nat.le_refl _)))
      have HPA := Lib.hid (lawParse_any asks g5 0 c5 p w5 HE5.out HBS5.out hgl5 (by omega) hm5 (by omega))
      go_wp2_with fail
      refine HPA.out.mono ?_
      rintro e w6 ⟨va, fs, n, x, rfl, hp1, hO1, hB6⟩
      obtain ⟨a1, ha1⟩ : ∃ a1, a1 = if x = 0 then (hdA asks (line0 p)).1 else [] := ⟨_, rfl⟩
      obtain ⟨b1, hb1⟩ : ∃ b1, b1 = if x = 0 then (hdA asks (line0 p)).2.1 else [] := ⟨_, rfl⟩
      obtain ⟨s1, hs1⟩ : ∃ s1, s1 = if x = 0 then (hdA asks (line0 p)).2.2.1 else 0 := ⟨_, rfl⟩
      rw [← ha1, ← hb1, ← hs1]
      have HA1 := Lib.hid ha1; have HB1' := Lib.hid hb1; have HS1 := Lib.hid hs1
      have hz5 := HB5.out.size
      have hz6 := hB6.size
      have HB6 := Lib.hid (HB5.out.trans (hB6.mono hz5))
      have HP1 := Lib.hid hp1
      have hbw7 : Below w6.heap.size w6 (w6.alloc (.cells #[str a1, str b1, .int .i64 s1, va] 29)) := (Below.refl _ _).alloc (Nat.le_refl _) _
      have hk6 := Blk.new w6 [str a1, str b1, .int .i64 s1, va] 29
      have HRP7 := Lib.hid (HRP.out asks (w6.alloc (.cells #[str a1, str b1, .int .i64 s1, va] 29)) ((HBR.out.trans (HB6.out.mono HBR.out.size)).trans (hbw7.mono (by have := HBR.out.size; omega))))
      have HO1 := Lib.hid (hO1.below hbw7)
      have HBS7 := Lib.hid ((HBS5.out.below hB6 hgl5).below hbw7 (by omega))
      have HCE7 := Lib.hid ((hbw7.cell (p := ⟨g5, p.length, none⟩) (by show g5 < w6.heap.size; omega)).trans ((hB6.cell (p := ⟨g5, p.length, none⟩) hgl5).trans HCE5.out))
      have HK6 := Lib.hid hk6
      have HB7 := Lib.hid (HB6.out.trans (hbw7.mono (by omega)))
      obtain ⟨Aa, ca, rfl⟩ := hO1.form
      clear ha1 hb1 hs1 hp1 hO1 hB6 hk6 hbw7 HPA
      go_wp2_with fail
      refine HRP7.out.mono ?_
      rintro e w8 ⟨vb, fs', n', x', rfl, hp2, hO2, hB8⟩
      rw [HP1.out] at hp2
      injection hp2 with e1 hp2
      injection hp2 with e2 e3
      subst e1 e2 e3
      rw [← HA1.out, ← HB1'.out, ← HS1.out]
      obtain ⟨Ab, cb, rfl⟩ := hO2.form
      have hz8 := hB8.size
      simp only [World.size_alloc] at hz8
      have hk8 := (HK6.out.below hB8 (by simp)).alloc (.cells #[str a1, str b1, .int .i64 s1, .slice Ab fs.length cb] 29)
      have q0 := hk8.at (o := 0) rfl; have q1 := hk8.at (o := 1) rfl; have q2 := hk8.at (o := 2) rfl; have q3 := hk8.at (o := 3) rfl
      have hbw9 : Below w8.heap.size w8 (w8.alloc (.cells #[str a1, str b1, .int .i64 s1, .slice Ab fs.length cb] 29)) := (Below.refl _ _).alloc (Nat.le_refl _) _
      have HO1b := Lib.hid ((HO1.out.below hB8).below hbw9)
      have HO2b := Lib.hid (hO2.below hbw9)
      have HBS9 := Lib.hid ((HBS7.out.below hB8 (by simp; omega)).below hbw9 (by omega))
      have HCE9 := Lib.hid ((hbw9.cell (p := ⟨g5, p.length, none⟩) (by show g5 < w8.heap.size; omega)).trans ((hB8.cell (p := ⟨g5, p.length, none⟩) (by show g5 < (w6.alloc _).heap.size; simp; omega)).trans HCE7.out))
      have HB9 := Lib.hid ((HB7.out.trans (hB8.mono (by simp; omega))).trans (hbw9.mono (by omega)))
      have HSM := Lib.hid (sameHd_any a1 b1 s1 _ _ _ _ fs _ HO1b.out HO2b.out (parseL_few _ _ _ _ _ HP1.out))
      have hlw9 : w6.heap.size < w8.heap.size := by omega
      clear hk8 hO2 hB8 hbw9 HRP7
      go_wp2_with fail
      refine HSM.out.mono ?_
      rintro e w10 ⟨rfl, hB10⟩
      have hg10 : g5 < (w8.alloc (.cells #[str a1, str b1, .int .i64 s1, .slice Ab fs.length cb] 29)).heap.size := by simp; omega
      have hbs10 := HBS9.out.below hB10 hg10
      have hce10 := (hB10.cell (p := ⟨g5, p.length, none⟩) hg10).trans HCE9.out
      have HB10 := Lib.hid (HB9.out.trans (hB10.mono (by simp; omega)))
      have hS1 : Sl w10 (g5 + 1) (.slice (some ⟨g5, 0, none⟩) p.length c5) p := ⟨_, c5, rfl, (fun h => by cases h), by omega, hm5, fun _ => ⟨g5, 0, rfl, by omega, hbs10⟩⟩
      have HSQ := Lib.hid (same_true _ _ _ _ p w10 hS1 (HS0.out.below (HBR.out.trans (HB10.out.mono HBR.out.size)) (Nat.le_refl _)))
      have hsl3 := hsl2 w10
      rw [show ((p.length + 1 : Nat) : Int) = (p.length : Int) + 1 by omega] at hsl3
      have hw1 : IntKind.i64.wrap ((p.length : Int) + 1) = (p.length : Int) + 1 := IntWalk.i64_in _ (by omega)
      clear hbs10 hS1 hsl1 hsl2 HSM hB10 q0 q1 q2 q3
      go_wp2_with fail
      refine HSQ.out.mono ?_
      rintro e w11 ⟨rfl, rfl⟩
      go_wp2_with fail
      go_roundw
      case rel => exact ⟨k + 1, by omega, by go_num, HBW.out.trans (HB10.out.mono (by omega))⟩
      case measure => simp [intOf]; omega
    · obtain rfl : k = 2 := by omega
      have HFIN := Lib.hid (HLOW2.out.trans (HBR.out.mono hz0))
      go_wp2_with fail
      go_ret
      exact ⟨rfl, HFIN.out⟩
end Go.Proofs.YtajclihnoedecaaGreatDoor
