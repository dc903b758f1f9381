/- Pairs that lie in memory; the reference's Get; head.Get and its iterator. -/
import Derived.Test.YtgipbkopndghdaaDoorHdPar
import Derived.Test.YtgipbkopndghdaaDoorHdLow
set_option maxRecDepth 100000
namespace Go.Proofs.YtgipbkopndghdaaDoor
open Go.RowKit Go.Shelf
attribute [local go_sem] Oper.semAt_some
abbrev Prs : Type := List (List UInt8 × List UInt8)
/-- Pairs that lie in memory. -/
def PrIn (W : World) (v : Value) (xs : Prs) : Prop :=
  ∃ A c, v = .slice A xs.length c ∧ xs.length ≤ c ∧ c ≤ 9223372036854775807 ∧ ∀ k (hk : k < xs.length), ∃ g o, A = some ⟨g, o, none⟩ ∧ W.cell? ⟨g, o + k * 2, none⟩ = some (str (xs[k]'hk).1) ∧ W.cell? ⟨g, o + k * 2 + 1, none⟩ = some (str (xs[k]'hk).2)
theorem prc_at : ∀ (xs : Prs) (k : Nat) (hk : k < xs.length), (prc xs)[k * 2]? = some (str (xs[k]'hk).1) ∧ (prc xs)[k * 2 + 1]? = some (str (xs[k]'hk).2)
  | [], k, hk => by simp at hk
  | x :: t, 0, hk => ⟨rfl, rfl⟩
  | x :: t, k + 1, hk => by
    have ih := prc_at t k (by simpa using hk)
    have e : prc (x :: t) = str x.1 :: str x.2 :: prc t := rfl
    rw [e, show (k + 1) * 2 = k * 2 + 1 + 1 by omega, List.getElem?_cons_succ, List.getElem?_cons_succ, List.getElem?_cons_succ, List.getElem?_cons_succ]
    exact ih
theorem OwnP.prIn {W : World} {base : Nat} {v : Value} {xs : Prs} (h : OwnP W base v xs) : PrIn W v xs := by
  obtain ⟨h1, ⟨h2, h3⟩ | ⟨g, cap, cur, h0, hb, hg, hc, hm, h3⟩⟩ := id h
  · have hx : xs = [] := List.eq_nil_of_length_eq_zero h3
    subst hx
    exact ⟨none, 0, h2, by simp, by omega, fun k hk => by simp at hk⟩
  · refine ⟨_, cap, h0, hc, by unfold maxLen at hm; omega, fun k hk => ⟨g, 0, rfl, ?_, ?_⟩⟩
    · have := World.ownsRow.cells h (g := g) (by rw [h0]; rfl) (k * 2) _ (prc_at xs k hk).1
      rwa [Addr.add_lit] at this
    · have := World.ownsRow.cells h (g := g) (by rw [h0]; rfl) (k * 2 + 1) _ (prc_at xs k hk).2
      rwa [Addr.add_lit] at this
theorem PrIn.below {W W' : World} {v : Value} {xs : Prs} (h : PrIn W v xs) (hb : Below W.heap.size W W') : PrIn W' v xs := by
  obtain ⟨A, c, e, h1, h2, h⟩ := h
  refine ⟨A, c, e, h1, h2, fun k hk => ?_⟩
  obtain ⟨g, o, hg, h1, h2⟩ := h k hk
  exact ⟨g, o, hg, cell_below h1 hb, cell_below h2 hb⟩
/-- The values of a name. -/
def getL (xs : Prs) (n : List UInt8) : List (List UInt8) := (xs.filter (fun x => foldB x.1 n)).map (·.2)
theorem getL_snoc (xs : Prs) (x : List UInt8 × List UInt8) (n : List UInt8) : getL (xs ++ [x]) n = getL xs n ++ (if foldB x.1 n then [x.2] else []) := by
  unfold getL
  rw [List.filter_append, List.map_append]
  cases h : foldB x.1 n <;> simp [h]
theorem getL_len (xs : Prs) (n : List UInt8) : (getL xs n).length ≤ xs.length := by
  unfold getL; rw [List.length_map]; exact List.length_filter_le _ _
theorem wpList_appT1 {w : World} {ops : Array Oper} {rest : List Oper} {o : Oper} {a : Act} {Q : Exit → Act → World → Prop} (hgd : o.guard = none) (s x : Operand) (ho : o.op = .call { callee := .builtin .append, args := #[s, x], argTypes := #[39, 39] })
    (base : Nat) (v : Value) (l : List (List UInt8)) (y : List UInt8) (hs : a.eval s = v) (hown : OwnT w base v l) (gb : Nat) (hx : a.eval x = .slice (some ⟨gb, 0, none⟩) 1 1)
    (hnew : w.heap[gb]? = some (.cells #[str y] 9 (0, 0))) (hn : l.length ≤ 100000) (hbase : base ≤ w.heap.size)
    (h : ∀ v' w', OwnT w' base v' (l ++ [y]) → w.grownBy w' v.ownBlock → wpList Tryd.prog ops Q rest (a.put o.dst v') w') : wpList Tryd.prog ops Q (o :: rest) a w :=
  wpList_appT hgd s x ho base v l y hs hown gb 1 hx (by
    have := World.news_of_block (B := gb) hnew 0 (str y) rfl
    simpa [Addr.add_mid] using this) (by omega) hbase h
set_option maxHeartbeats 1000000 in
theorem refGet_any (v : Value) (xs : Prs) (n : List UInt8) (w : World) (hv : PrIn w v xs) (hl : xs.length ≤ 1000) (hs : ∀ x ∈ xs, x.1.length ≤ 1000) (hn : n.length ≤ 1000) :
    Calls Tryd.prog 14 #[v, str n] w fun e w' => ∃ v', e = .returned v' ∧ OwnT w' w.heap.size v' (getL xs n) ∧ Below w.heap.size w w' := by
  have HV := Lib.hid hv
  obtain ⟨A, c, rfl, hq⟩ := hv
  clear hq
  go_enter Tryd.func14, Tryd.ntmps14
  go_wp2_with fail
  go_loopw [5, 10] (fun v i wr => ∃ k : Nat, k ≤ xs.length ∧ i = .int .i64 (k : Int) ∧ OwnT wr w.heap.size v (getL (xs.take k) n) ∧ Below w.heap.size w wr) (fun _ i _ => xs.length - (intOf i).toNat)
  case atStart => exact ⟨0, by omega, rfl, OwnT.nil _ _, Below.refl _ _⟩
  case round =>
    obtain ⟨k, hk, rfl, hO, hb⟩ := hrel
    by_cases hlt : k < xs.length
    · obtain ⟨A', c', he, _, _, hin⟩ := HV.out.below hb
      injection he with he1 he2 he3
      subst he1 he3
      obtain ⟨g, o, rfl, c0, c1⟩ := hin k hlt
      clear hin he2
      have hts : getL (xs.take (k + 1)) n = getL (xs.take k) n ++ (if foldB xs[k].1 n then [xs[k].2] else []) := by rw [take_snocG xs k hlt, getL_snoc]
      have hs1 := hs xs[k] (List.getElem_mem hlt)
      have hgl := getL_len (xs.take k) n
      rw [List.length_take] at hgl
      obtain ⟨x, hx⟩ : ∃ x, x = xs[k] := ⟨_, rfl⟩
      rw [← hx] at c0 c1 hts hs1
      clear hx
      obtain ⟨q, r⟩ := x
      simp only at c0 c1 hts hs1
      obtain ⟨L, hL⟩ : ∃ L, L = getL (xs.take k) n := ⟨_, rfl⟩
      rw [← hL] at hO hts hgl
      have hll : L.length ≤ 100000 := by omega
      have hzr := hb.size
      have hb2 : Below w.heap.size w (wr.alloc (.cells #[str q, str r] 37)) := hb.alloc hzr _
      have HF := Lib.hid (refFold_any q n (wr.alloc (.cells #[str q, str r] 37)) (by omega) (by omega))
      have HTS := Lib.hid hts
      have HO := Lib.hid (hO.below ((Below.refl wr.heap.size wr).alloc (Nat.le_refl _) (.cells #[str q, str r] 37)))
      have HB2 := Lib.hid hb2
      clear hL hO hts hb hb2 hgl
      cases hf : foldB q n with
      | false =>
        rw [hf] at HF HTS
        clear hf
        go_wp2_with fail
        refine HF.out.mono ?_
        rintro e w3 ⟨rfl, m, rfl⟩
        clear HF
        go_wp2_with fail
        go_roundw
        case rel => exact ⟨k + 1, by omega, by go_num, by rw [HTS.out]; simpa using HO.out.below (belowN m), below_drewN HB2.out m⟩
        case measure => simp [intOf]; omega
      | true =>
        rw [hf] at HF HTS
        clear hf
        have HOW := Lib.hid (fun m => (HO.out.below (belowN m)).below ((Below.refl _ ((wr.alloc (.cells #[str q, str r] 37)).drewN m)).alloc (Nat.le_refl _) (.cells #[str r] 9)))
        have HNW := Lib.hid (fun m => heap_alloc_new ((wr.alloc (.cells #[str q, str r] 37)).drewN m) (.cells #[str r] 9))
        go_wp2_with fail
        refine HF.out.mono ?_
        rintro e w3 ⟨rfl, m, rfl⟩
        clear HF
        have hzA : w.heap.size ≤ (((wr.alloc (.cells #[str q, str r] 37)).drewN m).alloc (.cells #[str r] 9)).heap.size := by simp; omega
        have HNW2 := Lib.hid (HNW.out m)
        have hdz : ((wr.alloc (.cells #[str q, str r] 37)).drewN m).heap.size = wr.heap.size + 1 := by simp
        rw [hdz] at HNW2
        clear hdz
        go_wp2_with (at_builtin; (refine wpList_appT1 rfl (.tmp 18) (.tmp 21) rfl w.heap.size u5 L r rfl (HOW.out m) (wr.heap.size + 1) rfl HNW2.out hll hzA ?_); intro v5 A1 hO5 hg5; have HO5 := Lib.hid hO5; have HB5 := Lib.hid (((below_drewN HB2.out m).alloc (by simp; omega) (.cells #[str r] 9)).grown hg5 hzA (fun k hk => ((HOW.out m).lt k hk).1)); clear hO5 hg5)
        go_roundw
        case rel => exact ⟨k + 1, by omega, by go_num, by rw [HTS.out]; exact HO5.out, HB5.out⟩
        case measure => simp [intOf]; omega
    · have htk : xs.take k = xs := List.take_of_length_le (by omega)
      rw [htk] at hO
      have HO := Lib.hid hO
      have HB := Lib.hid hb
      clear htk hO hb
      go_wp2_with fail
      go_ret
      exact ⟨_, rfl, HO.out, HB.out⟩
end Go.Proofs.YtgipbkopndghdaaDoor
