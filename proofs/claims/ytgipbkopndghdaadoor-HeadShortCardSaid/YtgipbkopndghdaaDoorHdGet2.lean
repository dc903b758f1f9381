/- head.Get, its iterator; slices.Clone of pairs, slices.Collect. -/
import Derived.Test.YtgipbkopndghdaaDoorHdGet
import Derived.Lib.SliceRun
set_option maxRecDepth 100000
namespace Go.Proofs.YtgipbkopndghdaaDoor
open Go.RowKit Go.Shelf
attribute [local go_sem] Oper.semAt_some
theorem OwnP.empty (w : World) : OwnP (w.alloc (.cells #[] 37)) w.heap.size (.slice (some ⟨w.heap.size, 0, none⟩) 0 0) [] := by
  refine ⟨rfl, .inr ⟨w.heap.size, 0, #[], rfl, Nat.le_refl _, heap_alloc_new w _, Nat.le_refl _, by unfold maxLen; omega, rfl, rfl⟩⟩
theorem PrIn.cells {W : World} {g o c : Nat} {xs : Prs} (h : PrIn W (.slice (some ⟨g, o, none⟩) xs.length c) xs) : ∀ j u, (prc xs)[j]? = some u → W.cell? ⟨g, o + j, none⟩ = some u := by
  obtain ⟨A, c', e, _, _, h⟩ := h
  injection e with e1 e2 e3
  subst e1 e3
  intro j u hu
  have hj : j < (prc xs).length := by
    rcases Nat.lt_or_ge j (prc xs).length with h | h
    · exact h
    · rw [List.getElem?_eq_none h] at hu; cases hu
  rw [prc_len] at hj
  obtain ⟨p1, p2⟩ := prc_at xs (j / 2) (by omega)
  obtain ⟨g', o', e, h1, h2⟩ := h (j / 2) (by omega)
  cases e
  rcases Nat.mod_two_eq_zero_or_one j with hm | hm
  · have hj2 : j / 2 * 2 = j := by omega
    rw [hj2] at p1 h1
    rw [p1] at hu; cases hu; exact h1
  · have hj2 : j / 2 * 2 + 1 = j := by omega
    rw [hj2] at p2
    rw [Nat.add_assoc, hj2] at h2
    rw [p2] at hu; cases hu; exact h2
theorem prc_one (xs : Prs) : ∀ u ∈ prc xs, u.oneCell' = true := by
  intro u hu
  unfold prc at hu
  rw [List.mem_flatMap] at hu
  obtain ⟨x, _, hx⟩ := hu
  rcases List.mem_cons.1 hx with rfl | hx
  · rfl
  · rcases List.mem_cons.1 hx with rfl | hx
    · rfl
    · cases hx
theorem wpList_appPs {w : World} {ops : Array Oper} {rest : List Oper} {o : Oper} {a : Act} {Q : Exit → Act → World → Prop} (hgd : o.guard = none) (s x : Operand) (ho : o.op = .call { callee := .builtin .append, args := #[s, x], argTypes := #[22, 22] })
    (base : Nat) (v : Value) (xs : Prs) (hs : a.eval s = v) (hown : OwnP w base v []) (ad : Addr) (c : Nat) (hx : a.eval x = .slice (some ad) xs.length c)
    (_hc1 : xs.length ≤ c) (hcs : ∀ j u, (prc xs)[j]? = some u → w.cell? (ad.add j) = some u) (hn : xs.length ≤ 100000) (hbase : base ≤ w.heap.size)
    (h : ∀ v' w', OwnP w' base v' xs → w.grownBy w' v.ownBlock → wpList Tryd.prog ops Q rest (a.put o.dst v') w') : wpList Tryd.prog ops Q (o :: rest) a w := by
  obtain ⟨i0, hi, hz0, hz1, hz2⟩ := info_parts info_pr
  refine wpList_append_own w hgd s x 22 ho base 37 i0 (.agg #[str [], str []]) 2 32 Tryd.underlying22 hi hz0 hz1 hz2 rfl (by decide) v 0 (prc []) hs hown ad xs.length c (prc xs) hx (by rw [prc_len]; omega) hcs (prc_one xs) (by unfold maxLen; omega) (by omega) hbase ?_
  · intro v' w' h1 h2 _
    refine h v' w' ?_ h2
    rw [show prc [] ++ prc xs = prc xs from rfl, Nat.zero_add] at h1
    exact h1
set_option maxHeartbeats 400000 in
theorem cloneP_any (v : Value) (xs : Prs) (w : World) (hv : PrIn w v xs) (hl : xs.length ≤ 1000) :
    Calls Tryd.prog 37 #[v] w fun e w' => ∃ v', e = .returned v' ∧ OwnP w' w.heap.size v' xs ∧ Below w.heap.size w w' := by
  have HV := Lib.hid hv
  obtain ⟨A, c, rfl, hc1, hc2, hin⟩ := hv
  have hnilA := fun (A : Option Addr) (n c : Nat) => Lib.run_eql_slice_nil (P := Tryd.prog) w 22 37 A n c 0 0 Tryd.underlying22
  have HNIL := Lib.hid hnilA
  clear hnilA
  cases A with
  | none =>
    have hx : xs = [] := by
      cases xs with
      | nil => rfl
      | cons x t => obtain ⟨g, o, e, _⟩ := hin 0 (by simp); cases e
    subst hx
    clear hin
    have hnil := HNIL.out none 0 c
    go_enter Tryd.func37, Tryd.ntmps37
    go_wp2_with fail
    go_ret
    exact ⟨_, rfl, World.ownsRow_nil _ _ _ 2, Below.refl _ _⟩
  | some ad =>
    by_cases h0 : xs = []
    · subst h0
      clear hin
      have HOW := Lib.hid (OwnP.empty w)
      obtain ⟨ab, ao, sp⟩ := ad
      have hnil := HNIL.out (some ⟨ab, ao, sp⟩) 0 c
      have HCS := Lib.hid (fun j u (hu : (prc [])[j]? = some u) => show (w.alloc (.cells #[] 37)).cell? ((⟨ab, ao, sp⟩ : Addr).add j) = some u by simp [prc] at hu)
      go_enter Tryd.func37, Tryd.ntmps37
      go_wp2_with (at_builtin; (refine wpList_appPs rfl (.tmp 5) (.tmp 6) rfl w.heap.size (.slice (some ⟨w.heap.size, 0, none⟩) 0 0) [] rfl HOW.out ⟨ab, ao, sp⟩ c rfl (Nat.zero_le _) HCS.out (by simp) (by simp) ?_); intro v5 A1 hO5 hg5; have HO5 := Lib.hid hO5; have HB5 := Lib.hid (((Below.refl w.heap.size w).alloc (Nat.le_refl _) (.cells #[] 37)).grown hg5 (by simp) (fun k hk => Nat.le_of_eq (by simpa [Value.ownBlock] using hk))); clear hO5 hg5)
      go_ret
      exact ⟨_, rfl, HO5.out, HB5.out⟩
    · have hl0 : 0 < xs.length := List.length_pos_iff.2 h0
      obtain ⟨g, o, e, _, _⟩ := hin 0 hl0
      cases e
      clear hin
      have HOW := Lib.hid (OwnP.empty w)
      have HV2 := Lib.hid (HV.out.below ((Below.refl w.heap.size w).alloc (Nat.le_refl _) (.cells #[] 37)))
      have hnil := HNIL.out (some ⟨g, o, none⟩) xs.length c
      have HCS := Lib.hid (fun j u (hu : (prc xs)[j]? = some u) => show (w.alloc (.cells #[] 37)).cell? ((⟨g, o, none⟩ : Addr).add j) = some u by rw [Addr.add_mid]; exact HV2.out.cells j u hu)
      go_enter Tryd.func37, Tryd.ntmps37
      go_wp2_with (at_builtin; (refine wpList_appPs rfl (.tmp 5) (.tmp 6) rfl w.heap.size (.slice (some ⟨w.heap.size, 0, none⟩) 0 0) xs rfl HOW.out ⟨g, o, none⟩ c rfl hc1 HCS.out (by omega) (by simp) ?_); intro v5 A1 hO5 hg5; have HO5 := Lib.hid hO5; have HB5 := Lib.hid (((Below.refl w.heap.size w).alloc (Nat.le_refl _) (.cells #[] 37)).grown hg5 (by simp) (fun k hk => Nat.le_of_eq (by simpa [Value.ownBlock] using hk))); clear hO5 hg5)
      go_ret
      exact ⟨_, rfl, HO5.out, HB5.out⟩
abbrev gGet : Nat := 38
abbrev gvGet (b : Nat) : Value := .func (.func gGet) #[] #[.pointer (some ⟨b, 0, none⟩), .pointer (some ⟨b + 1, 0, none⟩)]
/-- What the iterator reads: the pairs' own copy, the name. -/
structure GetIn (b : Nat) (v : Value) (xs : Prs) (n : List UInt8) (A : World) : Prop where
  bx : Boxed A b 22 v
  pr : OwnP A (b + 2) v xs
  bn : Boxed A (b + 1) 9 (str n)
theorem GetIn.grown {b r : Nat} {v : Value} {xs : Prs} {n : List UInt8} {A B : World} (h : GetIn b v xs n A) (hg : A.grownBy B (some r)) (hr : r < b) : GetIn b v xs n B :=
  ⟨h.bx.kept hg (by simp; omega), World.ownsRow.kept h.pr hg (.inr (fun e => by have : b + 2 ≤ r := (World.ownsRow.lt h.pr r e).1; omega)), h.bn.kept hg (by simp; omega)⟩
theorem GetIn.below {b : Nat} {v : Value} {xs : Prs} {n : List UInt8} {A B : World} (h : GetIn b v xs n A) (hb : Below A.heap.size A B) : GetIn b v xs n B :=
  ⟨(hb.block _ h.bx.lt).trans h.bx, h.pr.below hb, (hb.block _ h.bn.lt).trans h.bn⟩
set_option maxHeartbeats 400000 in
theorem get_any (v : Value) (xs : Prs) (n : List UInt8) (w : World) (hv : PrIn w v xs) (hl : xs.length ≤ 1000) :
    Calls Tryd.prog 20 #[v, str n] w fun e w' => e = .returned (gvGet w.heap.size) ∧ (∃ v', GetIn w.heap.size v' xs n w') ∧ Below w.heap.size w w' ∧ w.heap.size + 2 ≤ w'.heap.size := by
  have hb2 : Below w.heap.size w ((w.alloc (.cells #[v] 22)).alloc (.cells #[str n] 9)) := ((Below.refl _ w).alloc (Nat.le_refl _) _).alloc (by simp) _
  have HC := Lib.hid (cloneP_any v xs _ (hv.below hb2) hl)
  have HB2 := Lib.hid hb2
  have q1 := (Boxed.new w 22 v).alloc (.cells #[str n] 9)
  have q2 := Boxed.new (w.alloc (.cells #[v] 22)) 9 (str n)
  rw [World.size_alloc] at q2
  have Q1 := Lib.hid q1; have Q2 := Lib.hid q2
  obtain ⟨A, c, rfl, hq⟩ := hv
  clear hq hb2 q1 q2
  go_enter Tryd.func20, Tryd.ntmps20
  go_wp2_with fail
  refine HC.out.mono ?_
  rintro e w3 ⟨v3, rfl, hO, hB⟩
  have b1 : Boxed w3 w.heap.size 22 (.slice A xs.length c) := (hB.block _ (by simp only [World.size_alloc]; omega)).trans Q1.out
  have b2 : Boxed w3 (w.heap.size + 1) 9 (str n) := (hB.block _ (by simp only [World.size_alloc]; omega)).trans Q2.out
  obtain ⟨A3, c3, rfl⟩ := hO.form
  have hs3 : w.heap.size + 2 ≤ w3.heap.size := by have := hB.size; simpa using this
  have HB3 := Lib.hid (HB2.out.trans (hB.mono HB2.out.size))
  have g1 := grown_set w3 ⟨w.heap.size, 0, none⟩ (.slice A3 xs.length c3)
  have HO := Lib.hid (World.ownsRow.kept hO g1 (.inr (fun e => by have h := (World.ownsRow.lt hO w.heap.size e).1; simp only [World.size_alloc] at h; omega)))
  have HX1 := Lib.hid (b1.set (.slice A3 xs.length c3))
  have HX2 := Lib.hid (b2.kept g1 (by simp))
  have c1 := b1.cell
  have f1 := b1.frozen
  clear hO hB b1 b2 g1 HC
  go_wp2_with fail
  go_ret
  exact ⟨rfl, ⟨_, HX1.out, OwnP.le HO.out (by simp only [World.size_alloc]; omega), HX2.out⟩, HB3.out.setCell (p := ⟨w.heap.size, 0, none⟩) (Nat.le_refl _) _, by simpa using hs3⟩
def GtY (xs : Prs) (n : List UInt8) (_ : Nat) (pre : List (List UInt8)) (x : List UInt8) (_ : World) : Prop := pre ++ [x] <+: getL xs n
end Go.Proofs.YtgipbkopndghdaaDoor
