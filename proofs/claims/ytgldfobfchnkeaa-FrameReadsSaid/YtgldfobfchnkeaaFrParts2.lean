/- FrameParts: the second loop's words. -/
import Derived.Test.YtgldfobfchnkeaaFrParts1
namespace Go.Proofs.Ytgldfobfchnkeaa
open Go.RowKit

theorem slice_hP (A : Option Addr) (n c k : Nat) (K : Int) (hK : K = (k : Int)) (hk : k ≤ c) (w : World) : (Instr.slice 22 (.slice A n c) none (some (.int .i64 K)) none).run Try.prog w = .ok (.slice A k c) w := by
  rw [hK]; exact slice_h A n c k hk w
theorem Eats.more {A l : List UInt8} {fs : List (UInt8 × List UInt8)} (h : Eats A fs l) (R : List UInt8) : Eats (A ++ R) fs (l ++ R) := by
  induction h with
  | nil => exact Eats.nil
  | snoc _ hu ih => exact Eats.snoc ih (un_more hu)
theorem Eats.trans {A l m : List UInt8} {fs gs : List (UInt8 × List UInt8)} (h : Eats A fs l) (h2 : Eats l gs m) : Eats A (fs ++ gs) m := by
  induction h2 with
  | nil => simpa using h
  | snoc _ hu ih => rw [← List.append_assoc]; exact Eats.snoc ih hu
theorem ownsRow_same {W W' : World} {base : Nat} {e : TypeId} {size : Nat} {v : Value} {n : Nat} {xs : List Value} (h : W.ownsRow base e size v n xs) (hs : ∀ k, k < W.heap.size → v.ownBlock = some k → W'.heap[k]? = W.heap[k]?) : W'.ownsRow base e size v n xs := by
  obtain ⟨h1, h2 | ⟨g, cap, cur, rfl, hb, hg, h3⟩⟩ := h
  · exact ⟨h1, .inl h2⟩
  · exact ⟨h1, .inr ⟨g, cap, cur, rfl, hb, (hs g (Array.getElem?_eq_some_iff.1 hg).1 rfl).trans hg, h3⟩⟩
theorem ownsRow_chg {W W' : World} {base g : Nat} {e : TypeId} {size : Nat} {v V : Value} {n : Nat} {xs : List Value} (h : W.ownsRow base e size v n xs) (hc : Chg W W' g V) (hg : g < base) (hV : V.ownBlock = none ∨ V.ownBlock ≠ v.ownBlock) : W'.ownsRow base e size v n xs :=
  ownsRow_same h (fun k hk e => hc.block k hk (by have := (World.ownsRow.lt h k e).1; omega) (fun e' => by rcases hV with h' | h'; rw [h'] at e'; cases e'; exact h' (by rw [e', e])))
theorem ownsRow_lower {W : World} {base base' : Nat} {e : TypeId} {size : Nat} {v : Value} {n : Nat} {xs : List Value} (h : W.ownsRow base e size v n xs) (hb : base' ≤ base) : W.ownsRow base' e size v n xs := by
  obtain ⟨h1, h2 | ⟨g, cap, cur, rfl, hg, h3⟩⟩ := h
  · exact ⟨h1, .inl h2⟩
  · exact ⟨h1, .inr ⟨g, cap, cur, rfl, by omega, h3⟩⟩
/-- append of frames to frames of the call's own. -/
theorem wpList_appF {w : World} {ops : Array Oper} {rest : List Oper} {o : Oper} {a : Act} {Q : Exit → Act → World → Prop} (hgd : o.guard = none) (s x : Operand) (ho : o.op = .call { callee := .builtin .append, args := #[s, x], argTypes := #[54, 54] })
    (base : Nat) (v : Value) (n : Nat) (xs : List Value) (hs : a.eval s = v) (hown : w.ownsRow base 27 2 v n xs) (b2 : Nat) (vx : Value) (m : Nat) (ys : List Value) (hx : a.eval x = vx) (hsrc : w.ownsRow b2 27 2 vx m ys) (hone : ∀ u ∈ ys, u.oneCell' = true)
    (hlen : n + m ≤ 1000000) (hbase : base ≤ w.heap.size)
    (h : ∀ v' w', w'.ownsRow base 27 2 v' (n + m) (xs ++ ys) → w.grownBy w' v.ownBlock → (∃ A c, v' = .slice A (n + m) c) → wpList Try.prog ops Q rest (a.put o.dst v') w') : wpList Try.prog ops Q (o :: rest) a w := by
  obtain ⟨i0, hi, hz0, hz1, hz2⟩ := info_parts info_fr
  have hform : ∀ {W : World} {v' : Value} {k : Nat} {zs : List Value}, W.ownsRow base 27 2 v' k zs → ∃ A c, v' = .slice A k c := by
    intro W v' k zs h'
    rcases h'.2 with ⟨rfl, rfl⟩ | ⟨g, cap, cur, rfl, _⟩
    · exact ⟨_, _, rfl⟩
    · exact ⟨_, _, rfl⟩
  rcases hsrc.2 with ⟨rfl, rfl⟩ | ⟨g, cap, cur, rfl, hb, hg, hc, hm, hsz, htk⟩
  · have hys : ys = [] := List.eq_nil_of_length_eq_zero (by have := hsrc.1; omega)
    subst hys
    exact wpList_append_own_none hgd s x 54 ho base 27 i0 2 Try.underlying54 hi v n xs hs hown hx (h v w (by simpa using hown) (World.grownBy.refl w _) (hform hown))
  · refine wpList_append_own w hgd s x 54 ho base 27 i0 (.agg #[.int .u8 0, .slice none 0 0]) 2 32 Try.underlying54 hi hz0 hz1 hz2 rfl (by decide) v n xs hs hown ⟨g, 0, none⟩ m cap ys hx hsrc.1 ?_ hone (by unfold maxLen; omega) (by omega) hbase (fun v' w' g1 g2 _ => h v' w' g1 g2 (hform g1))
    intro j u hu
    have hadd : (⟨g, 0, none⟩ : Addr).add j = ⟨g, j, none⟩ := by unfold Addr.add; split <;> simp_all
    rw [hadd]
    have hj : j < ys.length := (List.getElem?_eq_some_iff.1 hu).1
    have e : cur[j]? = some u := by
      rw [← htk, List.getElem?_take] at hu
      split at hu
      · simpa using hu
      · cases hu
    simp [World.cell?, hg, e]
theorem fcells_append (a b : List Told) : fcells (a ++ b) = fcells a ++ fcells b := by unfold fcells; simp
theorem keys_append (a b : List Told) : keys (a ++ b) = keys a ++ keys b := by unfold keys; simp
theorem keys_length (a : List Told) : (keys a).length = a.length := by unfold keys; simp
/-- The second loop's invariant: the bytes A were fed, R are left; the frames gs came. -/
structure Inv2 (wc : World) (P : List UInt8) (V s5 s13 : Value) (A R l : List UInt8) (gs : List Told) (W : World) : Prop where
  sum : A ++ R = P
  rest : Sl W wc.heap.size s5 R
  rd : Rd W wc.heap.size wc.heap.size V l 0
  eat : Eats A (keys gs) l
  un : un l = .no 2
  row : W.ownsRow (wc.heap.size + 1) 27 2 s13 gs.length (fcells gs)
  bd : ∀ x ∈ gs, OwnB W (wc.heap.size + 1) x.2.1 x.2.2 ∧ (x.2.1.ownBlock = none ∨ x.2.1.ownBlock ≠ V.ownBlock)
  b : Below wc.heap.size wc W
theorem one_fcells {W : World} {base : Nat} {gs : List Told} (h : ∀ x ∈ gs, ∃ l, OwnB W base x.2.1 l) : ∀ u ∈ fcells gs, u.oneCell' = true := by
  intro u hu
  unfold fcells at hu
  obtain ⟨x, hx, hu⟩ := List.mem_flatMap.1 hu
  rcases List.mem_cons.1 hu with rfl | hu
  · rfl
  · rw [List.mem_singleton] at hu
    subst hu
    obtain ⟨l, hl⟩ := h x hx
    obtain ⟨A, c, e, _⟩ := hl.sl
    rw [e]; rfl
/-- A Feed leaves what came. -/
theorem feed_keeps {W W' : World} {b : Nat} {V V' v : Value} {gs : List Told} (hc : Chg W W' b V) (hn : Newer W V V') (hr : W.ownsRow (b + 1) 27 2 v gs.length (fcells gs)) (hV : ∃ l, OwnB W b V l)
    (hb : ∀ x ∈ gs, OwnB W (b + 1) x.2.1 x.2.2 ∧ (x.2.1.ownBlock = none ∨ x.2.1.ownBlock ≠ V.ownBlock)) :
    W'.ownsRow (b + 1) 27 2 v gs.length (fcells gs) ∧ ∀ x ∈ gs, OwnB W' (b + 1) x.2.1 x.2.2 ∧ (x.2.1.ownBlock = none ∨ x.2.1.ownBlock ≠ V'.ownBlock) := by
  obtain ⟨l, hV⟩ := hV
  refine ⟨ownsRow_chg hr hc (by omega) (apart_rows hV hr (by decide)), fun x hx => ?_⟩
  obtain ⟨h1, h2⟩ := hb x hx
  refine ⟨ownsRow_chg h1 hc (by omega) ?_, ?_⟩
  · rcases h2 with h2 | h2
    · by_cases h0 : V.ownBlock = none
      · exact .inl h0
      · exact .inr (fun e => h0 (by rw [e, h2]))
    · exact .inr (Ne.symm h2)
  · by_cases h0 : x.2.1.ownBlock = none
    · exact .inl h0
    · right
      intro e
      cases hx1 : x.2.1.ownBlock with
      | none => exact h0 hx1
      | some k =>
        rcases hn k (by rw [← e, hx1]) with h3 | h3
        · rcases h2 with h2 | h2
          · exact h0 h2
          · exact h2 (by rw [hx1, h3])
        · have := (World.ownsRow.lt h1 k hx1).2
          omega
theorem Inv2.lens {wc W : World} {P A R l : List UInt8} {V s5 s13 : Value} {gs : List Told} (h : Inv2 wc P V s5 s13 A R l gs W) : A.length + R.length = P.length ∧ l.length ≤ A.length := by
  have h1 := congrArg List.length h.sum
  rw [List.length_append] at h1
  have h2 := h.eat.len
  omega
/-- Behind a Feed of n of the bytes and a take. -/
theorem Inv2.next {wc W W1 W2 W3 : World} {P A R l : List UInt8} {V V1 V2 s5 s13 s5' s13' : Value} {gs fs ws : List Told} {n : Nat} (h : Inv2 wc P V s5 s13 A R l gs W) (hP : P = packs (keys ws)) (hg : Good (keys ws)) (hw : ws.length ≤ 6)
    (hr1 : Rd W1 wc.heap.size wc.heap.size V1 (l ++ R.take n) 0) (hc1 : Chg W W1 wc.heap.size V) (hn1 : Newer W V V1)
    (hbd2 : ∀ x ∈ fs, OwnB W2 W1.heap.size x.2.1 x.2.2) (ha : After W2 wc.heap.size wc.heap.size (l ++ R.take n) 10 fs V2) (hc2 : Chg W1 W2 wc.heap.size V1) (hv2 : V2.ownBlock = none ∨ V2.ownBlock = V1.ownBlock)
    (hs5 : ∀ W', Below wc.heap.size W W' → Sl W' wc.heap.size s5' (R.drop n))
    (hrow3 : W3.ownsRow (wc.heap.size + 1) 27 2 s13' (gs.length + fs.length) (fcells gs ++ fcells fs)) (hg3 : W2.grownBy W3 s13.ownBlock) :
    ∃ l3, Inv2 wc P V2 s5' s13' (A ++ R.take n) (R.drop n) l3 (gs ++ fs) W3 := by
  obtain ⟨l3, he, hcase⟩ := ha
  have heat : Eats (A ++ R.take n) (keys (gs ++ fs)) l3 := by rw [keys_append]; exact (h.eat.more _).trans he
  have hsum : (A ++ R.take n) ++ R.drop n = P := by rw [List.append_assoc, List.take_append_drop]; exact h.sum
  obtain ⟨F2, hF, hl⟩ := eats_packs (F := keys ws) hg heat (by rw [hsum, hP])
  have hlen : gs.length + fs.length ≤ ws.length := by
    have := congrArg List.length hF
    rw [keys_append, keys_length, List.length_append, List.length_append, keys_length, keys_length] at this
    omega
  rcases hcase with ⟨h10, _⟩ | ⟨_, c, hu, hr2⟩
  · omega
  · have hc : c = 2 := wait_packs (F := F2) (fun x hx => hg x (by rw [hF]; exact List.mem_append_right _ hx)) hl hu
    subst hc
    rw [if_pos rfl, if_pos rfl] at hr2
    obtain ⟨k1, k2⟩ := feed_keeps hc1 hn1 h.row ⟨l, h.rd.own⟩ h.bd
    obtain ⟨m1, m2⟩ := feed_keeps hc2 (newer_of hv2) k1 ⟨_, hr1.own⟩ k2
    have hsz : wc.heap.size + 1 ≤ W1.heap.size := by have := hr1.blk.lt; omega
    have hb12 : Below wc.heap.size W W2 := (h.rd.chgBelow hc1).trans (hr1.chgBelow hc2)
    have hbW : wc.heap.size ≤ W2.heap.size := Nat.le_trans h.b.size hb12.size
    have hb23 : Below wc.heap.size W2 W3 := (Below.refl _ _).grown hg3 hbW (fun j e => by have := (World.ownsRow.lt m1 j e).1; omega)
    have hb3 : Below wc.heap.size W W3 := hb12.trans hb23
    refine ⟨l3, hsum, hs5 W3 hb3, ?_, heat, hu, ?_, ?_, h.b.trans hb3⟩
    · refine hr2.grown hg3 ?_ (apart_rows hr2.own m1 (by decide))
      intro e
      have := (World.ownsRow.lt m1 _ e.symm).1
      omega
    · rw [List.length_append, fcells_append]; exact hrow3
    · intro x hx
      rcases List.mem_append.1 hx with hx | hx
      · obtain ⟨q1, q2⟩ := m2 x hx
        exact ⟨q1.kept hg3 (apart_rows q1 m1 (by decide)), q2⟩
      · have q1 : OwnB W2 (wc.heap.size + 1) x.2.1 x.2.2 := (hbd2 x hx).lower hsz
        refine ⟨q1.kept hg3 (apart_rows q1 m1 (by decide)), ?_⟩
        by_cases h0 : x.2.1.ownBlock = none
        · exact .inl h0
        · right
          intro e
          cases hx1 : x.2.1.ownBlock with
          | none => exact h0 hx1
          | some j =>
            have j1 := ((hbd2 x hx).lt j hx1).1
            rcases hv2 with e2 | e2
            · rw [← e, hx1] at e2; cases e2
            · have := (hr1.own.lt j (by rw [← e2, ← e, hx1])).2
              omega
end Go.Proofs.Ytgldfobfchnkeaa
