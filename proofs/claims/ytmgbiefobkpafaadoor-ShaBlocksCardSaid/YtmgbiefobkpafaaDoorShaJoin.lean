/- The law's join: the first blocks together. -/
import Derived.Test.YtmgbiefobkpafaaDoorShaBlk1
namespace Go.Proofs.YtmgbiefobkpafaaDoor
open Go.RowKit Go.Shelf
attribute [local go_sem] Oper.semAt_some
theorem wpListIn_appB {F : Fence} {n : Nat} {w : World} {ops : Array Oper} {rest : List Oper} {o : Oper} {a : Act} {Q : Exit → Act → World → Prop} (hgd : o.guard = none) (s x : Operand) (ho : o.op = .call { callee := .builtin .append, args := #[s, x], argTypes := #[22, 22] })
    (base : Nat) (v : Value) (l ms : List UInt8) (hs : a.eval s = v) (hown : OwnB w base v l) (sb so m c : Nat) (hx : a.eval x = .slice (some ⟨sb, so, none⟩) m c) (hm : ms.length = m) (hsrc : Bs w sb so ms)
    (hlen : l.length + m ≤ 1099511627776) (hbase : base ≤ w.heap.size)
    (h : ∀ v' w', OwnB w' base v' (l ++ ms) → w.grownBy w' v.ownBlock → wpListIn F n Tryd.prog ops Q rest (a.put o.dst v') w') : wpListIn F n Tryd.prog ops Q (o :: rest) a w := by
  obtain ⟨i0, hi, hz0, hz1, hz2⟩ := info_parts info_b
  refine wpListIn_append_own w hgd s x 22 ho base 5 i0 (.int .u8 0) 1 1 Tryd.underlying22 hi hz0 hz1 hz2 rfl (by decide) v l.length (l.map vb) hs hown ⟨sb, so, none⟩ m c (ms.map vb) hx (by simp [hm]) ?_ ?_ (by unfold maxLen; omega) (by omega) hbase ?_
  · intro j u hu
    rw [Addr.add_mid]
    rw [List.getElem?_map] at hu
    by_cases hj : j < ms.length
    · rw [List.getElem?_eq_getElem hj] at hu; cases hu; exact hsrc j hj
    · rw [List.getElem?_eq_none (by omega)] at hu; cases hu
  · intro u hu; rw [List.mem_map] at hu; obtain ⟨b, _, rfl⟩ := hu; rfl
  · intro v' w' h1 h2 _
    refine h v' w' ?_ h2
    unfold OwnB
    rw [List.length_append, hm, List.map_append]
    exact h1
theorem results_cell2 {fn : Func} {t u : Tmp} {ty uy : TypeId} (h : fn.results = #[.cell t ty, .cell u uy]) (tmps : Array Value) (P : Program) (w : World) (a b : Addr) (v x : Value) (ha : tmps.getD t undef = .pointer (some a)) (hb : tmps.getD u undef = .pointer (some b))
    (hi : ∀ w, (isAgg ty).run P w = .ok false w) (hj : ∀ w, (isAgg uy).run P w = .ok false w) (hc : w.cell? a = some v) (hd : w.cell? b = some x) : (results fn tmps).run P w = .ok (.tuple #[v, x]) w := by
  have ha2 : tmps[t]?.getD undef = .pointer (some a) := by simpa using ha
  have hb2 : tmps[u]?.getD undef = .pointer (some b) := by simpa using hb
  simp [results, h, ha2, hb2, go_sem, hi, hj, hc, hd]
/-- join under way: k blocks are together. -/
structure Jn (w : World) (K : Nat) (bx b cap : Nat) (q : List UInt8) (B0 : Nat) (k : Nat) (va : Value) (A : World) : Prop where
  bm : Boxed A w.heap.size 3 (.int .i64 (K : Int))
  r1 : Boxed A (w.heap.size + 1) 22 (.slice none 0 0)
  r2 : Boxed A (w.heap.size + 2) 3 (.int .i64 0)
  ba : Boxed A (w.heap.size + 3) 22 va
  bn : Boxed A (w.heap.size + 4) 3 (.int .i64 (k : Int))
  own : OwnB A B0 va (q.take (64 * k))
  bq : A.cell? ⟨bx, 0, none⟩ = some (.slice (some ⟨b, 0, none⟩) q.length cap)
  bs : Bs A b 0 q
  low : Below w.heap.size w A
  sz : B0 ≤ A.heap.size
theorem Jn.st {w A B : World} {K bx b cap : Nat} {q : List UInt8} {B0 k : Nat} {va : Value} (h : Jn w K bx b cap q B0 k va A) (hbx : bx < B0) (hb : b < B0) (hB : w.heap.size ≤ B0) (hs : StB B0 A B) : Jn w K bx b cap q B0 k va B := by
  obtain ⟨row, hg, hr⟩ := hs
  have hk : KC 0 A B := kc_own hg hr
  have hl : Below B0 A B := below_own (Nat.le_refl _) h.sz hg hr
  exact ⟨hk _ _ _ _ (Nat.zero_le _) h.bm, hk _ _ _ _ (Nat.zero_le _) h.r1, hk _ _ _ _ (Nat.zero_le _) h.r2, hk _ _ _ _ (Nat.zero_le _) h.ba, hk _ _ _ _ (Nat.zero_le _) h.bn, ownsRow_kc h.own (Nat.zero_le _) hk,
    (hl.cell (p := ⟨bx, 0, none⟩) hbx).trans h.bq, h.bs.below hl hb, h.low.trans (hl.mono hB), Nat.le_trans h.sz hl.size⟩
theorem StB.mono {b c : Nat} {A B : World} (h : StB c A B) (hb : b ≤ c) : StB b A B := by
  obtain ⟨row, hg, hr⟩ := h
  exact ⟨row, hg, fun r e => ⟨Nat.le_trans hb (hr r e).1, (hr r e).2⟩⟩
/-- One more block. -/
theorem Jn.step {w A A1 : World} {K bx b cap : Nat} {q : List UInt8} {B0 k : Nat} {va v1 : Value} {ms : List UInt8} (h : Jn w K bx b cap q B0 k va A) (hbx : bx < B0) (hb : b < B0) (hB : w.heap.size + 5 ≤ B0) (hbw : w.heap.size + 5 ≤ b ∧ w.heap.size + 5 ≤ bx)
    (hv : OwnB A1 B0 v1 (q.take (64 * k) ++ ms)) (hms : ms = (q.drop (64 * k)).take 64) (hg : A.grownBy A1 va.ownBlock) :
    Jn w K bx b cap q B0 (k + 1) v1 ((A1.setCell ⟨w.heap.size + 3, 0, none⟩ v1).setCell ⟨w.heap.size + 4, 0, none⟩ (.int .i64 ((k : Int) + 1))) ∧ KT B0 A ((A1.setCell ⟨w.heap.size + 3, 0, none⟩ v1).setCell ⟨w.heap.size + 4, 0, none⟩ (.int .i64 ((k : Int) + 1)))
      ∧ KeepsFrom B0 A ((A1.setCell ⟨w.heap.size + 3, 0, none⟩ v1).setCell ⟨w.heap.size + 4, 0, none⟩ (.int .i64 ((k : Int) + 1))) := by
  have hlt := h.own.lt
  have ne : ∀ g, g < B0 → some g ≠ va.ownBlock := fun g hgl e => by have := (hlt g e.symm).1; omega
  have g1 := grown_set A1 ⟨w.heap.size + 3, 0, none⟩ v1
  have g2 := grown_set (A1.setCell ⟨w.heap.size + 3, 0, none⟩ v1) ⟨w.heap.size + 4, 0, none⟩ (.int .i64 ((k : Int) + 1))
  have ba1 := h.ba.kept hg (ne _ (by omega))
  have bn1 := h.bn.kept hg (ne _ (by omega))
  have bn2 := bn1.kept g1 (by simp)
  have hz1 := hg.size
  have hsz := h.sz
  have hq : q.take (64 * (k + 1)) = q.take (64 * k) ++ ms := by
    rw [hms, show 64 * (k + 1) = 64 * k + 64 by omega, List.take_add]
  have lw1 : Below w.heap.size A A1 := (h.own.belowBase hg h.sz).mono (by omega)
  refine ⟨⟨(((h.bm.kept hg (ne _ (by omega))).kept g1 (by simp)).kept g2 (by simp)), (((h.r1.kept hg (ne _ (by omega))).kept g1 (by simp)).kept g2 (by simp)), (((h.r2.kept hg (ne _ (by omega))).kept g1 (by simp)).kept g2 (by simp)),
    (ba1.set v1).kept g2 (by simp), ?_, ?_, ?_, ?_, ?_, ?_⟩, ?_, ?_⟩
  · have := bn2.set (.int .i64 ((k : Int) + 1)); rw [Int.natCast_succ]; exact this
  · rw [hq]
    exact (hv.kept g1 (.inr (apart_box hv ba1 (by decide)))).kept g2 (.inr (apart_box (hv.kept g1 (.inr (apart_box hv ba1 (by decide)))) bn2 (by decide)))
  · exact g2.cell (g1.cell (hg.cell h.bq (ne _ hbx)) (by simp; omega)) (by simp; omega)
  · exact ((h.bs.grown hg (ne _ hb)).grown g1 (by simp; omega)).grown g2 (by simp; omega)
  · exact ((h.low.trans lw1).setCell (p := ⟨w.heap.size + 3, 0, none⟩) (by show w.heap.size ≤ w.heap.size + 3; omega) v1).setCell (p := ⟨w.heap.size + 4, 0, none⟩) (by show w.heap.size ≤ w.heap.size + 4; omega) _
  · have := g1.size; have := g2.size; omega
  · intro g c t f hgl ho ht
    refine (g2.block g ?_ (by simp; omega)).trans ((g1.block g ?_ (by simp; omega)).trans ((hg.block g (Array.getElem?_eq_some_iff.1 ho).1 ?_).trans ho))
    · have := (Array.getElem?_eq_some_iff.1 ho).1; have := g1.size; omega
    · have := (Array.getElem?_eq_some_iff.1 ho).1; omega
    · intro e
      rcases h.own.2 with ⟨h0, _⟩ | ⟨g1, _, _, h0, _, hg1, _⟩
      · rw [h0] at e; simp [Value.ownBlock] at e
      · rw [h0] at e
        have : g = g1 := by simpa [Value.ownBlock] using e
        subst this
        rw [ho] at hg1; cases hg1; exact ht rfl
  · refine ⟨by have := g1.size; have := g2.size; omega, fun g ob hgl ho hc => ?_⟩
    refine (g2.block g ?_ (by simp; omega)).trans ((g1.block g ?_ (by simp; omega)).trans ((hg.block g (Array.getElem?_eq_some_iff.1 ho).1 ?_).trans ho))
    · have := (Array.getElem?_eq_some_iff.1 ho).1; have := g1.size; omega
    · have := (Array.getElem?_eq_some_iff.1 ho).1; omega
    · intro e
      rcases h.own.2 with ⟨h0, _⟩ | ⟨g1, _, _, h0, _, hg1, _⟩
      · rw [h0] at e; simp [Value.ownBlock] at e
      · rw [h0] at e
        have : g = g1 := by simpa [Value.ownBlock] using e
        subst this
        rw [ho] at hg1; cases hg1; cases hc
end Go.Proofs.YtmgbiefobkpafaaDoor
