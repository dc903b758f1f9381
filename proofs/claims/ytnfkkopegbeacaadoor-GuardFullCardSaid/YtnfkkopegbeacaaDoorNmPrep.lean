/- name.Prepare: what is prepared, as lists; the loop's step. -/
import Derived.Test.YtnfkkopegbeacaaDoorRunesG
import Derived.Test.YtnfkkopegbeacaaDoorNmSets
import Derived.Test.YtnfkkopegbeacaaDoorShelf
import Derived.Test.YtnfkkopegbeacaaDoorSl
import Derived.Test.YtnfkkopegbeacaaDoorKc
import Derived.Test.YtnfkkopegbeacaaDoorRangeOw
import Derived.Lib.FrozenHead2
import Derived.Lib.RuneBytes
namespace Go.Proofs.YtnfkkopegbeacaaDoor
open Go.RowKit Go.Shelf
attribute [local go_sem] Oper.semAt_some
/-- A slice of bytes of the call's own, its head frozen or not. -/
def OwnF (w : World) (base : Nat) (v : Value) (l : List UInt8) : Prop := w.ownsRowF base 5 1 v l.length (l.map vb)
theorem OwnB.f {w : World} {base : Nat} {v : Value} {l : List UInt8} (h : OwnB w base v l) : OwnF w base v l := World.ownsRowF_of h
theorem OwnF.sl {w : World} {base : Nat} {v : Value} {l : List UInt8} (h : OwnF w base v l) : Sl w w.heap.size v l := by
  rcases h.2 with ⟨rfl, h0⟩ | ⟨g, cap, cur, fz, rfl, hb, hg, hf, hn, hc, hs, ht⟩
  · exact ⟨none, 0, by rw [h0], fun _ => rfl, by omega, by omega, fun hp => by omega⟩
  · refine ⟨_, cap, rfl, (fun h => by cases h), hn, by unfold maxLen at hc; omega, fun _ => ⟨g, 0, rfl, (Array.getElem?_eq_some_iff.1 hg).1, fun j hj => ?_⟩⟩
    have := World.ownsRowF.cells h (g := g) rfl j (vb l[j]) (by rw [List.getElem?_map, List.getElem?_eq_getElem hj]; rfl)
    rwa [Addr.add_lit] at this
theorem vb_cells (l : List UInt8) (r : Int) : l.map vb ++ Lib.runeCells r = (l ++ Lib.encodeRune r).map vb := by
  rw [List.map_append]
  congr 1
  rw [← Lib.byteCells_encodeRune]
  rfl
/-- What a sign is prepared to. -/
def prS (r : Int) : List UInt8 := if spB r then [32] else if goB r then [] else if baB r then [] else Lib.encodeRune r
def prO (xs : List (Nat × Int)) : List UInt8 := xs.flatMap fun x => prS x.2
/-- A sign that is prohibited. -/
def noB (r : Int) : Bool := !spB r && !goB r && baB r
def prE (xs : List (Nat × Int)) : Int := if xs.any (fun x => noB x.2) then 5 else 0
theorem prO_snoc (xs : List (Nat × Int)) (x : Nat × Int) : prO (xs ++ [x]) = prO xs ++ prS x.2 := by unfold prO; simp
theorem prE_snoc (xs : List (Nat × Int)) (x : Nat × Int) : prE (xs ++ [x]) = if noB x.2 then 5 else prE xs := by
  unfold prE
  rw [List.any_append]
  simp only [List.any_cons, List.any_nil, Bool.or_false]
  cases h : noB x.2
  · simp only [Bool.or_false, Bool.false_eq_true, if_false]
  · rw [Bool.or_true, if_pos rfl, if_pos rfl]
theorem prS_le (r : Int) : (prS r).length ≤ 4 := by
  unfold prS
  have := (Lib.runeCells_le r).2
  rw [Lib.runeCells_length] at this
  split
  · simp
  · split
    · simp
    · split
      · simp
      · exact this
theorem prO_le (xs : List (Nat × Int)) : (prO xs).length ≤ 4 * xs.length := by
  induction xs with
  | nil => simp [prO]
  | cons x t ih =>
    show (prS x.2 ++ prO t).length ≤ _
    have := prS_le x.2
    rw [List.length_append, List.length_cons]; omega
/-- Prepare's loop under way. -/
structure Pp (w : World) (L : List UInt8) (pre : List (Nat × Int)) (va : Value) (A : World) : Prop where
  bt : Boxed A (w.heap.size + 1) 40 va
  be : Boxed A (w.heap.size + 2) 27 (.int .i64 (prE pre))
  own : OwnF A w.heap.size va (prO pre)
  bs : Boxed A (w.heap.size + 3) 9 (str L)
  low : Below w.heap.size w A
  sz : w.heap.size + 4 ≤ A.heap.size
theorem Pp.ne {w A : World} {L : List UInt8} {pre : List (Nat × Int)} {va : Value} (h : Pp w L pre va A) {b : Nat} {t : TypeId} {u : Value} (hb : Boxed A b t u) (ht : t ≠ 5) : some b ≠ va.ownBlock := fun e =>
  (by
    rcases h.own.2 with ⟨h0, _⟩ | ⟨g, cap, cur, fz, h0, _, hg, _⟩
    · rw [h0] at e; simp [Value.ownBlock] at e
    · rw [h0] at e
      have : b = g := by simpa [Value.ownBlock] using e
      subst this
      have h3 : A.heap[b]? = some (.cells #[u] t (0, 0)) := hb
      rw [h3] at hg; cases hg; exact ht rfl)
theorem Pp.bt_ne {w A : World} {L : List UInt8} {pre : List (Nat × Int)} {va : Value} (h : Pp w L pre va A) : some (w.heap.size + 1) ≠ va.ownBlock := h.ne h.bt (by decide)
/-- A box's neighbour: an own slice lies apart from it. -/
theorem OwnF.apart {W : World} {base : Nat} {v : Value} {l : List UInt8} {b : Nat} {t : TypeId} {u : Value} (h : OwnF W base v l) (hb : Boxed W b t u) (ht : t ≠ 5) : v.ownBlock ≠ some b := by
  intro e
  rcases h.2 with ⟨h0, _⟩ | ⟨g, cap, cur, fz, h0, _, hg, _⟩
  · rw [h0] at e; simp [Value.ownBlock] at e
  · rw [h0] at e
    have : b = g := by have : g = b := by simpa [Value.ownBlock] using e
                       exact this.symm
    subst this
    have h3 : W.heap[b]? = some (.cells #[u] t (0, 0)) := hb
    rw [h3] at hg; cases hg; exact ht rfl
theorem OwnF.kc {b base : Nat} {A W : World} {v : Value} {l : List UInt8} (h : OwnF A base v l) (hb : b ≤ base) (hk : KC b A W) : OwnF W base v l := by
  obtain ⟨h1, h2 | ⟨g, cap, cur, fz, h0, hbg, hg, h3⟩⟩ := h
  · exact ⟨h1, .inl h2⟩
  · exact ⟨h1, .inr ⟨g, cap, cur, fz, h0, hbg, hk _ _ _ _ (by omega) hg, h3⟩⟩
theorem Pp.kc {w A B : World} {L : List UInt8} {pre : List (Nat × Int)} {va : Value} (h : Pp w L pre va A) (hk : KC 0 A B) (hl : Below w.heap.size A B) : Pp w L pre va B :=
  ⟨hk _ _ _ _ (Nat.zero_le _) h.bt, hk _ _ _ _ (Nat.zero_le _) h.be, h.own.kc (Nat.zero_le _) hk, hk _ _ _ _ (Nat.zero_le _) h.bs, h.low.trans hl, Nat.le_trans h.sz hl.size⟩
theorem Pp.below {w A B : World} {L : List UInt8} {pre : List (Nat × Int)} {va : Value} (h : Pp w L pre va A) (hb : Below A.heap.size A B) : Pp w L pre va B :=
  h.kc (fun k c t f _ ho => (hb.block k (Array.getElem?_eq_some_iff.1 ho).1).trans ho) (hb.mono (by have := h.sz; omega))
theorem Pp.put {w A : World} {L : List UInt8} {pre : List (Nat × Int)} {va : Value} {l : Nat} {o o' : Obj} (h : Pp w L pre va A) (hl : w.heap.size ≤ l) (ho : A.heap[l]? = some o) (hc : o.isCells = false) : Pp w L pre va (A.putObj l o') :=
  h.kc (kc_putObj ho hc) (below_own (B := w.heap.size) (Nat.le_refl _) (by have := h.sz; omega) (grownBy_putObj' A l o') (fun r e => by cases e; exact ⟨hl, o, ho, hc⟩))
/-- A sign is told on. -/
theorem Pp.out {w A A1 : World} {L : List UInt8} {pre : List (Nat × Int)} {va v1 : Value} {ms : List UInt8} {o : Obj} {x : Nat × Int} (h : Pp w L pre va A) (hg : (A.alloc o).grownBy A1 va.ownBlock) (hv : OwnF A1 w.heap.size v1 (prO pre ++ ms)) (hx : prS x.2 = ms) (hno : noB x.2 = false) :
    Boxed A1 (w.heap.size + 1) 40 va ∧ Pp w L (pre ++ [x]) v1 (A1.setCell ⟨w.heap.size + 1, 0, none⟩ v1) ∧ KeepsFrom (w.heap.size + 4) A (A1.setCell ⟨w.heap.size + 1, 0, none⟩ v1) := by
  have g0 := World.grownBy_alloc A o none
  have g1 := grown_set A1 ⟨w.heap.size + 1, 0, none⟩ v1
  have bt1 := (h.bt.alloc o).kept hg (h.ne h.bt (by decide))
  have be1 := (h.be.alloc o).kept hg (h.ne h.be (by decide))
  have bs1 := (h.bs.alloc o).kept hg (h.ne h.bs (by decide))
  have hsz := h.sz
  have s0 := g0.size
  have s1 := hg.size
  have s2 := g1.size
  have lw : Below w.heap.size A A1 := ((Below.refl w.heap.size A).alloc (by omega) o).grown hg (by omega) (fun j e => (World.ownsRowF.lt h.own j e).1)
  refine ⟨bt1, ⟨bt1.set v1, ?_, ?_, bs1.kept g1 (by simp), (h.low.trans lw).setCell (p := ⟨w.heap.size + 1, 0, none⟩) (by show w.heap.size ≤ w.heap.size + 1; omega) v1, by omega⟩, by omega, fun g ob hgl ho hc => ?_⟩
  · rw [prE_snoc, hno]
    exact be1.kept g1 (by simp)
  · rw [prO_snoc, hx]
    exact World.ownsRowF.kept hv g1 (.inr (OwnF.apart hv bt1 (by decide)))
  · have hk0 := (Array.getElem?_eq_some_iff.1 ho).1
    refine (g1.block g (by omega) (by simp; omega)).trans ((hg.block g (by omega) ?_).trans ((g0.block g hk0 (by simp)).trans ho))
    intro e
    rcases h.own.2 with ⟨h0, _⟩ | ⟨g', cap, cur, fz, h0, _, hg', _⟩
    · rw [h0] at e; simp [Value.ownBlock] at e
    · rw [h0] at e
      have : g = g' := by simpa [Value.ownBlock] using e
      subst this
      rw [ho] at hg'; cases hg'; cases hc
/-- A sign is prohibited. -/
theorem Pp.bad {w A : World} {L : List UInt8} {pre : List (Nat × Int)} {va : Value} {x : Nat × Int} (h : Pp w L pre va A) (hx : prS x.2 = []) (hno : noB x.2 = true) :
    Pp w L (pre ++ [x]) va (A.setCell ⟨w.heap.size + 2, 0, none⟩ (.int .i64 5)) ∧ KeepsFrom (w.heap.size + 4) A (A.setCell ⟨w.heap.size + 2, 0, none⟩ (.int .i64 5)) := by
  have g1 := grown_set A ⟨w.heap.size + 2, 0, none⟩ (.int .i64 5)
  have hsz := h.sz
  have s2 := g1.size
  refine ⟨⟨h.bt.kept g1 (by simp), ?_, ?_, h.bs.kept g1 (by simp), h.low.setCell (p := ⟨w.heap.size + 2, 0, none⟩) (by show w.heap.size ≤ w.heap.size + 2; omega) _, by omega⟩, by omega, fun g ob hgl ho hc => ?_⟩
  · rw [prE_snoc, hno]; exact h.be.set _
  · rw [prO_snoc, hx, List.append_nil]
    exact World.ownsRowF.kept h.own g1 (.inr (OwnF.apart h.own h.be (by decide)))
  · exact (g1.block g (Array.getElem?_eq_some_iff.1 ho).1 (by simp; omega)).trans ho
/-- A sign goes. -/
theorem Pp.gone {w A : World} {L : List UInt8} {pre : List (Nat × Int)} {va : Value} {x : Nat × Int} (h : Pp w L pre va A) (hx : prS x.2 = []) (hno : noB x.2 = false) : Pp w L (pre ++ [x]) va A :=
  ⟨h.bt, by rw [prE_snoc, hno]; exact h.be, by rw [prO_snoc, hx, List.append_nil]; exact h.own, h.bs, h.low, h.sz⟩
end Go.Proofs.YtnfkkopegbeacaaDoor
