/- ring: rows of keys in memory; the steps that append to them; the library's Delete of one key, and its Clone. (By mkrk.py out of TvA and TvB.) -/
import Derived.Test.YtcjjhaonogfcjaaDoorSl
import Derived.Test.YtcjjhaonogfcjaaDoorReg
import Derived.Test.YtcjjhaonogfcjaaDoorTrs
import Derived.Test.YtcjjhaonogfcjaaDoorKc
import Derived.Laws.AppendOwnNone
import Derived.Deep.AppendLies
import Derived.Lib.SliceRun
import Derived.Lib.Hide
import Derived.Deep.RegionLaw
import Derived.OwnWalk
import Derived.Deep.QuietTactic
import Derived.BigQuiet
import Derived.StillTailTactics
set_option maxRecDepth 100000
namespace Go.Proofs.YtcjjhaonogfcjaaDoor
open Go.RowKit
attribute [local go_sem] Oper.semAt_some
abbrev tKy : TypeId := 55
abbrev tKys : TypeId := 47
/-- A key: its epoch, and where its bytes lie. -/
structure KyL where
  n : Nat
  A : Option Addr
  m : Nat
  c : Nat
def KyL.cells (k : KyL) : List Value := [.int .u64 k.n, .slice k.A k.m k.c]
def kyA (k : KyL) : Value := .agg #[.int .u64 k.n, .slice k.A k.m k.c]
abbrev zky : Value := .agg #[.int .u64 0, .slice none 0 0]
theorem info_ky : (Tryd.prog.info? tKy).map (fun i => (i.zero, i.size, i.bytes)) = some (some zky, 2, 32) := by kernel_rfl
/-- The cells of keys. -/
def kcs (xs : List KyL) : List Value := xs.flatMap KyL.cells
theorem kcs_snoc (xs : List KyL) (x : KyL) : kcs (xs ++ [x]) = kcs xs ++ KyL.cells x := by unfold kcs; simp
theorem kcs_app (xs ys : List KyL) : kcs (xs ++ ys) = kcs xs ++ kcs ys := by unfold kcs; simp
theorem kcs_len (xs : List KyL) : (kcs xs).length = 2 * xs.length := by
  induction xs with
  | nil => rfl
  | cons x t ih => show (KyL.cells x ++ kcs t).length = _; rw [List.length_append, ih, List.length_cons]; show 2 + _ = _; omega
theorem kcs_at : ∀ (xs : List KyL) (k : Nat) (hk : k < xs.length) (i : Nat), i < 2 → (kcs xs)[k * 2 + i]? = (KyL.cells (xs[k]'hk))[i]?
  | [], k, hk, _, _ => by simp at hk
  | x :: t, 0, hk, i, hi => by
    show (KyL.cells x ++ kcs t)[0 * 2 + i]? = _
    rw [List.getElem?_append_left (by show 0 * 2 + i < 2; omega)]
    simp
  | x :: t, k + 1, hk, i, hi => by
    have ih := kcs_at t k (by simpa using hk) i hi
    show (KyL.cells x ++ kcs t)[(k + 1) * 2 + i]? = _
    rw [List.getElem?_append_right (by show 2 ≤ (k + 1) * 2 + i; omega), show (k + 1) * 2 + i - (KyL.cells x).length = k * 2 + i by show (k + 1) * 2 + i - 2 = _; omega]
    exact ih
theorem kcs_one (xs : List KyL) : ∀ u ∈ kcs xs, u.oneCell' = true := by
  intro u hu
  unfold kcs at hu
  rw [List.mem_flatMap] at hu
  obtain ⟨x, _, hx⟩ := hu
  unfold KyL.cells at hx
  simp only [List.mem_cons, List.not_mem_nil, or_false] at hx
  rcases hx with rfl | rfl <;> rfl
/-- A row of keys (of type t) of the call's own. -/
def OwnY (t : TypeId) (w : World) (base : Nat) (v : Value) (xs : List KyL) : Prop := w.ownsRow base t 2 v xs.length (kcs xs)
section
variable {t : TypeId} {w w' : World} {base base' : Nat} {v : Value} {xs : List KyL}
theorem OwnY.nil (t : TypeId) (w : World) (base : Nat) : OwnY t w base (.slice none 0 0) [] := World.ownsRow_nil w base _ 2
theorem OwnY.below (h : OwnY t w base v xs) (hb : Below w.heap.size w w') : OwnY t w' base v xs :=
  World.ownsRow.kept h (grown_of_below hb none) (by by_cases e : v.ownBlock = none; exact .inl e; exact .inr e)
theorem OwnY.form (h : OwnY t w base v xs) : ∃ A c, v = .slice A xs.length c ∧ xs.length ≤ c ∧ c ≤ 9223372036854775807 := by
  obtain ⟨h1, ⟨h2, h3⟩ | ⟨g, cap, cur, h0, hb, hg, hc, hm, h4⟩⟩ := id h
  · have hx : xs = [] := List.eq_nil_of_length_eq_zero h3
    subst hx
    exact ⟨none, 0, h2, by simp, by omega⟩
  · exact ⟨_, cap, h0, hc, by unfold maxLen at hm; omega⟩
theorem OwnY.le (h : OwnY t w base v xs) (hb : base' ≤ base) : OwnY t w base' v xs := by
  obtain ⟨h1, h2 | ⟨g, cap, cur, h0, hbg, hg, h3⟩⟩ := h
  · exact ⟨h1, .inl h2⟩
  · exact ⟨h1, .inr ⟨g, cap, cur, h0, by omega, hg, h3⟩⟩
theorem OwnY.lt (h : OwnY t w base v xs) : ∀ k, v.ownBlock = some k → base ≤ k ∧ k < w.heap.size := World.ownsRow.lt h
theorem OwnY.set {b i : Nat} (h : OwnY t w base v xs) (hb : b < base) (u : Value) : OwnY t (w.setCell ⟨b, i, none⟩ u) base v xs :=
  World.ownsRow.kept h (grown_set w ⟨b, i, none⟩ u) (.inr (fun e => by have := (h.lt b e).1; omega))
end
/-- Events that lie in memory, below block B. -/
def KyIn (W : World) (B : Nat) (v : Value) (xs : List KyL) : Prop :=
  ∃ A c, v = .slice A xs.length c ∧ xs.length ≤ c ∧ (c ≤ 9223372036854775807 ∧ (A = none → c = 0)) ∧ (0 < xs.length → ∃ g o, A = some ⟨g, o, none⟩ ∧ g < B ∧ ∀ k (hk : k < xs.length) i, i < 2 → W.cell? ⟨g, o + k * 2 + i, none⟩ = (KyL.cells (xs[k]'hk))[i]?)
theorem OwnY.kyIn {t : TypeId} {W : World} {base : Nat} {v : Value} {xs : List KyL} (h : OwnY t W base v xs) : KyIn W W.heap.size v xs := by
  obtain ⟨h1, ⟨h2, h3⟩ | ⟨g, cap, cur, h0, hb, hg, hc, hm, h3⟩⟩ := id h
  · have hx : xs = [] := List.eq_nil_of_length_eq_zero h3
    subst hx
    exact ⟨none, 0, h2, by simp, ⟨by omega, fun _ => rfl⟩, fun h => by simp at h⟩
  · refine ⟨_, cap, h0, hc, ⟨by unfold maxLen at hm; omega, fun e => by cases e⟩, fun _ => ⟨g, 0, rfl, (Array.getElem?_eq_some_iff.1 hg).1, fun k hk i hi => ?_⟩⟩
    have hat := kcs_at xs k hk i hi
    have hsome : (KyL.cells xs[k])[i]? = some ((KyL.cells xs[k])[i]'hi) := List.getElem?_eq_getElem hi
    rw [hsome] at hat ⊢
    have := World.ownsRow.cells h (g := g) (by rw [h0]; rfl) (k * 2 + i) _ hat
    rw [Addr.add_lit] at this
    rw [Nat.zero_add]
    simpa using this
theorem KyIn.below {W W' : World} {B B' : Nat} {v : Value} {xs : List KyL} (h : KyIn W B v xs) (hb : Below B' W W') (hB : B ≤ B') : KyIn W' B v xs := by
  obtain ⟨A, c, e, h1, h2, h⟩ := h
  refine ⟨A, c, e, h1, h2, fun hl => ?_⟩
  obtain ⟨g, o, hg, hlt, h3⟩ := h hl
  exact ⟨g, o, hg, hlt, fun k hk i hi => (hb.cell (p := ⟨g, o + k * 2 + i, none⟩) (by show g < B'; omega)).trans (h3 k hk i hi)⟩
theorem KyIn.more {W : World} {B B' : Nat} {v : Value} {xs : List KyL} (h : KyIn W B v xs) (hB : B ≤ B') : KyIn W B' v xs := by
  obtain ⟨A, c, e, h1, h2, h⟩ := h
  refine ⟨A, c, e, h1, h2, fun hl => ?_⟩
  obtain ⟨g, o, hg, hlt, h3⟩ := h hl
  exact ⟨g, o, hg, by omega, h3⟩
/-- The two cells of one of them. -/
theorem KyIn.pair {W : World} {B : Nat} {A : Option Addr} {n c : Nat} {xs : List KyL} (h : KyIn W B (.slice A n c) xs) (k : Nat) (hk : k < xs.length) :
    ∃ g o, A = some ⟨g, o, none⟩ ∧ g < B ∧ W.cell? ⟨g, o + k * 2, none⟩ = some (.int .u64 xs[k].n) ∧ W.cell? ⟨g, o + k * 2 + 1, none⟩ = some (.slice xs[k].A xs[k].m xs[k].c) := by
  obtain ⟨A', c', e, _, _, h⟩ := h
  obtain ⟨g, o, hg, hlt, h3⟩ := h (by omega)
  injection e with e1 e2 e3
  subst e1
  exact ⟨g, o, hg, hlt, h3 k hk 0 (by omega), h3 k hk 1 (by omega)⟩
theorem KyIn.cells {W : World} {B : Nat} {g o c : Nat} {xs : List KyL} (h : KyIn W B (.slice (some ⟨g, o, none⟩) xs.length c) xs) : ∀ j u, (kcs xs)[j]? = some u → W.cell? ⟨g, o + j, none⟩ = some u := by
  obtain ⟨A', c', e, _, _, h⟩ := h
  intro j u hu
  have hj : j < (kcs xs).length := by
    rcases Nat.lt_or_ge j (kcs xs).length with h | h
    · exact h
    · rw [List.getElem?_eq_none h] at hu; cases hu
  rw [kcs_len] at hj
  obtain ⟨g', o', hg, hlt, h3⟩ := h (by omega)
  injection e with e1 e2 e3
  subst e1
  cases hg
  have h4 := h3 (j / 2) (by omega) (j % 2) (by omega)
  have h5 := kcs_at xs (j / 2) (by omega) (j % 2) (by omega)
  rw [← h5, Nat.add_assoc, show j / 2 * 2 + j % 2 = j by omega, hu] at h4
  exact h4
theorem OwnY.belowBase {t : TypeId} {w w' : World} {base : Nat} {v : Value} {xs : List KyL} (h : OwnY t w base v xs) (hg : w.grownBy w' v.ownBlock) (hb : base ≤ w.heap.size) : Below base w w' :=
  (Below.refl _ _).grown hg hb (fun k hk => (h.lt k hk).1)
theorem OwnY.kept {t : TypeId} {w w' : World} {base : Nat} {v : Value} {xs : List KyL} {row : Option Nat} (h : OwnY t w base v xs) (hg : w.grownBy w' row) (hne : v.ownBlock = none ∨ v.ownBlock ≠ row) : OwnY t w' base v xs := World.ownsRow.kept h hg hne
theorem OwnY.trs {t : TypeId} {S : List Nat} {w w' : World} {base : Nat} {v : Value} {l : List KyL} (h : OwnY t w base v l) (ht : Trs S w w') (hb : ∀ k, v.ownBlock = some k → k ∉ S) : OwnY t w' base v l := by
  obtain ⟨h1, h2 | ⟨g, cap, cur, rfl, hb', hg, h3⟩⟩ := h
  · exact ⟨h1, .inl h2⟩
  · exact ⟨h1, .inr ⟨g, cap, cur, rfl, hb', (ht.block g (Array.getElem?_eq_some_iff.1 hg).1 (hb g rfl)).trans hg, h3⟩⟩
theorem OwnY.empty (t : TypeId) (w : World) : OwnY t (w.alloc (.cells #[] t)) w.heap.size (.slice (some ⟨w.heap.size, 0, none⟩) 0 0) [] :=
  ⟨by simp [kcs], .inr ⟨w.heap.size, 0, #[], rfl, Nat.le_refl _, heap_alloc_new w _, by simp, by unfold maxLen; omega, by simp, by simp [kcs]⟩⟩
theorem news_ky {w : World} {gb : Nat} {q : KyL} {t : TypeId} (h : w.heap[gb]? = some (.cells q.cells.toArray t (0, 0))) : ∀ j u, q.cells[j]? = some u → w.cell? ((⟨gb, 0, none⟩ : Addr).add j) = some u := by
  intro j u hu
  rw [Addr.add_lit]
  simpa [World.cell?, h] using hu
theorem kyc_one (q : KyL) : ∀ u ∈ q.cells, u.oneCell' = true := by
  intro u hu
  unfold KyL.cells at hu
  simp only [List.mem_cons, List.not_mem_nil, or_false] at hu
  rcases hu with rfl | rfl <;> rfl
/-- A type of keys, and one of slices of them. -/
structure KyT (tS tE : TypeId) : Prop where
  u : Tryd.prog.underlying tS = some (.slice tE)
  i : (Tryd.prog.info? tE).map (fun i => (i.zero, i.size, i.bytes)) = some (some zky, 2, 32)
theorem kyT : KyT tKys tKy := ⟨Tryd.underlying47, info_ky⟩
theorem KyIn.adds {W : World} {B : Nat} {A : Addr} {n c : Nat} {xs : List KyL} (h : KyIn W B (.slice (some A) n c) xs) : ∀ j u, (kcs xs)[j]? = some u → W.cell? (A.add j) = some u := by
  intro j u hu
  have hj : j < (kcs xs).length := by
    rcases Nat.lt_or_ge j (kcs xs).length with h | h
    · exact h
    · rw [List.getElem?_eq_none h] at hu; cases hu
  rw [kcs_len] at hj
  obtain ⟨A', c', e, _, _, h3⟩ := id h
  obtain ⟨g, o, hg, _, _⟩ := h3 (by omega)
  injection e with e1 e2 e3
  subst e1; subst e2
  cases hg
  rw [Addr.add_mid]
  exact h.cells j u hu
section
variable {w : World} {ops : Array Oper} {rest : List Oper} {o : Oper} {a : Act} {Q : Exit → Act → World → Prop} {K : Act → World → Prop} {F : Fence} {n : Nat} {i : Nat} {tS tE : TypeId}
/-- append(row, keys...). -/
theorem wpList_app_kys (hT : KyT tS tE) (hgd : o.guard = none) (s x : Operand) (ho : o.op = .call { callee := .builtin .append, args := #[s, x], argTypes := #[tS, tS] })
    (base : Nat) (v : Value) (l ms : List KyL) (hs : a.eval s = v) (hown : OwnY tE w base v l) (B : Nat) (vx : Value) (hx : a.eval x = vx) (hsrc : KyIn w B vx ms) (hlen : l.length + ms.length ≤ 100000) (hbase : base ≤ w.heap.size)
    (h : ∀ v' w', OwnY tE w' base v' (l ++ ms) → w.grownBy w' v.ownBlock → (v'.ownBlock = v.ownBlock ∨ v'.ownBlock = some w.heap.size) → wpList Tryd.prog ops Q rest (a.put o.dst v') w') : wpList Tryd.prog ops Q (o :: rest) a w := by
  obtain ⟨i0, hi, hz0, hz1, hz2⟩ := info_parts hT.i
  obtain ⟨A, c, rfl, h1, h2, h3⟩ := id hsrc
  cases A with
  | none =>
    obtain rfl : ms = [] := by
      cases ms with
      | nil => rfl
      | cons y t => obtain ⟨g, o, e, _⟩ := h3 (by simp); cases e
    obtain rfl := h2.2 rfl
    exact wpList_append_own_none hgd s x tS ho base tE i0 2 hT.u hi v l.length (kcs l) hs hown hx (h v w (by simpa using hown) (World.grownBy.refl w _) (.inl rfl))
  | some ad =>
    refine wpList_append_own_at w hgd s x tS ho base tE i0 _ 2 32 hT.u hi hz0 hz1 hz2 rfl (by decide) v l.length (kcs l) hs hown ad ms.length c (kcs ms) hx (by rw [kcs_len]; omega) hsrc.adds (kcs_one ms) (by unfold maxLen; omega) (by omega) hbase ?_
    intro v' w' g1 g2 _ g4
    refine h v' w' ?_ g2 g4
    unfold OwnY
    rw [List.length_append, kcs_app]
    exact g1
/-- append(row, one event). -/
theorem wpList_app_ky (hT : KyT tS tE) (hgd : o.guard = none) (s x : Operand) (ho : o.op = .call { callee := .builtin .append, args := #[s, x], argTypes := #[tS, tS] })
    (base : Nat) (v : Value) (l : List KyL) (q : KyL) (hs : a.eval s = v) (hown : OwnY tE w base v l) (g : Nat) (hx : a.eval x = .slice (some ⟨g, 0, none⟩) 1 1)
    (hg : w.heap[g]? = some (.cells q.cells.toArray tE (0, 0))) (hlen : l.length ≤ 100000) (hbase : base ≤ w.heap.size)
    (h : ∀ v' w', OwnY tE w' base v' (l ++ [q]) → w.grownBy w' v.ownBlock → (v'.ownBlock = v.ownBlock ∨ v'.ownBlock = some w.heap.size) → wpList Tryd.prog ops Q rest (a.put o.dst v') w') : wpList Tryd.prog ops Q (o :: rest) a w := by
  obtain ⟨i0, hi, hz0, hz1, hz2⟩ := info_parts hT.i
  refine wpList_append_own_at w hgd s x tS ho base tE i0 _ 2 32 hT.u hi hz0 hz1 hz2 rfl (by decide) v l.length (kcs l) hs hown ⟨g, 0, none⟩ 1 1 q.cells hx rfl (news_ky hg) (kyc_one q) (by unfold maxLen; omega) (by omega) hbase ?_
  intro v' w' g1 g2 _ g4
  refine h v' w' ?_ g2 g4
  unfold OwnY
  rw [List.length_append, kcs_snoc]
  exact g1
theorem wpListIn_app_ky (hT : KyT tS tE) (hgd : o.guard = none) (s x : Operand) (ho : o.op = .call { callee := .builtin .append, args := #[s, x], argTypes := #[tS, tS] })
    (base : Nat) (v : Value) (l : List KyL) (q : KyL) (hs : a.eval s = v) (hown : OwnY tE w base v l) (g : Nat) (hx : a.eval x = .slice (some ⟨g, 0, none⟩) 1 1)
    (hg : w.heap[g]? = some (.cells q.cells.toArray tE (0, 0))) (hlen : l.length ≤ 100000) (hbase : base ≤ w.heap.size)
    (h : ∀ v' w', OwnY tE w' base v' (l ++ [q]) → w.grownBy w' v.ownBlock → (v'.ownBlock = v.ownBlock ∨ v'.ownBlock = some w.heap.size) → wpListIn F n Tryd.prog ops Q rest (a.put o.dst v') w') : wpListIn F n Tryd.prog ops Q (o :: rest) a w := by
  obtain ⟨i0, hi, hz0, hz1, hz2⟩ := info_parts hT.i
  refine wpListIn_append_own_at w hgd s x tS ho base tE i0 _ 2 32 hT.u hi hz0 hz1 hz2 rfl (by decide) v l.length (kcs l) hs hown ⟨g, 0, none⟩ 1 1 q.cells hx rfl (news_ky hg) (kyc_one q) (by unfold maxLen; omega) (by omega) hbase ?_
  intro v' w' g1 g2 _ g4
  refine h v' w' ?_ g2 g4
  unfold OwnY
  rw [List.length_append, kcs_snoc]
  exact g1
end
end Go.Proofs.YtcjjhaonogfcjaaDoor
set_option maxRecDepth 100000
namespace Go.Proofs.YtcjjhaonogfcjaaDoor
open Go.RowKit
attribute [local go_sem] Oper.semAt_some
theorem heap_setCellsY {b : Nat} {t : TypeId} {vs : List Value} : ∀ {w : World} {cs : List Value} (_ : w.heap[b]? = some (.cells cs.toArray t (0, 0))) (o : Nat) (_ : o + vs.length ≤ cs.length), (w.setCells b o vs).heap[b]? = some (.cells (cs.take o ++ vs ++ cs.drop (o + vs.length)).toArray t (0, 0)) := by
  induction vs with
  | nil => intro w cs h o _; simpa [World.setCells] using h
  | cons v vs ih =>
    intro w cs h o hl
    simp only [List.length_cons] at hl
    have h0 : (w.setCell ⟨b, o, none⟩ v).heap[b]? = some (.cells (cs.set o v).toArray t (0, 0)) := by
      simp only [World.setCell]; rw [Array.getElem?_modify, if_pos rfl, h]; simp
    have h1 := ih h0 (o + 1) (by simp; omega)
    have e : (cs.set o v).take (o + 1) ++ vs ++ (cs.set o v).drop (o + 1 + vs.length) = cs.take o ++ v :: vs ++ cs.drop (o + (v :: vs).length) := by
      rw [List.take_set, List.drop_set_of_lt (by omega), List.take_succ_eq_append_getElem (by omega), List.set_append_right _ _ (by simp; omega)]
      simp [Nat.min_eq_left (show o ≤ cs.length by omega), show o + 1 + vs.length = o + (vs.length + 1) by omega]
    rw [← e]; exact h1
theorem OwnY.heap {t : TypeId} {w : World} {base g n cap : Nat} {l : List KyL} (h : OwnY t w base (.slice (some ⟨g, 0, none⟩) n cap) l) :
    ∃ cs : List Value, w.heap[g]? = some (.cells cs.toArray t (0, 0)) ∧ cs.length = cap * 2 ∧ cs.take (l.length * 2) = kcs l ∧ base ≤ g ∧ l.length ≤ cap ∧ cap ≤ maxLen ∧ n = l.length := by
  obtain ⟨h1, h2 | ⟨g', cap', cur, e, hb, hg, hc, hm, hs, ht⟩⟩ := h
  · exact absurd h2.1 (by simp)
  · injection e with e1 e2 e3
    injection e1 with e1
    injection e1 with e1 _ _
    subst e1 e3
    exact ⟨cur.toList, by simpa using hg, by simpa using hs, by simpa using ht, hb, hc, hm, e2⟩
theorem OwnY.of_heap {t : TypeId} {w : World} {base g cap n : Nat} {cs : List Value} {l : List KyL} (hb : base ≤ g) (hg : w.heap[g]? = some (.cells cs.toArray t (0, 0))) (hc : cs.length = cap * 2) (hm : cap ≤ maxLen) (hn : l.length = n) (hl : cs.take (n * 2) = kcs l) (hnc : n ≤ cap) :
    OwnY t w base (.slice (some ⟨g, 0, none⟩) n cap) l := by
  subst hn
  exact ⟨by rw [kcs_len]; omega, .inr ⟨g, cap, cs.toArray, rfl, hb, hg, hnc, hm, by simpa using hc, by simpa using hl⟩⟩
abbrev zkyC : List Value := [.int .u64 0, .slice none 0 0]
/-- clear of one event. -/
theorem run_clear_ky (w : World) (ty : TypeId) (b o c : Nat) (hc : ∀ j, j < 2 → (w.cell? ⟨b, o + j, none⟩).isSome = true) (hf : ∀ j, j < 2 → w.frozen? ⟨b, o + j, none⟩ = false) :
    (Builtin.clear_ #[tKys] ty #[.slice (some ⟨b, o, none⟩) 1 c]).run Tryd.prog w = .ok (.tuple #[]) (w.setCells b o zkyC) := by
  have hv : ∀ w, (zeroValue tKy).run Tryd.prog w = .ok zky w := fun w => by kernel_rfl
  have hzc : (Builtin.zeroCells (Value.cells zky) 1).toList = zkyC := by kernel_rfl
  have hst := run_storeCells_cells (P := Tryd.prog) b o zkyC 0 w (by simpa using hc) (by simpa using hf) (by simp [Value.oneCell'])
  simp only [Nat.add_zero] at hst
  simp [Builtin.clear_, run_underlying Tryd.underlying47, hv, hzc, hst]
theorem kcs_take (xs : List KyL) (k : Nat) (hk : k ≤ xs.length) : (kcs xs).take (k * 2) = kcs (xs.take k) := by
  conv => lhs; rw [← List.take_append_drop k xs, kcs_app]
  rw [List.take_append_of_le_length (by rw [kcs_len, List.length_take]; omega), List.take_of_length_le (by rw [kcs_len, List.length_take]; omega)]
theorem kcs_drop (xs : List KyL) (k : Nat) (hk : k ≤ xs.length) : (kcs xs).drop (k * 2) = kcs (xs.drop k) := by
  conv => lhs; rw [← List.take_append_drop k xs, kcs_app]
  rw [List.drop_append_of_le_length (by rw [kcs_len, List.length_take]; omega), List.drop_of_length_le (by rw [kcs_len, List.length_take]; omega), List.nil_append]
set_option maxHeartbeats 2000000 in
theorem delete_ky (base g cap : Nat) (l : List KyL) (k j : Nat) (hj : j = k + 1) (w : World) (hO : OwnY tKy w base (.slice (some ⟨g, 0, none⟩) l.length cap) l) (hk : k < l.length) (hl : l.length ≤ 100000) :
    Calls Tryd.prog 18 #[.slice (some ⟨g, 0, none⟩) l.length cap, .int .i64 (k : Int), .int .i64 (j : Int)] w fun e w' => e = .returned (.slice (some ⟨g, 0, none⟩) (l.length - 1) cap) ∧ OwnY tKy w' base (.slice (some ⟨g, 0, none⟩) (l.length - 1) cap) (l.take k ++ l.drop j) ∧ w.grownBy w' (some g) := by
  obtain ⟨cs, hheap, hcs, htk, hbg, hlc, hcm, _⟩ := hO.heap
  have hcm' : cap ≤ 9223372036854775807 := by unfold maxLen at hcm; exact hcm
  obtain ⟨i0, hi, hz0, hz1, hz2⟩ := info_parts info_ky
  obtain ⟨m, hm⟩ : ∃ m, m = l.length - 1 := ⟨_, rfl⟩
  obtain ⟨D, hD⟩ : ∃ D, D = l.drop j := ⟨_, rfl⟩
  have hDl : D.length = l.length - j := by rw [hD, List.length_drop]
  rw [← hm, ← hD]
  have hB : Blk w g cs := ⟨_, hheap⟩
  have hvl : (kcs D).length = 2 * D.length := kcs_len D
  have hcell : ∀ i u, (kcs D)[i]? = some u → cs[j * 2 + i]? = some u := by
    intro i u hu
    have hj2 : i < (kcs D).length := (List.getElem?_eq_some_iff.1 hu).1
    have h1 : (cs.take (l.length * 2))[j * 2 + i]? = (kcs l)[j * 2 + i]? := by rw [htk]
    rw [List.getElem?_take, if_pos (by omega)] at h1
    rw [h1, ← List.getElem?_drop, kcs_drop l j (by omega), ← hD]
    exact hu
  obtain ⟨A, hA, hsrc⟩ : ∃ A : Addr, (if cap = j then some (⟨g, 0, none⟩ : Addr) else some ⟨g, j * 2, none⟩) = some A ∧ Hid (∀ i u, (kcs D)[i]? = some u → w.drew.cell? (A.add i) = some u) := by
    refine ⟨if cap = j then ⟨g, 0, none⟩ else ⟨g, j * 2, none⟩, by split <;> rfl, fun i u hu => ?_⟩
    have hj2 : i < (kcs D).length := (List.getElem?_eq_some_iff.1 hu).1
    rw [if_neg (by omega)]
    rw [Addr.add_mid]
    exact hB.at (hcell i u hu)
  have hspare : Hid (∀ j, j < (kcs D).length → (w.drew.cell? ⟨g, 0 + k * 2 + j, none⟩).isSome = true ∧ w.drew.frozen? ⟨g, 0 + k * 2 + j, none⟩ = false) := Lib.hid fun j hj => by
    have hj' : k * 2 + j < cs.length := by omega
    refine ⟨?_, hB.free _⟩
    show (w.cell? _).isSome = true
    rw [hB.cell, show 0 + k * 2 + j = k * 2 + j by omega, List.getElem?_eq_getElem hj']; rfl
  obtain ⟨W1, hW1⟩ : ∃ W1, W1 = w.drew.setCells g (0 + k * 2) (kcs D) := ⟨_, rfl⟩
  have hH1 := heap_setCellsY (w := w.drew) (vs := kcs D) hheap (0 + k * 2) (by omega)
  rw [← hW1] at hH1
  obtain ⟨cs1, hcs1⟩ : ∃ c : List Value, c = cs.take (0 + k * 2) ++ kcs D ++ cs.drop (0 + k * 2 + (kcs D).length) := ⟨_, rfl⟩
  rw [← hcs1] at hH1
  have hlen1 : cs1.length = cap * 2 := by rw [hcs1]; simp; omega
  have htk1 : cs1.take (m * 2) = kcs (l.take k ++ D) := by
    have e0 : cs.take (k * 2) = kcs (l.take k) := by
      rw [← kcs_take l k (by omega), ← htk, List.take_take, Nat.min_eq_left (by omega)]
    rw [hcs1, Nat.zero_add, e0, ← kcs_app, List.take_append_of_le_length (by rw [kcs_len, List.length_append, List.length_take]; omega), List.take_of_length_le (by rw [kcs_len, List.length_append, List.length_take]; omega)]
  have hB1 : Blk W1 g cs1 := ⟨_, hH1⟩
  have hcl : ∀ ty, (Builtin.clear_ #[tKys] ty #[.slice (some ⟨g, m * 2, none⟩) 1 (cap - m)]).run Tryd.prog W1 = .ok (.tuple #[]) (W1.setCells g (m * 2) zkyC) := fun ty =>
    run_clear_ky W1 ty g (m * 2) (cap - m) (fun j hj => by rw [hB1.cell, List.getElem?_eq_getElem (by omega)]; rfl) (fun j hj => hB1.free _)
  have hH2 := heap_setCellsY (w := W1) (vs := zkyC) hH1 (m * 2) (by show m * 2 + 2 ≤ _; omega)
  have hfin : Hid (OwnY tKy (W1.setCells g (m * 2) zkyC) base (.slice (some ⟨g, 0, none⟩) m cap) (l.take k ++ D)) := Lib.hid (by
    refine OwnY.of_heap hbg hH2 ?_ hcm (by rw [List.length_append, List.length_take]; omega) ?_ (by omega)
    · have : zkyC.length = 2 := rfl
      simp only [List.length_append, List.length_take, List.length_drop]
      omega
    · rw [List.append_assoc, List.take_append_of_le_length (by rw [List.length_take]; omega), List.take_take, Nat.min_self, htk1])
  have hgr : Hid (w.grownBy (W1.setCells g (m * 2) zkyC) (some g)) := Lib.hid (by
    have h1 : w.grownBy W1 (some g) := by rw [hW1]; exact (grown_drewN (World.grownBy.refl w (some g)) 1).trans (grown_setCells g _ _ _)
    exact h1.trans (grown_setCells g _ _ _))
  have HL2 : Hid (k + (l.length - j) = l.length - 1) := Lib.hid (by omega)
  have hm1 : l.length - 1 ≤ l.length := by omega
  have hm2 : l.length - 1 ≤ cap := by omega
  have hjc : j ≤ cap := by omega
  have hjl : j ≤ l.length := by omega
  have hkj : k ≤ j := by omega
  have hkc : k ≤ cap := by omega
  have hW : Hid (W1 = w.drew.setCells g (0 + k * 2) (kcs D)) := hW1
  have s1 : Hid ((kcs D).length = (l.length - j) * 2) := Lib.hid (by omega)
  have s2 : Hid (∀ u ∈ kcs D, u.oneCell' = true) := Lib.hid (kcs_one _)
  have hn0 : ((k : Int) == (j : Int)) = false := beq_eq_false_iff_ne.2 (by omega)
  subst hm
  have hcl2 : ∀ ty, (Builtin.clear_ #[tKys] ty #[.slice (some ⟨g, (l.length - 1) * 2, none⟩) (l.length - (l.length - 1)) (cap - (l.length - 1))]).run Tryd.prog W1 = .ok (.tuple #[]) (W1.setCells g ((l.length - 1) * 2) zkyC) := by
    rw [show l.length - (l.length - 1) = 1 from by omega]; exact hcl
  clear hcl
  clear hO hheap hcs htk hB hcell hW1 hH1 hcs1 hlen1 htk1 hB1 hH2 hcm hDl hvl hD hj
  go_enter Tryd.func18, Tryd.ntmps18
  go_wp2_with fail
  go_region_law ((refine step_append_room rfl (.tmp 22) (.tmp 25) tKys rfl tKy i0 2 Tryd.underlying47 hi hz1 g 0 k cap (by go_simp) A (l.length - j) (cap - j) (kcs D) (by simp [Act.eval, Act.put]) s1.out hsrc.out s2.out (by omega) hspare.out ?_; rw [← hW.out, HL2.out]))
  go_wp2_with fail
  go_ret
  exact ⟨rfl, hfin.out, hgr.out⟩
end Go.Proofs.YtcjjhaonogfcjaaDoor
namespace Go.Proofs.YtcjjhaonogfcjaaDoor
open Go Go.RowKit
attribute [local go_sem] Oper.semAt_some
end Go.Proofs.YtcjjhaonogfcjaaDoor
