/- box: entries as lists, and rows of them in memory (rule's rows turned by a script). box: the map from entries to numbers, known by what it answers. A Box in memory; box.enter. -/
import Derived.Test.YtlnjpmpddomjiaaGreatDoorGmMgA
import Derived.Test.YtlnjpmpddomjiaaGreatDoorGmReg
import Derived.Test.YtlnjpmpddomjiaaGreatDoorGmBxHa
import Derived.Deep.AppendLies
import Derived.Maps.OwnSet
import Derived.Maps.Own
import Derived.DeepKeys3
import Derived.Deep.RegionHeld3
set_option maxRecDepth 100000
namespace Go.Proofs.YtlnjpmpddomjiaaGreatDoor
open Go.RowKit
attribute [local go_sem] Oper.semAt_some
/-- An entry of a symbolic box: kind, key, text, rounds, the numbers of its terms, mask. -/
structure EnL where
  kind : Int
  key : List UInt8
  text : List UInt8
  rounds : Int
  lst : List UInt8
  mask : List UInt8
/-- An entry's cells, and the cells of entries. -/
def ecl (e : EnL) : List Value := [.int .i64 e.kind, str e.key, str e.text, .int .i64 e.rounds, str e.lst, str e.mask]
def ecs (xs : List EnL) : List Value := xs.flatMap ecl
abbrev zent : Value := .agg #[.int .i64 0, str [], str [], .int .i64 0, str [], str []]
abbrev eagg (e : EnL) : Value := .agg #[.int .i64 e.kind, str e.key, str e.text, .int .i64 e.rounds, str e.lst, str e.mask]
theorem info_en : (Tryz.prog.info? 78).map (fun i => (i.zero, i.size, i.bytes)) = some (some zent, 6, 80) := by kernel_rfl
theorem ecs_snoc (xs : List EnL) (x : EnL) : ecs (xs ++ [x]) = ecs xs ++ ecl x := by unfold ecs; simp
theorem ecs_len (xs : List EnL) : (ecs xs).length = 6 * xs.length := by
  induction xs with
  | nil => rfl
  | cons x t ih => show (ecl x ++ ecs t).length = _; rw [List.length_append, ih, List.length_cons]; show 6 + _ = _; omega
theorem ecs_at : ∀ (xs : List EnL) (k : Nat) (hk : k < xs.length) (i : Nat), i < 6 → (ecs xs)[k * 6 + i]? = (ecl (xs[k]'hk))[i]?
  | [], k, hk, _, _ => by simp at hk
  | x :: t, 0, hk, i, hi => by
    show (ecl x ++ ecs t)[0 * 6 + i]? = _
    rw [List.getElem?_append_left (by show 0 * 6 + i < 6; omega)]
    simp
  | x :: t, k + 1, hk, i, hi => by
    have ih := ecs_at t k (by simpa using hk) i hi
    show (ecl x ++ ecs t)[(k + 1) * 6 + i]? = _
    rw [List.getElem?_append_right (by show 6 ≤ (k + 1) * 6 + i; omega), show (k + 1) * 6 + i - (ecl x).length = k * 6 + i by show (k + 1) * 6 + i - 6 = _; omega]
    exact ih
theorem ecs_one (xs : List EnL) : ∀ u ∈ ecs xs, u.oneCell' = true := by
  intro u hu
  unfold ecs at hu
  rw [List.mem_flatMap] at hu
  obtain ⟨x, _, hx⟩ := hu
  unfold ecl at hx
  simp only [List.mem_cons, List.not_mem_nil, or_false] at hx
  rcases hx with rfl | rfl | rfl | rfl | rfl | rfl <;> rfl
abbrev tEn : TypeId := 78
/-- A row of entries of the call's own. -/
def OwnE (w : World) (base : Nat) (v : Value) (xs : List EnL) : Prop := w.ownsRow base tEn 6 v xs.length (ecs xs)
section
variable {w w' : World} {base base' : Nat} {v : Value} {xs : List EnL}
theorem OwnE.nil (w : World) (base : Nat) : OwnE w base (.slice none 0 0) [] := World.ownsRow_nil w base _ 6
theorem OwnE.below (h : OwnE w base v xs) (hb : Below w.heap.size w w') : OwnE w' base v xs :=
  World.ownsRow.kept h (grown_of_below hb none) (by by_cases e : v.ownBlock = none; exact .inl e; exact .inr e)
theorem OwnE.form (h : OwnE w base v xs) : ∃ A c, v = .slice A xs.length c ∧ xs.length ≤ c ∧ c ≤ 9223372036854775807 := by
  obtain ⟨h1, ⟨h2, h3⟩ | ⟨g, cap, cur, h0, hb, hg, hc, hm, h4⟩⟩ := id h
  · have hx : xs = [] := List.eq_nil_of_length_eq_zero h3
    subst hx
    exact ⟨none, 0, h2, by simp, by omega⟩
  · exact ⟨_, cap, h0, hc, by unfold maxLen at hm; omega⟩
theorem OwnE.le (h : OwnE w base v xs) (hb : base' ≤ base) : OwnE w base' v xs := by
  obtain ⟨h1, h2 | ⟨g, cap, cur, h0, hbg, hg, h3⟩⟩ := h
  · exact ⟨h1, .inl h2⟩
  · exact ⟨h1, .inr ⟨g, cap, cur, h0, by omega, hg, h3⟩⟩
theorem OwnE.lt (h : OwnE w base v xs) : ∀ k, v.ownBlock = some k → base ≤ k ∧ k < w.heap.size := World.ownsRow.lt h
theorem OwnE.set {b i : Nat} (h : OwnE w base v xs) (hb : b < base) (u : Value) : OwnE (w.setCell ⟨b, i, none⟩ u) base v xs :=
  World.ownsRow.kept h (grown_set w ⟨b, i, none⟩ u) (.inr (fun e => by have := (h.lt b e).1; omega))
end
/-- Rules that lie in memory, below block B. -/
def ElIn (W : World) (B : Nat) (v : Value) (xs : List EnL) : Prop :=
  ∃ A c, v = .slice A xs.length c ∧ xs.length ≤ c ∧ c ≤ 9223372036854775807 ∧ (0 < xs.length → ∃ g o, A = some ⟨g, o, none⟩ ∧ g < B ∧ ∀ k (hk : k < xs.length) i, i < 6 → W.cell? ⟨g, o + k * 6 + i, none⟩ = (ecl (xs[k]'hk))[i]?)
theorem OwnE.elIn {W : World} {base : Nat} {v : Value} {xs : List EnL} (h : OwnE W base v xs) : ElIn W W.heap.size v xs := by
  obtain ⟨h1, ⟨h2, h3⟩ | ⟨g, cap, cur, h0, hb, hg, hc, hm, h3⟩⟩ := id h
  · have hx : xs = [] := List.eq_nil_of_length_eq_zero h3
    subst hx
    exact ⟨none, 0, h2, by simp, by omega, fun h => by simp at h⟩
  · refine ⟨_, cap, h0, hc, by unfold maxLen at hm; omega, fun _ => ⟨g, 0, rfl, (Array.getElem?_eq_some_iff.1 hg).1, fun k hk i hi => ?_⟩⟩
    have hat := ecs_at xs k hk i hi
    have hsome : (ecl xs[k])[i]? = some ((ecl xs[k])[i]'hi) := List.getElem?_eq_getElem hi
    rw [hsome] at hat ⊢
    have := World.ownsRow.cells h (g := g) (by rw [h0]; rfl) (k * 6 + i) _ hat
    rw [Addr.add_lit] at this
    rw [Nat.zero_add]
    simpa using this
theorem ElIn.below {W W' : World} {B B' : Nat} {v : Value} {xs : List EnL} (h : ElIn W B v xs) (hb : Below B' W W') (hB : B ≤ B') : ElIn W' B v xs := by
  obtain ⟨A, c, e, h1, h2, h⟩ := h
  refine ⟨A, c, e, h1, h2, fun hl => ?_⟩
  obtain ⟨g, o, hg, hlt, h3⟩ := h hl
  exact ⟨g, o, hg, hlt, fun k hk i hi => (hb.cell (p := ⟨g, o + k * 6 + i, none⟩) (by show g < B'; omega)).trans (h3 k hk i hi)⟩
theorem ElIn.more {W : World} {B B' : Nat} {v : Value} {xs : List EnL} (h : ElIn W B v xs) (hB : B ≤ B') : ElIn W B' v xs := by
  obtain ⟨A, c, e, h1, h2, h⟩ := h
  refine ⟨A, c, e, h1, h2, fun hl => ?_⟩
  obtain ⟨g, o, hg, hlt, h3⟩ := h hl
  exact ⟨g, o, hg, by omega, h3⟩
/-- The six cells of one of them. -/
theorem ElIn.six {W : World} {B : Nat} {A : Option Addr} {n c : Nat} {xs : List EnL} (h : ElIn W B (.slice A n c) xs) (k : Nat) (hk : k < xs.length) :
    ∃ g o, A = some ⟨g, o, none⟩ ∧ g < B ∧ W.cell? ⟨g, o + k * 6, none⟩ = some (.int .i64 xs[k].kind) ∧ W.cell? ⟨g, o + k * 6 + 1, none⟩ = some (str xs[k].key) ∧ W.cell? ⟨g, o + k * 6 + 2, none⟩ = some (str xs[k].text) ∧
      W.cell? ⟨g, o + k * 6 + 3, none⟩ = some (.int .i64 xs[k].rounds) ∧ W.cell? ⟨g, o + k * 6 + 4, none⟩ = some (str xs[k].lst) ∧ W.cell? ⟨g, o + k * 6 + 5, none⟩ = some (str xs[k].mask) := by
  obtain ⟨A', c', e, _, _, h⟩ := h
  obtain ⟨g, o, hg, hlt, h3⟩ := h (by omega)
  injection e with e1 e2 e3
  subst e1
  exact ⟨g, o, hg, hlt, h3 k hk 0 (by omega), h3 k hk 1 (by omega), h3 k hk 2 (by omega), h3 k hk 3 (by omega), h3 k hk 4 (by omega), h3 k hk 5 (by omega)⟩
theorem ElIn.cells {W : World} {B : Nat} {g o c : Nat} {xs : List EnL} (h : ElIn W B (.slice (some ⟨g, o, none⟩) xs.length c) xs) : ∀ j u, (ecs xs)[j]? = some u → W.cell? ⟨g, o + j, none⟩ = some u := by
  obtain ⟨A', c', e, _, _, h⟩ := h
  intro j u hu
  have hj : j < (ecs xs).length := by
    rcases Nat.lt_or_ge j (ecs xs).length with h | h
    · exact h
    · rw [List.getElem?_eq_none h] at hu; cases hu
  rw [ecs_len] at hj
  obtain ⟨g', o', hg, hlt, h3⟩ := h (by omega)
  injection e with e1 e2 e3
  subst e1
  cases hg
  have h4 := h3 (j / 6) (by omega) (j % 6) (by omega)
  have h5 := ecs_at xs (j / 6) (by omega) (j % 6) (by omega)
  rw [← h5, Nat.add_assoc, show j / 6 * 6 + j % 6 = j by omega, hu] at h4
  exact h4
end Go.Proofs.YtlnjpmpddomjiaaGreatDoor
set_option maxRecDepth 100000
namespace Go.Proofs.YtlnjpmpddomjiaaGreatDoor
open Go.RowKit
abbrev tME : TypeId := 65
theorem EnL.eq {a b : EnL} (h1 : a.kind = b.kind) (h2 : a.key = b.key) (h3 : a.text = b.text) (h4 : a.rounds = b.rounds) (h5 : a.lst = b.lst) (h6 : a.mask = b.mask) : a = b := by
  cases a; cases b; simp_all
instance : DecidableEq EnL := fun a b =>
  if h : a.kind = b.kind ∧ a.key = b.key ∧ a.text = b.text ∧ a.rounds = b.rounds ∧ a.lst = b.lst ∧ a.mask = b.mask then isTrue (EnL.eq h.1 h.2.1 h.2.2.1 h.2.2.2.1 h.2.2.2.2.1 h.2.2.2.2.2)
  else isFalse (fun e => h (by subst e; exact ⟨rfl, rfl, rfl, rfl, rfl, rfl⟩))
/-- An entry that there may be. -/
structure OkE (e : EnL) : Prop where
  k0 : 0 ≤ e.kind
  k1 : e.kind ≤ 100
  r0 : 0 ≤ e.rounds
  r1 : e.rounds ≤ 100000
  l1 : e.key.length ≤ 1000000
  l2 : e.text.length ≤ 1000000
  l3 : e.lst.length ≤ 1000000
  l4 : e.mask.length ≤ 1000000
/-- How an entry reads as a key. -/
def kE (e : EnL) : Lit := .string (keyBytes [.int .i64 e.kind, .string e.key, .string e.text, .int .i64 e.rounds, .string e.lst, .string e.mask])
theorem en_keyed : Maps.Keyed Tryz.prog tEn := Maps.Keyed.of_law (deep_law (m := 2) (by omega) (by kernel_rfl) (by kernel_rfl) (by kernel_rfl))
theorem en_key (e : EnL) (h : OkE e) : keyOf Tryz.prog tEn (eagg e) = some (kE e) := by
  have hk : Tryz.prog.keyType tEn = true := by kernel_rfl
  have hc : Tryz.prog.cellsOf tEn = 6 := by kernel_rfl
  have hi : Tryz.prog.cellsOf 3 = 1 := by kernel_rfl
  have hs : Tryz.prog.cellsOf 9 = 1 := by kernel_rfl
  obtain ⟨n, hn⟩ : ∃ n, Tryz.prog.types.size = n + 1 := ⟨Tryz.prog.types.size - 1, by kernel_rfl⟩
  obtain ⟨k0, k1, r0, r1, l1, l2, l3, l4⟩ := h
  have w1 : (Lit.int .i64 e.kind).wf = true := by simp [Lit.wf, IntKind.min, IntKind.max, IntKind.bits, IntKind.signed]; omega
  have w2 : (Lit.int .i64 e.rounds).wf = true := by simp [Lit.wf, IntKind.min, IntKind.max, IntKind.bits, IntKind.signed]; omega
  have m1 : e.key.length ≤ maxLen := by unfold maxLen; omega
  have m2 : e.text.length ≤ maxLen := by unfold maxLen; omega
  have m3 : e.lst.length ≤ maxLen := by unfold maxLen; omega
  have m4 : e.mask.length ≤ maxLen := by unfold maxLen; omega
  have kI : ∀ z : Int, (Lit.int .i64 z).wf = true → Tryz.prog.keyLits (n + 1) 3 [.int .i64 z] = some [.int .i64 z] := fun z hz => by
    simp [Program.keyLits, Tryz.underlying3, hz]
  have kS : ∀ s : List UInt8, s.length ≤ maxLen → Tryz.prog.keyLits (n + 1) 9 [str s] = some [.string s] := fun s hs => by
    simp [Program.keyLits, Tryz.underlying9, ByteArray.size, hs]
  have e1 := kI _ w1
  have e2 := kS _ m1
  have e3 := kS _ m2
  have e4 := kI _ w2
  have e5 := kS _ m3
  have e6 := kS _ m4
  clear kI kS
  unfold keyOf
  rw [Tryz.underlying78]
  simp only [hk, Bool.true_and]
  rw [if_pos (by simp only [Value.formed, Tryz.underlying78, hc]; rfl), hn]
  unfold Program.keyLits
  simp only [Tryz.underlying78, Value.cells, hc]
  rw [if_pos ⟨rfl, by simp⟩]
  simp only [List.mapM_cons, List.mapM_nil, hi, hs, List.drop_zero, List.drop_succ_cons, List.take_succ_cons, List.take_zero, e1, e2, e3, e4, e5, e6]
  rfl
theorem kE_inj {a b : EnL} (ha : OkE a) (hb : OkE b) (h : kE a = kE b) : a = b := by
  have h1 := en_key a ha
  have h2 := en_key b hb
  rw [← h] at h2
  have h3 := en_keyed.inj h1 h2
  simp only [Value.agg.injEq, Array.mk.injEq, List.cons.injEq, Value.int.injEq, Value.string.injEq, true_and, and_true, ByteArray.mk.injEq] at h3
  obtain ⟨e1, e2, e3, e4, e5, e6⟩ := h3
  refine EnL.eq e1 ?_ ?_ e4 ?_ ?_
  · simpa using e2
  · simpa using e3
  · simpa using e5
  · simpa using e6
/-- How a number reads. -/
def rdN : Value → Option (DataW Unit × List MemPlace)
  | .int .i64 n => some (.lit (.int .i64 n), [])
  | _ => none
theorem rdN_inv {v : Value} {n : Int} {ps : List MemPlace} (h : rdN v = some (.lit (.int .i64 n), ps)) : v = .int .i64 n := by
  unfold rdN at h
  split at h
  · simp at h; rw [h.1]
  · cases h
/-- An entry's number; 0: it has none. -/
def numE (es : List EnL) (e : EnL) : Nat := if e ∈ es then es.idxOf e + 1 else 0
theorem numE_le (es : List EnL) (e : EnL) : numE es e ≤ es.length := by
  unfold numE
  split
  · rename_i h; exact List.idxOf_lt_length_of_mem h
  · omega
theorem numE_new {es : List EnL} {e : EnL} (h : e ∉ es) : numE (es ++ [e]) e = es.length + 1 := by
  unfold numE
  rw [if_pos (by simp), List.idxOf_append, if_neg h]
  simp
theorem numE_old {es : List EnL} {e x : EnL} (h : x ≠ e) : numE (es ++ [e]) x = numE es x := by
  unfold numE
  by_cases hx : x ∈ es
  · rw [if_pos hx, if_pos (by simp [hx]), List.idxOf_append, if_pos hx]
  · rw [if_neg hx, if_neg (by simp [hx, h])]
/-- The map at block m holds the numbers of es. -/
def MpE (w : World) (m : Nat) (es : List EnL) : Prop :=
  ∃ D, w.ownsMap Tryz.prog tEn rdN m 5000 D ∧ (∀ e z, OkE e → D.atKey (kE e) z = if e ∈ es then .lit (.int .i64 (numE es e : Nat)) else z) ∧ Maps.size D ≤ es.length
theorem ownsMap_fitE {w : World} {b n n' : Nat} {D : DataW Unit} (h : w.ownsMap Tryz.prog tEn rdN b n D) (hs : Maps.size D ≤ n') : w.ownsMap Tryz.prog tEn rdN b n' D := by
  obtain ⟨es, clock, hb, F, _, rfl⟩ := h
  refine ⟨es, clock, hb, F, ?_, rfl⟩
  simpa [Maps.size, length_sorted] using hs
section
variable {w w' : World} {m : Nat} {es : List EnL} {e : EnL}
theorem MpE.at (h : MpE w m es) (hb : w'.heap[m]? = w.heap[m]?) : MpE w' m es := by
  obtain ⟨D, ⟨xs, clock, h1, h2⟩, h3⟩ := h
  exact ⟨D, ⟨xs, clock, hb.trans h1, h2⟩, h3⟩
theorem MpE.isMap (h : MpE w m es) : ∃ xs c, w.heap[m]? = some (Obj.map xs c) := by
  obtain ⟨D, ⟨xs, clock, h1, _⟩, _⟩ := h
  exact ⟨xs, clock, h1⟩
theorem MpE.lt (h : MpE w m es) : m < w.heap.size := by
  obtain ⟨_, _, h⟩ := h.isMap
  exact (Array.getElem?_eq_some_iff.1 h).1
theorem MpE.look (h : MpE w m es) (he : OkE e) : (Instr.lookup tME (.map (some m)) (eagg e) true).run Tryz.prog w = .ok (.tuple #[.int .i64 ((numE es e : Nat) : Int), .bool (decide (e ∈ es))]) w := by
  obtain ⟨D, hD, hI, _⟩ := h
  obtain ⟨v, ps, h1, h2⟩ := hD.look_ok en_keyed Tryz.underlying65 (z := .int .i64 0) (by kernel_rfl) (zd := .lit (.int .i64 0)) (zp := []) rfl (en_key e he)
  rw [h1]
  have hh : Maps.has D (kE e) = decide (e ∈ es) := by
    by_cases hp : e ∈ es
    · rw [decide_eq_true hp]; exact Maps.has_true_of_atKey (y := .lit (.int .i64 (numE es e : Nat))) (fun z => by rw [hI e z he, if_pos hp])
    · rw [decide_eq_false hp]; exact Maps.has_false_of_atKey (fun z => by rw [hI e z he, if_neg hp])
  rw [hh]
  have : v = .int .i64 ((numE es e : Nat) : Int) := rdN_inv (ps := ps) (by
    rw [h2, hI e _ he]
    by_cases hp : e ∈ es
    · rw [if_pos hp]
    · rw [if_neg hp]; simp [numE, hp])
  rw [this]
theorem MpE.new (w : World) : MpE (w.alloc (.map #[] 0)) w.heap.size [] := by
  refine ⟨.map [], (World.ownsMap_made w _ _ _).mono (by omega), fun e z _ => ?_, by simp [Maps.size]⟩
  simp [DataW.atKey]
theorem MpE.put (h : MpE w m es) (he : OkE e) (hn : e ∉ es) (hl : es.length < 4999) :
    ∃ w', (Instr.mapUpdate tME (.map (some m)) (eagg e) (.int .i64 ((es.length + 1 : Nat) : Int))).run Tryz.prog w = .ok () w' ∧ MpE w' m (es ++ [e]) ∧ w.grownBy w' (some m) := by
  obtain ⟨D, hD, hI, hs⟩ := h
  obtain ⟨w', h1, h2, h3⟩ := hD.update en_keyed Tryz.underlying65 (by decide) (en_key e he) (val := .int .i64 ((es.length + 1 : Nat) : Int)) (d := .lit (.int .i64 ((es.length + 1 : Nat) : Int))) (ps := []) rfl
  refine ⟨w', h1, ?_, h3⟩
  have ht := hD.tidy en_keyed
  have hsz := Maps.size_put (k := kE e) (d := .lit (.int .i64 ((es.length + 1 : Nat) : Int))) ht
  have hle : Maps.size (D.put (kE e) (.lit (.int .i64 ((es.length + 1 : Nat) : Int)))) ≤ es.length + 1 := by rw [hsz]; split <;> omega
  refine ⟨_, ownsMap_fitE h2 (by omega), fun x z hx => ?_, by rw [List.length_append]; exact hle⟩
  by_cases hxe : x = e
  · subst hxe
    rw [Maps.atKey_put_same ht.isMap (en_keyed.key (en_key x he)), if_pos (by simp), numE_new hn]
  · rw [Maps.atKey_put_other (fun h => hxe (kE_inj hx he h)), hI x z hx, numE_old hxe]
    by_cases hp : x ∈ es
    · rw [if_pos hp, if_pos (by simp [hp])]
    · rw [if_neg hp, if_neg (by simp [hp, hxe])]
end
end Go.Proofs.YtlnjpmpddomjiaaGreatDoor
set_option maxRecDepth 100000
namespace Go.Proofs.YtlnjpmpddomjiaaGreatDoor
open Go.RowKit
attribute [local go_sem] Oper.semAt_some
abbrev tP (b : Nat) : Value := .pointer (some ⟨b, 0, none⟩)
/-- A Box at block b: its map at m, its row rv. All of it lies from base on. -/
structure BX (w : World) (base b m : Nat) (rv : Value) (sym full : Bool) (es : List EnL) : Prop where
  blk : Blk w b [.bool sym, .bool full, rv, .map (some m)]
  row : OwnE w base rv es
  mp : MpE w m es
  bb : base ≤ b
  bm : base ≤ m
  nb : rv.ownBlock ≠ some b
  bmn : b ≠ m
  ok : ∀ e ∈ es, OkE e
  le : es.length ≤ 4096
section
variable {w w' : World} {base base' b m : Nat} {rv rv' : Value} {sym full : Bool} {es : List EnL}
theorem BX.nm (h : BX w base b m rv sym full es) : rv.ownBlock ≠ some m := by
  intro e
  obtain ⟨xs, c, hm⟩ := h.mp.isMap
  rcases h.row.2 with ⟨rfl, _⟩ | ⟨g, cap, cur, rfl, _, hg, _⟩
  · cases e
  · simp only [Value.ownBlock] at e
    injection e with e
    subst e
    rw [hm] at hg
    cases hg
theorem BX.trs {S : List Nat} (h : BX w base b m rv sym full es) (ht : Trs S w w') (h1 : b ∉ S) (h2 : m ∉ S) (h3 : ∀ k, rv.ownBlock = some k → k ∉ S) : BX w' base b m rv sym full es := by
  refine ⟨ht.blk h.blk h1, ?_, h.mp.at (ht.block m h.mp.lt h2), h.bb, h.bm, h.nb, h.bmn, h.ok, h.le⟩
  refine ⟨h.row.1, ?_⟩
  rcases h.row.2 with hn | ⟨g, cap, cur, rfl, hb, hg, rest⟩
  · exact .inl hn
  · exact .inr ⟨g, cap, cur, rfl, hb, (ht.block g (Array.getElem?_eq_some_iff.1 hg).1 (h3 g rfl)).trans hg, rest⟩
theorem BX.below (h : BX w base b m rv sym full es) (hb : Below w.heap.size w w') : BX w' base b m rv sym full es :=
  h.trs (Trs.of_below (S := []) hb) (by simp) (by simp) (by simp)
theorem BX.setFull (h : BX w base b m rv sym full es) (f : Bool) : BX (w.setCell ⟨b, 1, none⟩ (.bool f)) base b m rv sym f es := by
  have g1 := grown_set w ⟨b, 1, none⟩ (.bool f)
  refine ⟨h.blk.set 1 _, World.ownsRow.kept h.row g1 ?_, h.mp.at (g1.block m h.mp.lt (fun e => h.bmn (by injection e with e; exact e.symm))), h.bb, h.bm, h.nb, h.bmn, h.ok, h.le⟩
  exact .inr h.nb
/-- The blocks that may turn. -/
def bS (b m : Nat) (rv : Value) : List Nat := b :: m :: (match rv.ownBlock with | some k => [k] | none => [])
theorem mem_bS {b m k : Nat} {rv : Value} : k ∈ bS b m rv ↔ k = b ∨ k = m ∨ rv.ownBlock = some k := by
  unfold bS
  cases rv.ownBlock with
  | none => simp
  | some j => simp [eq_comm]
theorem BX.low (h : BX w base b m rv sym full es) (ht : Trs (bS b m rv) w w') (hB : base ≤ w.heap.size) : Below base w w' :=
  ht.toBelow hB (fun k hk => by
    rcases mem_bS.1 hk with rfl | rfl | e
    · exact h.bb
    · exact h.bm
    · exact (World.ownsRow.lt h.row k e).1)
end
/-- Under way: the row is longer by an entry, the map isn't yet; cv: what the Box's field holds. V: the world before. -/
structure PX (w V : World) (base b m bx : Nat) (cv nv rv : Value) (sym full : Bool) (es : List EnL) (e : EnL) : Prop where
  blk : Blk w b [.bool sym, .bool full, cv, .map (some m)]
  row : OwnE w base nv (es ++ [e])
  mp : MpE w m es
  ent : Blk w bx (ecl e)
  nb : nv.ownBlock ≠ some b
  nm : nv.ownBlock ≠ some m
  new : nv.ownBlock = rv.ownBlock ∨ ∃ k, nv.ownBlock = some k ∧ V.heap.size ≤ k
  trs : Trs (bS b m rv) V w
section
variable {w V Y1 Y2 : World} {base b m bx : Nat} {cv nv rv v' : Value} {sym full : Bool} {es : List EnL} {e : EnL}
theorem BX.push (h : BX V base b m rv sym full es) (hk : Blk V bx (ecl e)) (h1 : Y1 = V.drew.alloc (.cells (ecl e).toArray tEn)) (h2 : OwnE Y2 base v' (es ++ [e])) (h3 : Y1.grownBy Y2 rv.ownBlock) (h4 : v'.ownBlock = rv.ownBlock ∨ v'.ownBlock = some Y1.heap.size) (hx : rv.ownBlock ≠ some bx) :
    PX Y2 V base b m bx rv v' rv sym full es e := by
  have hb : Below V.heap.size V Y1 := by rw [h1]; exact ((Below.refl _ V).drew).alloc (Nat.le_refl _) _
  have hz : V.heap.size < Y1.heap.size := by rw [h1]; simp
  have hB := h.below hb
  have hbl := h.blk.lt
  have hml := h.mp.lt
  refine ⟨hB.blk.grown h3 (fun e => h.nb e.symm), h2, hB.mp.at (h3.block m hB.mp.lt (fun e => h.nm e.symm)), (hk.below hb hk.lt).grown h3 (fun e => hx e.symm), ?_, ?_, ?_, ((Trs.of_below hb).grown h3 (fun k e => mem_bS.2 (.inr (.inr e))))⟩
  · rcases h4 with e | e
    · rw [e]; exact h.nb
    · rw [e]; intro e2; injection e2 with e2; omega
  · rcases h4 with e | e
    · rw [e]; exact h.nm
    · rw [e]; intro e2; injection e2 with e2; omega
  · rcases h4 with e | e
    · exact .inl e
    · exact .inr ⟨_, e, by omega⟩
theorem PX.store (h : PX w V base b m bx cv nv rv sym full es e) (hbx : bx ≠ b) (hbm : m ≠ b) : PX (w.setCell ⟨b, 2, none⟩ nv) V base b m bx nv nv rv sym full es e := by
  have g1 := grown_set w ⟨b, 2, none⟩ nv
  exact ⟨h.blk.set 2 nv, World.ownsRow.kept h.row g1 (.inr h.nb), h.mp.at (g1.block m h.mp.lt (fun e => hbm (by injection e))), h.ent.grown g1 (fun e => hbx (by injection e)), h.nb, h.nm, h.new, h.trs.set (p := ⟨b, 2, none⟩) (mem_bS.2 (.inl rfl)) _⟩
end
section
variable {w V : World} {base b m bx : Nat} {nv rv : Value} {sym full : Bool} {es : List EnL} {e : EnL}
theorem PX.done (h : PX w V base b m bx nv nv rv sym full es e) (hV : BX V base b m rv sym full es) (he : OkE e) (hn : e ∉ es) (hl : es.length < 4096) (hm : m ≠ bx) :
    ∃ w', (Instr.mapUpdate tME (.map (some m)) (eagg e) (.int .i64 ((es.length + 1 : Nat) : Int))).run Tryz.prog w.drew = .ok () w' ∧ BX w' base b m nv sym full (es ++ [e]) ∧ Trs (bS b m rv) V w' ∧ Blk w' bx (ecl e) := by
  obtain ⟨w', h1, h2, h3⟩ := (h.mp.at (w' := w.drew) rfl).put he hn (by omega)
  have hbm := hV.bmn
  refine ⟨w', h1, ⟨h.blk.drew.grown h3 (fun q => hbm (Option.some.inj q)), World.ownsRow.kept (World.ownsRow.drew h.row) h3 (.inr h.nm), h2, hV.bb, hV.bm, h.nb, hbm, ?_, by rw [List.length_append]; simp; omega⟩, (h.trs.drew).grown h3 (fun k q => mem_bS.2 (.inr (.inl (Option.some.inj q).symm))), h.ent.drew.grown h3 (fun q => hm (Option.some.inj q).symm)⟩
  intro x hx
  rcases List.mem_append.1 hx with hx | hx
  · exact hV.ok x hx
  · rw [List.mem_singleton.1 hx]; exact he
end
/-- What entering an entry leaves, and tells. -/
def noughtsL : List UInt8 := List.replicate 32 0
def esE (es : List EnL) (e : EnL) : List EnL := if e ∈ es then es else if 4096 ≤ es.length then es else es ++ [e]
def fullE (full : Bool) (es : List EnL) (e : EnL) : Bool := if e ∈ es then full else if 4096 ≤ es.length then true else full
def tagE (es : List EnL) (e : EnL) : List UInt8 := if e ∈ es then fro ++ len4 (numE es e) else if 4096 ≤ es.length then noughtsL else fro ++ len4 (es.length + 1)
/-- What a call on a Box leaves: a tag of its own, the Box, and nothing else turned. -/
def EnR (w : World) (base b m : Nat) (rv : Value) (sym : Bool) (tag : List UInt8) (full : Bool) (es : List EnL) (r : Ending) (w' : World) : Prop :=
  ∃ v rv', r = .returned v ∧ OwnB w' w.heap.size v tag ∧ BX w' base b m rv' sym full es ∧ Trs (bS b m rv) w w' ∧ (rv' = rv ∨ rv'.ownBlock = rv.ownBlock ∨ ∃ k, rv'.ownBlock = some k ∧ w.heap.size ≤ k) ∧ v.ownBlock ≠ rv'.ownBlock
section
variable {ops : Array Oper} {Q : Exit → Act → World → Prop} {K : Act → World → Prop} {a : Act} {w : World} {i : Nat} {o : Oper}
theorem wpOp_appE (d : Tmp) (hi : ops[i]? = some o) (hd : o.dst = some d) (hgd : o.guard = none) (s x : Operand) (ho : o.op = .call { callee := .builtin .append, args := #[s, x], argTypes := #[66, 66] })
    (base : Nat) (v : Value) (xs : List EnL) (hs : a.eval s = v) (hown : OwnE w base v xs) (gb : Nat) (r : EnL) (hx : a.eval x = .slice (some ⟨gb, 0, none⟩) 1 1)
    (hnew : Blk w gb (ecl r)) (hn : xs.length ≤ 100000) (hbase : base ≤ w.heap.size)
    (h : ∀ v' w', OwnE w' base v' (xs ++ [r]) → w.grownBy w' v.ownBlock → (v'.ownBlock = v.ownBlock ∨ v'.ownBlock = some w.heap.size) → K (a.put (some d) v') w') : wpOp Tryz.prog ops Q i K a w := by
  rw [← hd] at h
  have hw : Region.wanted o (yielded ops a.tmps) = true := by simp [Region.wanted, hgd]
  obtain ⟨i0, hi0, hz0, hz1, hz2⟩ := info_parts info_en
  obtain ⟨tt, hnew⟩ := hnew
  have := step_append_lies (P := Tryz.prog) w (ops := ops) (o := o) (a := a) (K := K) (Q := Q) (E := True) hgd s x 66 ho base 78 i0 zent 6 80 Tryz.underlying66 hi0 hz0 hz1 hz2 rfl (by decide) v xs.length (ecs xs) hs hown ⟨gb, 0, none⟩ 1 1 (ecl r) hx rfl (World.news_of_block hnew) (by simp [ecl, Value.oneCell']) (by omega) (by unfold maxLen; omega) (by omega) hbase w.heap.size rfl (fun g cap w' h1 h2 h3 _ => h _ w' (by unfold OwnE; rw [List.length_append, ecs_snoc]; exact h1) h2 (by rcases h3 with e | e; exact .inl (by rw [e]; rfl); exact .inr (by rw [e]; rfl)))
  rw [if_pos hw] at this
  exact wpOp_of_wp hi hw this
theorem wpOp_storeE {P : Program} {w' : World} (hi : ops[i]? = some o) (hd : o.dst = none) (hw : Region.wanted o (yielded ops a.tmps) = true)
    (hr : (execOp a.eval o).run P w = .ok .skip w') (h : K a w') : wpOp P ops Q i K a w :=
  wpOp_of_wp hi hw (by unfold Oper.wp; rw [hr]; show K (a.put o.dst undef) w'; rw [hd]; exact h)
theorem wpOp_valueE {P : Program} (d : Tmp) (hi : ops[i]? = some o) (hd : o.dst = some d) (hw : Region.wanted o (yielded ops a.tmps) = true) (v : Value) (w' : World) (hr : (execOp a.eval o).run P w = .ok (.value v) w') (h : K (a.put (some d) v) w') : wpOp P ops Q i K a w :=
  wpOp_of_wp hi hw (by unfold Oper.wp; rw [hr]; rw [← hd] at h; exact h)
end
theorem noughts_own (w : World) : OwnB (w.alloc (.cells (noughts 32) 5)) w.heap.size (.slice (some ⟨w.heap.size, 0, none⟩) 32 32) noughtsL :=
  OwnB.of_heap (n := 32) (Nat.le_refl _) (heap_alloc_new w _) (noughts_size 32) (by decide) (by simp [noughtsL]) (by rw [noughts_list]; simp [noughtsL]) (Nat.le_refl _)
set_option maxHeartbeats 4000000 in
theorem enter_any {w : World} {base b m : Nat} {rv : Value} {sym full : Bool} {es : List EnL} (e : EnL) (h : BX w base b m rv sym full es) (he : OkE e) (hB : base ≤ w.heap.size) :
    Calls Tryz.prog 34 #[tP b, eagg e] w (EnR w base b m rv sym (tagE es e) (fullE full es e) (esE es e)) := by
  have hlen := h.le
  obtain ⟨RA, rc, rfl, hrc1, hrc2⟩ := h.row.form
  have hnum := numE_le es e
  obtain ⟨bx, hbx⟩ : ∃ bx, bx = w.heap.size := ⟨_, rfl⟩
  obtain ⟨V1, hV1⟩ : ∃ V, V = w.alloc (.cells (ecl e).toArray tEn) := ⟨_, rfl⟩
  have hb1 : Below w.heap.size w V1 := by rw [hV1]; exact (Below.refl _ _).alloc (Nat.le_refl _) _
  have H1 := Lib.hid (h.below hb1)
  have HB1 := Lib.hid hb1
  have HK1 := Lib.hid (show Blk V1 bx (ecl e) from by rw [hV1, hbx]; exact Blk.new w _ _)
  have HBX := Lib.hid (show w.heap.size ≤ bx ∧ b ≠ bx from ⟨by omega, by have := h.blk.lt; omega⟩)
  have HOK := Lib.hid he
  have hlk : ∀ k, (Instr.lookup tME (.map (some m)) (eagg e) true).run Tryz.prog (V1.drewN k) = .ok (.tuple #[.int .i64 ((numE es e : Nat) : Int), .bool (decide (e ∈ es))]) (V1.drewN k) := fun k => MpE.look (MpE.at (w' := V1.drewN k) H1.out.mp rfl) he
  have HF := Lib.hid (fun W (hW : BX W base b m (.slice RA es.length rc) sym full es) => hW.blk)
  have H := Lib.hid h
  clear hb1 h he
  obtain ⟨TG, hTG⟩ : ∃ t, t = tagE es e := ⟨_, rfl⟩
  obtain ⟨FU, hFU⟩ : ∃ t, t = fullE full es e := ⟨_, rfl⟩
  obtain ⟨ES, hES⟩ : ∃ t, t = esE es e := ⟨_, rfl⟩
  rw [← hTG, ← hFU, ← hES]
  unfold tagE at hTG
  unfold fullE at hFU
  unfold esE at hES
  obtain ⟨N, hN⟩ : ∃ N, N = numE es e := ⟨_, rfl⟩
  rw [← hN] at hlk hTG hnum
  clear hN
  have hV1' := hV1
  unfold ecl at hV1'
  by_cases hm : e ∈ es
  · rw [if_pos hm] at hTG hFU hES
    rw [decide_eq_true hm] at hlk
    subst hTG hFU hES
    have HH := Lib.hid (fun W => handle_any N (by omega) W)
    clear hm
    obtain ⟨kd, ky, tx, ro, ls, mk⟩ := e
    go_enter Tryz.func34, Tryz.ntmps34
    go_wp2_with fail
    rw [← hV1', ← hbx]
    clear hV1' hV1 hbx
    refine wp_region_noPanic ?_
    refine wp_region_held (S := fun W => (W.cell? ⟨b, 3, none⟩ = some (.map (some m)) ∧ (Instr.lookup tME (.map (some m)) (.agg #[.int .i64 kd, str ky, str tx, .int .i64 ro, str ls, str mk]) true).run Tryz.prog W = .ok (.tuple #[.int .i64 (N : Int), .bool true]) W) ∧ W.cell? ⟨bx, 0, none⟩ = some (.int .i64 kd) ∧ W.cell? ⟨bx, 1, none⟩ = some (str ky) ∧ W.cell? ⟨bx, 2, none⟩ = some (str tx) ∧ W.cell? ⟨bx, 3, none⟩ = some (.int .i64 ro) ∧ W.cell? ⟨bx, 4, none⟩ = some (str ls) ∧ W.cell? ⟨bx, 5, none⟩ = some (str mk)) (by kernel_rfl) ?_
    change wpAnyH _ _ _ _ _ _ _ _ V1.drew
    have HX := Lib.hid (show (V1.drew.cell? ⟨b, 3, none⟩ = some (.map (some m)) ∧ (Instr.lookup tME (.map (some m)) (.agg #[.int .i64 kd, str ky, str tx, .int .i64 ro, str ls, str mk]) true).run Tryz.prog V1.drew = .ok (.tuple #[.int .i64 (N : Int), .bool true]) V1.drew) ∧ V1.drew.cell? ⟨bx, 0, none⟩ = some (.int .i64 kd) ∧ V1.drew.cell? ⟨bx, 1, none⟩ = some (str ky) ∧ V1.drew.cell? ⟨bx, 2, none⟩ = some (str tx) ∧ V1.drew.cell? ⟨bx, 3, none⟩ = some (.int .i64 ro) ∧ V1.drew.cell? ⟨bx, 4, none⟩ = some (str ls) ∧ V1.drew.cell? ⟨bx, 5, none⟩ = some (str mk) from ⟨⟨H1.out.blk.drew.at (o := 3) rfl, hlk 1⟩, HK1.out.drew.at (o := 0) rfl, HK1.out.drew.at (o := 1) rfl, HK1.out.drew.at (o := 2) rfl, HK1.out.drew.at (o := 3) rfl, HK1.out.drew.at (o := 4) rfl, HK1.out.drew.at (o := 5) rfl⟩)
    refine takeH 0 8 (tP b) rfl rfl (by kernel_rfl) (by kernel_rfl) (by kernel_rfl) (fun _ _ _ h => h) rfl (fun w' h => by obtain ⟨⟨q2, q3⟩, h0, h1, h2, h3, h4, h5⟩ := h; go_simp) HX.out ?_
    go_frame
    refine takeH 1 9 (tP b) rfl rfl (by kernel_rfl) (by kernel_rfl) (by kernel_rfl) (fun _ _ _ h => h) rfl (fun w' h => by obtain ⟨⟨q2, q3⟩, h0, h1, h2, h3, h4, h5⟩ := h; go_simp) HX.out ?_
    go_frame
    refine takeH 2 10 (.pointer (some ⟨b, 3, none⟩)) rfl rfl (by kernel_rfl) (by kernel_rfl) (by kernel_rfl) (fun _ _ _ h => h) rfl (fun w' h => by obtain ⟨⟨q2, q3⟩, h0, h1, h2, h3, h4, h5⟩ := h; go_simp) HX.out ?_
    go_frame
    refine takeH 3 11 (.map (some m)) rfl rfl (by kernel_rfl) (by kernel_rfl) (by kernel_rfl) (fun _ _ _ h => h) rfl (fun w' h => by obtain ⟨⟨q2, q3⟩, h0, h1, h2, h3, h4, h5⟩ := h; go_simp) HX.out ?_
    go_frame
    refine takeH 4 12 (.agg #[.int .i64 kd, str ky, str tx, .int .i64 ro, str ls, str mk]) rfl rfl (by kernel_rfl) (by kernel_rfl) (by kernel_rfl) (fun _ _ _ h => h) rfl (fun w' h => by obtain ⟨⟨q2, q3⟩, h0, h1, h2, h3, h4, h5⟩ := h; go_simp) HX.out ?_
    go_frame
    refine takeH 5 13 (.tuple #[.int .i64 (N : Int), .bool true]) rfl rfl (by kernel_rfl) (by kernel_rfl) (by kernel_rfl) (fun _ _ _ h => h) rfl (fun w' h => by obtain ⟨⟨q2, q3⟩, h0, h1, h2, h3, h4, h5⟩ := h; go_simp) HX.out ?_
    go_frame
    refine takeH 6 7 (.tuple #[.int .i64 (N : Int), .bool true]) rfl rfl (by kernel_rfl) (by kernel_rfl) (by kernel_rfl) (fun _ _ _ h => h) rfl (fun w' h => by obtain ⟨⟨q2, q3⟩, h0, h1, h2, h3, h4, h5⟩ := h; go_simp) HX.out ?_
    go_frame
    refine takeH 7 14 (.int .i64 (N : Int)) rfl rfl (by kernel_rfl) (by kernel_rfl) (by kernel_rfl) (fun _ _ _ h => h) rfl (fun w' h => by obtain ⟨⟨q2, q3⟩, h0, h1, h2, h3, h4, h5⟩ := h; go_simp) HX.out ?_
    go_frame
    refine takeH 8 15 (.bool true) rfl rfl (by kernel_rfl) (by kernel_rfl) (by kernel_rfl) (fun _ _ _ h => h) rfl (fun w' h => by obtain ⟨⟨q2, q3⟩, h0, h1, h2, h3, h4, h5⟩ := h; go_simp) HX.out ?_
    go_frame
    refine takeH 9 5 (.int .i64 (N : Int)) rfl rfl (by kernel_rfl) (by kernel_rfl) (by kernel_rfl) (fun _ _ _ h => h) rfl (fun w' h => by obtain ⟨⟨q2, q3⟩, h0, h1, h2, h3, h4, h5⟩ := h; go_simp) HX.out ?_
    go_frame
    refine takeH 10 6 (.bool true) rfl rfl (by kernel_rfl) (by kernel_rfl) (by kernel_rfl) (fun _ _ _ h => h) rfl (fun w' h => by obtain ⟨⟨q2, q3⟩, h0, h1, h2, h3, h4, h5⟩ := h; go_simp) HX.out ?_
    go_frame
    refine wpAnyH_done (by kernel_rfl) ?_ _
    refine NoPanic.normal ?_
    obtain ⟨V2, hV2⟩ : ∃ V, V = V1.drew := ⟨_, rfl⟩
    have H2 := Lib.hid (show BX V2 base b m (.slice RA ES.length rc) sym FU ES from by rw [hV2]; exact H1.out.below (Below.refl _ _).drew)
    have HB2 := Lib.hid (show Below w.heap.size w V2 from by rw [hV2]; exact HB1.out.drew)
    have HK2 := Lib.hid (show Blk V2 bx (ecl ⟨kd, ky, tx, ro, ls, mk⟩) from by rw [hV2]; exact HK1.out.drew)
    rw [← hV2]
    clear hV2 HX hlk
    go_wp2_with fail
    refine (HH.out _).mono ?_
    rintro x V3 ⟨v, rfl, hO, hB3⟩
    have HO := Lib.hid hO
    have hz2 := HB2.out.size
    have HFIN := Lib.hid (show EnR w base b m (.slice RA ES.length rc) sym (fro ++ len4 N) FU ES (.returned v) V3 from
      ⟨v, _, rfl, hO.lower hz2, H2.out.below hB3, Trs.of_below (HB2.out.trans (hB3.mono hz2)), .inl rfl, fun e => by
        cases hv : v.ownBlock with
        | none => obtain ⟨g, c, hg, _⟩ := hO.form (by simp [fro_length, List.length_append]; omega); rw [hg] at hv; cases hv
        | some k => have h1 := (hO.lt k hv).1; rw [hv] at e; have h2 := (World.ownsRow.lt H2.out.row k e.symm).2; omega⟩)
    clear hO hB3
    go_wp2_with fail
    go_ret
    exact HFIN.out
  · rw [if_neg hm] at hTG hFU hES
    rw [decide_eq_false hm] at hlk
    have HNM := Lib.hid hm
    by_cases hf : 4096 ≤ es.length
    · rw [if_pos hf] at hTG hFU hES
      rw [hTG, hFU, hES]
      clear hTG hFU hES TG FU ES
      clear hm
      obtain ⟨kd, ky, tx, ro, ls, mk⟩ := e
      go_enter Tryz.func34, Tryz.ntmps34
      go_wp2_with fail
      rw [← hV1', ← hbx]
      clear hV1' hV1 hbx
      refine wp_region_noPanic ?_
      refine wp_region_held (S := fun W => (W.cell? ⟨b, 3, none⟩ = some (.map (some m)) ∧ (Instr.lookup tME (.map (some m)) (.agg #[.int .i64 kd, str ky, str tx, .int .i64 ro, str ls, str mk]) true).run Tryz.prog W = .ok (.tuple #[.int .i64 (N : Int), .bool false]) W) ∧ W.cell? ⟨bx, 0, none⟩ = some (.int .i64 kd) ∧ W.cell? ⟨bx, 1, none⟩ = some (str ky) ∧ W.cell? ⟨bx, 2, none⟩ = some (str tx) ∧ W.cell? ⟨bx, 3, none⟩ = some (.int .i64 ro) ∧ W.cell? ⟨bx, 4, none⟩ = some (str ls) ∧ W.cell? ⟨bx, 5, none⟩ = some (str mk)) (by kernel_rfl) ?_
      change wpAnyH _ _ _ _ _ _ _ _ V1.drew
      have HX := Lib.hid (show (V1.drew.cell? ⟨b, 3, none⟩ = some (.map (some m)) ∧ (Instr.lookup tME (.map (some m)) (.agg #[.int .i64 kd, str ky, str tx, .int .i64 ro, str ls, str mk]) true).run Tryz.prog V1.drew = .ok (.tuple #[.int .i64 (N : Int), .bool false]) V1.drew) ∧ V1.drew.cell? ⟨bx, 0, none⟩ = some (.int .i64 kd) ∧ V1.drew.cell? ⟨bx, 1, none⟩ = some (str ky) ∧ V1.drew.cell? ⟨bx, 2, none⟩ = some (str tx) ∧ V1.drew.cell? ⟨bx, 3, none⟩ = some (.int .i64 ro) ∧ V1.drew.cell? ⟨bx, 4, none⟩ = some (str ls) ∧ V1.drew.cell? ⟨bx, 5, none⟩ = some (str mk) from ⟨⟨H1.out.blk.drew.at (o := 3) rfl, hlk 1⟩, HK1.out.drew.at (o := 0) rfl, HK1.out.drew.at (o := 1) rfl, HK1.out.drew.at (o := 2) rfl, HK1.out.drew.at (o := 3) rfl, HK1.out.drew.at (o := 4) rfl, HK1.out.drew.at (o := 5) rfl⟩)
      refine takeH 0 8 (tP b) rfl rfl (by kernel_rfl) (by kernel_rfl) (by kernel_rfl) (fun _ _ _ h => h) rfl (fun w' h => by obtain ⟨⟨q2, q3⟩, h0, h1, h2, h3, h4, h5⟩ := h; go_simp) HX.out ?_
      go_frame
      refine takeH 1 9 (tP b) rfl rfl (by kernel_rfl) (by kernel_rfl) (by kernel_rfl) (fun _ _ _ h => h) rfl (fun w' h => by obtain ⟨⟨q2, q3⟩, h0, h1, h2, h3, h4, h5⟩ := h; go_simp) HX.out ?_
      go_frame
      refine takeH 2 10 (.pointer (some ⟨b, 3, none⟩)) rfl rfl (by kernel_rfl) (by kernel_rfl) (by kernel_rfl) (fun _ _ _ h => h) rfl (fun w' h => by obtain ⟨⟨q2, q3⟩, h0, h1, h2, h3, h4, h5⟩ := h; go_simp) HX.out ?_
      go_frame
      refine takeH 3 11 (.map (some m)) rfl rfl (by kernel_rfl) (by kernel_rfl) (by kernel_rfl) (fun _ _ _ h => h) rfl (fun w' h => by obtain ⟨⟨q2, q3⟩, h0, h1, h2, h3, h4, h5⟩ := h; go_simp) HX.out ?_
      go_frame
      refine takeH 4 12 (.agg #[.int .i64 kd, str ky, str tx, .int .i64 ro, str ls, str mk]) rfl rfl (by kernel_rfl) (by kernel_rfl) (by kernel_rfl) (fun _ _ _ h => h) rfl (fun w' h => by obtain ⟨⟨q2, q3⟩, h0, h1, h2, h3, h4, h5⟩ := h; go_simp) HX.out ?_
      go_frame
      refine takeH 5 13 (.tuple #[.int .i64 (N : Int), .bool false]) rfl rfl (by kernel_rfl) (by kernel_rfl) (by kernel_rfl) (fun _ _ _ h => h) rfl (fun w' h => by obtain ⟨⟨q2, q3⟩, h0, h1, h2, h3, h4, h5⟩ := h; go_simp) HX.out ?_
      go_frame
      refine takeH 6 7 (.tuple #[.int .i64 (N : Int), .bool false]) rfl rfl (by kernel_rfl) (by kernel_rfl) (by kernel_rfl) (fun _ _ _ h => h) rfl (fun w' h => by obtain ⟨⟨q2, q3⟩, h0, h1, h2, h3, h4, h5⟩ := h; go_simp) HX.out ?_
      go_frame
      refine takeH 7 14 (.int .i64 (N : Int)) rfl rfl (by kernel_rfl) (by kernel_rfl) (by kernel_rfl) (fun _ _ _ h => h) rfl (fun w' h => by obtain ⟨⟨q2, q3⟩, h0, h1, h2, h3, h4, h5⟩ := h; go_simp) HX.out ?_
      go_frame
      refine takeH 8 15 (.bool false) rfl rfl (by kernel_rfl) (by kernel_rfl) (by kernel_rfl) (fun _ _ _ h => h) rfl (fun w' h => by obtain ⟨⟨q2, q3⟩, h0, h1, h2, h3, h4, h5⟩ := h; go_simp) HX.out ?_
      go_frame
      refine takeH 9 5 (.int .i64 (N : Int)) rfl rfl (by kernel_rfl) (by kernel_rfl) (by kernel_rfl) (fun _ _ _ h => h) rfl (fun w' h => by obtain ⟨⟨q2, q3⟩, h0, h1, h2, h3, h4, h5⟩ := h; go_simp) HX.out ?_
      go_frame
      refine takeH 10 6 (.bool false) rfl rfl (by kernel_rfl) (by kernel_rfl) (by kernel_rfl) (fun _ _ _ h => h) rfl (fun w' h => by obtain ⟨⟨q2, q3⟩, h0, h1, h2, h3, h4, h5⟩ := h; go_simp) HX.out ?_
      go_frame
      refine wpAnyH_done (by kernel_rfl) ?_ _
      refine NoPanic.normal ?_
      obtain ⟨V2, hV2⟩ : ∃ V, V = V1.drew := ⟨_, rfl⟩
      have H2 := Lib.hid (show BX V2 base b m (.slice RA es.length rc) sym full es from by rw [hV2]; exact H1.out.below (Below.refl _ _).drew)
      have HB2 := Lib.hid (show Below w.heap.size w V2 from by rw [hV2]; exact HB1.out.drew)
      have HK2 := Lib.hid (show Blk V2 bx (ecl ⟨kd, ky, tx, ro, ls, mk⟩) from by rw [hV2]; exact HK1.out.drew)
      rw [← hV2]
      clear hV2 HX hlk
      have k0 := H2.out.blk.at (o := 0) rfl
      have k1 := H2.out.blk.at (o := 1) rfl
      have k2 := H2.out.blk.at (o := 2) rfl
      have k3 := H2.out.blk.at (o := 3) rfl
      have fr1 := H2.out.blk.free 1
      have hmk : ∀ W : World, (Instr.makeSlice 34 (.int .i64 32) (.int .i64 32)).run Tryz.prog W = .ok (.slice (some ⟨W.heap.size, 0, none⟩) 32 32) (W.alloc (.cells (noughts 32) 5)) := make_bytes 32 32 (by omega) (by omega)
      obtain ⟨V3, hV3⟩ : ∃ V, V = V2.setCell ⟨b, 1, none⟩ (.bool true) := ⟨_, rfl⟩
      have H3 := Lib.hid (show BX V3 base b m (.slice RA es.length rc) sym true es from by rw [hV3]; exact H2.out.setFull true)
      have HT3 := Lib.hid (show Trs (bS b m (.slice RA es.length rc)) w V3 from by rw [hV3]; exact (Trs.of_below HB2.out).set (p := ⟨b, 1, none⟩) (mem_bS.2 (.inl rfl)) _)
      have HFIN := Lib.hid (show EnR w base b m (.slice RA es.length rc) sym noughtsL true es (.returned (.slice (some ⟨V3.heap.size, 0, none⟩) 32 32)) (V3.alloc (.cells (noughts 32) 5)) from
        ⟨_, _, rfl, (noughts_own V3).lower HT3.out.size, H3.out.below ((Below.refl _ _).alloc (Nat.le_refl _) _), HT3.out.alloc _, .inl rfl, fun e => by have h2 := (World.ownsRow.lt H3.out.row V3.heap.size e.symm).2; omega⟩)
      have hfi : (4096 : Int) ≤ (es.length : Int) := by omega
      have hsz : V3.heap.size = V2.heap.size := by rw [hV3]; simp
      rw [hsz] at HFIN
      go_wp2_with fail
      rw [← hV3]
      go_ret
      exact HFIN.out
    · rw [if_neg hf] at hTG hFU hES
      rw [hTG, hFU, hES]
      clear hTG hFU hES TG FU ES
      clear hm
      obtain ⟨kd, ky, tx, ro, ls, mk⟩ := e
      go_enter Tryz.func34, Tryz.ntmps34
      go_wp2_with fail
      rw [← hV1', ← hbx]
      clear hV1' hV1 hbx
      refine wp_region_noPanic ?_
      refine wp_region_held (S := fun W => (W.cell? ⟨b, 3, none⟩ = some (.map (some m)) ∧ (Instr.lookup tME (.map (some m)) (.agg #[.int .i64 kd, str ky, str tx, .int .i64 ro, str ls, str mk]) true).run Tryz.prog W = .ok (.tuple #[.int .i64 (N : Int), .bool false]) W) ∧ W.cell? ⟨bx, 0, none⟩ = some (.int .i64 kd) ∧ W.cell? ⟨bx, 1, none⟩ = some (str ky) ∧ W.cell? ⟨bx, 2, none⟩ = some (str tx) ∧ W.cell? ⟨bx, 3, none⟩ = some (.int .i64 ro) ∧ W.cell? ⟨bx, 4, none⟩ = some (str ls) ∧ W.cell? ⟨bx, 5, none⟩ = some (str mk)) (by kernel_rfl) ?_
      change wpAnyH _ _ _ _ _ _ _ _ V1.drew
      have HX := Lib.hid (show (V1.drew.cell? ⟨b, 3, none⟩ = some (.map (some m)) ∧ (Instr.lookup tME (.map (some m)) (.agg #[.int .i64 kd, str ky, str tx, .int .i64 ro, str ls, str mk]) true).run Tryz.prog V1.drew = .ok (.tuple #[.int .i64 (N : Int), .bool false]) V1.drew) ∧ V1.drew.cell? ⟨bx, 0, none⟩ = some (.int .i64 kd) ∧ V1.drew.cell? ⟨bx, 1, none⟩ = some (str ky) ∧ V1.drew.cell? ⟨bx, 2, none⟩ = some (str tx) ∧ V1.drew.cell? ⟨bx, 3, none⟩ = some (.int .i64 ro) ∧ V1.drew.cell? ⟨bx, 4, none⟩ = some (str ls) ∧ V1.drew.cell? ⟨bx, 5, none⟩ = some (str mk) from ⟨⟨H1.out.blk.drew.at (o := 3) rfl, hlk 1⟩, HK1.out.drew.at (o := 0) rfl, HK1.out.drew.at (o := 1) rfl, HK1.out.drew.at (o := 2) rfl, HK1.out.drew.at (o := 3) rfl, HK1.out.drew.at (o := 4) rfl, HK1.out.drew.at (o := 5) rfl⟩)
      refine takeH 0 8 (tP b) rfl rfl (by kernel_rfl) (by kernel_rfl) (by kernel_rfl) (fun _ _ _ h => h) rfl (fun w' h => by obtain ⟨⟨q2, q3⟩, h0, h1, h2, h3, h4, h5⟩ := h; go_simp) HX.out ?_
      go_frame
      refine takeH 1 9 (tP b) rfl rfl (by kernel_rfl) (by kernel_rfl) (by kernel_rfl) (fun _ _ _ h => h) rfl (fun w' h => by obtain ⟨⟨q2, q3⟩, h0, h1, h2, h3, h4, h5⟩ := h; go_simp) HX.out ?_
      go_frame
      refine takeH 2 10 (.pointer (some ⟨b, 3, none⟩)) rfl rfl (by kernel_rfl) (by kernel_rfl) (by kernel_rfl) (fun _ _ _ h => h) rfl (fun w' h => by obtain ⟨⟨q2, q3⟩, h0, h1, h2, h3, h4, h5⟩ := h; go_simp) HX.out ?_
      go_frame
      refine takeH 3 11 (.map (some m)) rfl rfl (by kernel_rfl) (by kernel_rfl) (by kernel_rfl) (fun _ _ _ h => h) rfl (fun w' h => by obtain ⟨⟨q2, q3⟩, h0, h1, h2, h3, h4, h5⟩ := h; go_simp) HX.out ?_
      go_frame
      refine takeH 4 12 (.agg #[.int .i64 kd, str ky, str tx, .int .i64 ro, str ls, str mk]) rfl rfl (by kernel_rfl) (by kernel_rfl) (by kernel_rfl) (fun _ _ _ h => h) rfl (fun w' h => by obtain ⟨⟨q2, q3⟩, h0, h1, h2, h3, h4, h5⟩ := h; go_simp) HX.out ?_
      go_frame
      refine takeH 5 13 (.tuple #[.int .i64 (N : Int), .bool false]) rfl rfl (by kernel_rfl) (by kernel_rfl) (by kernel_rfl) (fun _ _ _ h => h) rfl (fun w' h => by obtain ⟨⟨q2, q3⟩, h0, h1, h2, h3, h4, h5⟩ := h; go_simp) HX.out ?_
      go_frame
      refine takeH 6 7 (.tuple #[.int .i64 (N : Int), .bool false]) rfl rfl (by kernel_rfl) (by kernel_rfl) (by kernel_rfl) (fun _ _ _ h => h) rfl (fun w' h => by obtain ⟨⟨q2, q3⟩, h0, h1, h2, h3, h4, h5⟩ := h; go_simp) HX.out ?_
      go_frame
      refine takeH 7 14 (.int .i64 (N : Int)) rfl rfl (by kernel_rfl) (by kernel_rfl) (by kernel_rfl) (fun _ _ _ h => h) rfl (fun w' h => by obtain ⟨⟨q2, q3⟩, h0, h1, h2, h3, h4, h5⟩ := h; go_simp) HX.out ?_
      go_frame
      refine takeH 8 15 (.bool false) rfl rfl (by kernel_rfl) (by kernel_rfl) (by kernel_rfl) (fun _ _ _ h => h) rfl (fun w' h => by obtain ⟨⟨q2, q3⟩, h0, h1, h2, h3, h4, h5⟩ := h; go_simp) HX.out ?_
      go_frame
      refine takeH 9 5 (.int .i64 (N : Int)) rfl rfl (by kernel_rfl) (by kernel_rfl) (by kernel_rfl) (fun _ _ _ h => h) rfl (fun w' h => by obtain ⟨⟨q2, q3⟩, h0, h1, h2, h3, h4, h5⟩ := h; go_simp) HX.out ?_
      go_frame
      refine takeH 10 6 (.bool false) rfl rfl (by kernel_rfl) (by kernel_rfl) (by kernel_rfl) (fun _ _ _ h => h) rfl (fun w' h => by obtain ⟨⟨q2, q3⟩, h0, h1, h2, h3, h4, h5⟩ := h; go_simp) HX.out ?_
      go_frame
      refine wpAnyH_done (by kernel_rfl) ?_ _
      refine NoPanic.normal ?_
      obtain ⟨V2, hV2⟩ : ∃ V, V = V1.drew := ⟨_, rfl⟩
      have H2 := Lib.hid (show BX V2 base b m (.slice RA es.length rc) sym full es from by rw [hV2]; exact H1.out.below (Below.refl _ _).drew)
      have HB2 := Lib.hid (show Below w.heap.size w V2 from by rw [hV2]; exact HB1.out.drew)
      have HK2 := Lib.hid (show Blk V2 bx (ecl ⟨kd, ky, tx, ro, ls, mk⟩) from by rw [hV2]; exact HK1.out.drew)
      rw [← hV2]
      clear hV2 HX hlk
      have HH := Lib.hid (fun W => handle_any (es.length + 1) (by omega) W)
      have HBM := Lib.hid (show m ≠ bx from fun q => by have := H.out.mp.lt; have := HBX.out.1; omega)
      have hfi : ¬ (4096 : Int) ≤ (es.length : Int) := by omega
      have k0 := H2.out.blk.at (o := 0) rfl
      have k1 := H2.out.blk.at (o := 1) rfl
      have k2 := H2.out.blk.at (o := 2) rfl
      have k3 := H2.out.blk.at (o := 3) rfl
      go_wp2_with fail
      clear k0 k1 k2 k3
      refine wp_region_noPanic ?_
      refine wp_region_held (S := fun W => W.cell? ⟨bx, 0, none⟩ = some (.int .i64 kd) ∧ W.cell? ⟨bx, 1, none⟩ = some (str ky) ∧ W.cell? ⟨bx, 2, none⟩ = some (str tx) ∧ W.cell? ⟨bx, 3, none⟩ = some (.int .i64 ro) ∧ W.cell? ⟨bx, 4, none⟩ = some (str ls) ∧ W.cell? ⟨bx, 5, none⟩ = some (str mk)) (by kernel_rfl) ?_
      change wpAnyH _ _ _ _ _ _ _ _ V2.drew
      have HX := Lib.hid (show V2.drew.cell? ⟨bx, 0, none⟩ = some (.int .i64 kd) ∧ V2.drew.cell? ⟨bx, 1, none⟩ = some (str ky) ∧ V2.drew.cell? ⟨bx, 2, none⟩ = some (str tx) ∧ V2.drew.cell? ⟨bx, 3, none⟩ = some (.int .i64 ro) ∧ V2.drew.cell? ⟨bx, 4, none⟩ = some (str ls) ∧ V2.drew.cell? ⟨bx, 5, none⟩ = some (str mk) from ⟨HK2.out.drew.at (o := 0) rfl, HK2.out.drew.at (o := 1) rfl, HK2.out.drew.at (o := 2) rfl, HK2.out.drew.at (o := 3) rfl, HK2.out.drew.at (o := 4) rfl, HK2.out.drew.at (o := 5) rfl⟩)
      have HL2 := Lib.hid (show V2.drew.cell? ⟨b, 2, none⟩ = some (.slice RA es.length rc) from H2.out.blk.drew.at (o := 2) rfl)
      refine takeH 0 29 (tP b) rfl rfl (by kernel_rfl) (by kernel_rfl) (by kernel_rfl) (fun _ _ _ h => h) rfl (fun w' h => by obtain ⟨h0, h1, h2, h3, h4, h5⟩ := h; go_simp) HX.out ?_
      go_frame
      refine takeH 1 30 (tP b) rfl rfl (by kernel_rfl) (by kernel_rfl) (by kernel_rfl) (fun _ _ _ h => h) rfl (fun w' h => by obtain ⟨h0, h1, h2, h3, h4, h5⟩ := h; go_simp) HX.out ?_
      go_frame
      refine takeH 2 31 (tP b) rfl rfl (by kernel_rfl) (by kernel_rfl) (by kernel_rfl) (fun _ _ _ h => h) rfl (fun w' h => by obtain ⟨h0, h1, h2, h3, h4, h5⟩ := h; go_simp) HX.out ?_
      go_frame
      refine takeH 3 32 (.pointer (some ⟨b, 2, none⟩)) rfl rfl (by kernel_rfl) (by kernel_rfl) (by kernel_rfl) (fun _ _ _ h => h) rfl (fun w' h => by obtain ⟨h0, h1, h2, h3, h4, h5⟩ := h; go_simp) HX.out ?_
      go_frame
      refine takeH 5 34 (.agg #[.int .i64 kd, str ky, str tx, .int .i64 ro, str ls, str mk]) rfl rfl (by kernel_rfl) (by kernel_rfl) (by kernel_rfl) (fun _ _ _ h => h) rfl (fun w' h => by obtain ⟨h0, h1, h2, h3, h4, h5⟩ := h; go_simp) HX.out ?_
      go_frame
      have HRX := Lib.hid (show (Value.slice RA es.length rc).ownBlock ≠ some bx from fun q => by have h2 := (World.ownsRow.lt H.out.row bx q).2; have := HBX.out.1; omega)
      have HPU := Lib.hid (fun (Y1 Y2 : World) (v' : Value) (h1 : Y1 = V2.drew.alloc (.cells (ecl ⟨kd, ky, tx, ro, ls, mk⟩).toArray tEn)) (h2 : OwnE Y2 base v' (es ++ [⟨kd, ky, tx, ro, ls, mk⟩])) (h3 : Y1.grownBy Y2 (.slice RA es.length rc : Value).ownBlock) (h4 : v'.ownBlock = (.slice RA es.length rc : Value).ownBlock ∨ v'.ownBlock = some Y1.heap.size) => H2.out.push HK2.out h1 h2 h3 h4 HRX.out)
      obtain ⟨Y1, hY1⟩ : ∃ Y, Y = V2.drew.alloc (.cells (ecl ⟨kd, ky, tx, ro, ls, mk⟩).toArray tEn) := ⟨_, rfl⟩
      have HBY := Lib.hid (show Below V2.heap.size V2 Y1 from by rw [hY1]; exact ((Below.refl _ V2).drew).alloc (Nat.le_refl _) _)
      have HX1 := Lib.hid (show Y1.cell? ⟨bx, 0, none⟩ = some (.int .i64 kd) ∧ Y1.cell? ⟨bx, 1, none⟩ = some (str ky) ∧ Y1.cell? ⟨bx, 2, none⟩ = some (str tx) ∧ Y1.cell? ⟨bx, 3, none⟩ = some (.int .i64 ro) ∧ Y1.cell? ⟨bx, 4, none⟩ = some (str ls) ∧ Y1.cell? ⟨bx, 5, none⟩ = some (str mk) from ⟨(HK2.out.below HBY.out HK2.out.lt).at (o := 0) rfl, (HK2.out.below HBY.out HK2.out.lt).at (o := 1) rfl, (HK2.out.below HBY.out HK2.out.lt).at (o := 2) rfl, (HK2.out.below HBY.out HK2.out.lt).at (o := 3) rfl, (HK2.out.below HBY.out HK2.out.lt).at (o := 4) rfl, (HK2.out.below HBY.out HK2.out.lt).at (o := 5) rfl⟩)
      have HL1 := Lib.hid (show Y1.cell? ⟨b, 2, none⟩ = some (.slice RA es.length rc) from (H2.out.below HBY.out).blk.at (o := 2) rfl)
      have HNB := Lib.hid (show Blk Y1 V2.heap.size (ecl ⟨kd, ky, tx, ro, ls, mk⟩) from by rw [hY1]; exact Blk.new V2.drew _ _)
      have HAL := Lib.hid (show Y1 = V2.drew.alloc (.cells #[.int .i64 kd, str ky, str tx, .int .i64 ro, str ls, str mk] tEn) from by rw [hY1]; rfl)
      have HY1 := Lib.hid hY1
      clear hY1
      refine wpAnyH_all (rs := [4, 6]) (by kernel_rfl) (by simp) ?_
      simp only [List.mem_cons, List.not_mem_nil, or_false, forall_eq_or_imp, forall_eq]
      refine ⟨?_, ?_⟩
      · refine wpOp_valueD 33 rfl rfl rfl (.slice RA es.length rc) (by have q2 := HL2.out; go_simp) ⟨HX.out, ?_⟩
        go_frame
        refine wpAnyH_all (rs := [6]) (by kernel_rfl) (by simp) ?_
        simp only [List.mem_singleton, forall_eq]
        refine wpOp_valueE 35 rfl rfl rfl (.slice (some ⟨V2.heap.size, 0, none⟩) 1 1) Y1 (by have q := HAL.out; rw [q]; go_simp) ⟨HX1.out, ?_⟩
        go_frame
        refine wpAnyH_all (rs := [7]) (by kernel_rfl) (by simp) ?_
        simp only [List.mem_singleton, forall_eq]
        refine wpOp_appE 36 rfl rfl rfl (.tmp 33) (.tmp 35) rfl base (.slice RA es.length rc) es rfl (H2.out.below HBY.out).row V2.heap.size ⟨kd, ky, tx, ro, ls, mk⟩ rfl HNB.out (by omega) (by have := HB2.out.size; have := HBY.out.size; omega) ?_
        intro v' Y2 ho hg hv
        have HPP := Lib.hid (HPU.out Y1 Y2 v' HY1.out ho hg hv)
        obtain ⟨A3, c3, hf3, _, _⟩ := ho.form
        rw [List.length_append, List.length_singleton] at hf3
        subst hf3
        clear ho hg hv
        have HX2 := Lib.hid (show Y2.cell? ⟨bx, 0, none⟩ = some (.int .i64 kd) ∧ Y2.cell? ⟨bx, 1, none⟩ = some (str ky) ∧ Y2.cell? ⟨bx, 2, none⟩ = some (str tx) ∧ Y2.cell? ⟨bx, 3, none⟩ = some (.int .i64 ro) ∧ Y2.cell? ⟨bx, 4, none⟩ = some (str ls) ∧ Y2.cell? ⟨bx, 5, none⟩ = some (str mk) from ⟨HPP.out.ent.at (o := 0) rfl, HPP.out.ent.at (o := 1) rfl, HPP.out.ent.at (o := 2) rfl, HPP.out.ent.at (o := 3) rfl, HPP.out.ent.at (o := 4) rfl, HPP.out.ent.at (o := 5) rfl⟩)
        refine ⟨HX2.out, ?_⟩
        go_frame
        refine takeH 8 37 (tP b) rfl rfl (by kernel_rfl) (by kernel_rfl) (by kernel_rfl) (fun _ _ _ h => h) rfl (fun w' h => by obtain ⟨h0, h1, h2, h3, h4, h5⟩ := h; go_simp) HX2.out ?_
        go_frame
        refine takeH 9 38 (.pointer (some ⟨b, 2, none⟩)) rfl rfl (by kernel_rfl) (by kernel_rfl) (by kernel_rfl) (fun _ _ _ h => h) rfl (fun w' h => by obtain ⟨h0, h1, h2, h3, h4, h5⟩ := h; go_simp) HX2.out ?_
        go_frame
        obtain ⟨Y3, hY3⟩ : ∃ Y, Y = Y2.setCell ⟨b, 2, none⟩ (.slice A3 (es.length + 1) c3) := ⟨_, rfl⟩
        have HPQ := Lib.hid (show PX Y3 V2 base b m bx (.slice A3 (es.length + 1) c3) (.slice A3 (es.length + 1) c3) (.slice RA es.length rc) sym full es ⟨kd, ky, tx, ro, ls, mk⟩ from by rw [hY3]; exact HPP.out.store (fun q => HBX.out.2 q.symm) (fun q => H.out.bmn q.symm))
        have HX3 := Lib.hid (show Y3.cell? ⟨bx, 0, none⟩ = some (.int .i64 kd) ∧ Y3.cell? ⟨bx, 1, none⟩ = some (str ky) ∧ Y3.cell? ⟨bx, 2, none⟩ = some (str tx) ∧ Y3.cell? ⟨bx, 3, none⟩ = some (.int .i64 ro) ∧ Y3.cell? ⟨bx, 4, none⟩ = some (str ls) ∧ Y3.cell? ⟨bx, 5, none⟩ = some (str mk) from ⟨HPQ.out.ent.at (o := 0) rfl, HPQ.out.ent.at (o := 1) rfl, HPQ.out.ent.at (o := 2) rfl, HPQ.out.ent.at (o := 3) rfl, HPQ.out.ent.at (o := 4) rfl, HPQ.out.ent.at (o := 5) rfl⟩)
        have k2 := HPP.out.blk.at (o := 2) rfl
        have fr2 := HPP.out.blk.free 2
        refine wpAnyH_all (rs := [10]) (by kernel_rfl) (by simp) ?_
        simp only [List.mem_singleton, forall_eq]
        refine wpOp_storeE rfl rfl rfl (by rw [hY3]; go_simp) ⟨HX3.out, ?_⟩
        clear hY3 HX3 HX2 HPP k2 fr2
        refine wpAnyH_done (by kernel_rfl) ?_ _
        refine NoPanic.normal ?_
        go_wp2_with fail
        refine wp_region_noPanic ?_
        refine wp_region_held (S := fun W => (W.cell? ⟨b, 2, none⟩ = some (.slice A3 (es.length + 1) c3) ∧ W.cell? ⟨b, 3, none⟩ = some (.map (some m))) ∧ W.cell? ⟨bx, 0, none⟩ = some (.int .i64 kd) ∧ W.cell? ⟨bx, 1, none⟩ = some (str ky) ∧ W.cell? ⟨bx, 2, none⟩ = some (str tx) ∧ W.cell? ⟨bx, 3, none⟩ = some (.int .i64 ro) ∧ W.cell? ⟨bx, 4, none⟩ = some (str ls) ∧ W.cell? ⟨bx, 5, none⟩ = some (str mk)) (by kernel_rfl) ?_
        change wpAnyH _ _ _ _ _ _ _ _ Y3.drew
        obtain ⟨Y4, hup, hbx4, ht4, hk4⟩ := HPQ.out.done H2.out HOK.out HNM.out (by omega) HBM.out
        have HX4 := Lib.hid (show (Y3.drew.cell? ⟨b, 2, none⟩ = some (.slice A3 (es.length + 1) c3) ∧ Y3.drew.cell? ⟨b, 3, none⟩ = some (.map (some m))) ∧ Y3.drew.cell? ⟨bx, 0, none⟩ = some (.int .i64 kd) ∧ Y3.drew.cell? ⟨bx, 1, none⟩ = some (str ky) ∧ Y3.drew.cell? ⟨bx, 2, none⟩ = some (str tx) ∧ Y3.drew.cell? ⟨bx, 3, none⟩ = some (.int .i64 ro) ∧ Y3.drew.cell? ⟨bx, 4, none⟩ = some (str ls) ∧ Y3.drew.cell? ⟨bx, 5, none⟩ = some (str mk) from ⟨⟨HPQ.out.blk.drew.at (o := 2) rfl, HPQ.out.blk.drew.at (o := 3) rfl⟩, ⟨HPQ.out.ent.drew.at (o := 0) rfl, HPQ.out.ent.drew.at (o := 1) rfl, HPQ.out.ent.drew.at (o := 2) rfl, HPQ.out.ent.drew.at (o := 3) rfl, HPQ.out.ent.drew.at (o := 4) rfl, HPQ.out.ent.drew.at (o := 5) rfl⟩⟩)
        have HX5 := Lib.hid (show (Y4.cell? ⟨b, 2, none⟩ = some (.slice A3 (es.length + 1) c3) ∧ Y4.cell? ⟨b, 3, none⟩ = some (.map (some m))) ∧ Y4.cell? ⟨bx, 0, none⟩ = some (.int .i64 kd) ∧ Y4.cell? ⟨bx, 1, none⟩ = some (str ky) ∧ Y4.cell? ⟨bx, 2, none⟩ = some (str tx) ∧ Y4.cell? ⟨bx, 3, none⟩ = some (.int .i64 ro) ∧ Y4.cell? ⟨bx, 4, none⟩ = some (str ls) ∧ Y4.cell? ⟨bx, 5, none⟩ = some (str mk) from ⟨⟨hbx4.blk.at (o := 2) rfl, hbx4.blk.at (o := 3) rfl⟩, ⟨hk4.at (o := 0) rfl, hk4.at (o := 1) rfl, hk4.at (o := 2) rfl, hk4.at (o := 3) rfl, hk4.at (o := 4) rfl, hk4.at (o := 5) rfl⟩⟩)
        have HB4 := Lib.hid hbx4
        have HT4 := Lib.hid ht4
        have HNEW := HPQ.out.new
        clear hbx4 ht4 hk4 HPQ
        refine takeH 0 39 (tP b) rfl rfl (by kernel_rfl) (by kernel_rfl) (by kernel_rfl) (fun _ _ _ h => h) rfl (fun w' h => by obtain ⟨⟨q2, q3⟩, h0, h1, h2, h3, h4, h5⟩ := h; go_simp) HX4.out ?_
        go_frame
        refine takeH 1 40 (tP b) rfl rfl (by kernel_rfl) (by kernel_rfl) (by kernel_rfl) (fun _ _ _ h => h) rfl (fun w' h => by obtain ⟨⟨q2, q3⟩, h0, h1, h2, h3, h4, h5⟩ := h; go_simp) HX4.out ?_
        go_frame
        refine takeH 2 41 (.pointer (some ⟨b, 3, none⟩)) rfl rfl (by kernel_rfl) (by kernel_rfl) (by kernel_rfl) (fun _ _ _ h => h) rfl (fun w' h => by obtain ⟨⟨q2, q3⟩, h0, h1, h2, h3, h4, h5⟩ := h; go_simp) HX4.out ?_
        go_frame
        refine takeH 3 42 (.map (some m)) rfl rfl (by kernel_rfl) (by kernel_rfl) (by kernel_rfl) (fun _ _ _ h => h) rfl (fun w' h => by obtain ⟨⟨q2, q3⟩, h0, h1, h2, h3, h4, h5⟩ := h; go_simp) HX4.out ?_
        go_frame
        refine takeH 4 43 (.agg #[.int .i64 kd, str ky, str tx, .int .i64 ro, str ls, str mk]) rfl rfl (by kernel_rfl) (by kernel_rfl) (by kernel_rfl) (fun _ _ _ h => h) rfl (fun w' h => by obtain ⟨⟨q2, q3⟩, h0, h1, h2, h3, h4, h5⟩ := h; go_simp) HX4.out ?_
        go_frame
        refine takeH 5 44 (tP b) rfl rfl (by kernel_rfl) (by kernel_rfl) (by kernel_rfl) (fun _ _ _ h => h) rfl (fun w' h => by obtain ⟨⟨q2, q3⟩, h0, h1, h2, h3, h4, h5⟩ := h; go_simp) HX4.out ?_
        go_frame
        refine takeH 6 45 (tP b) rfl rfl (by kernel_rfl) (by kernel_rfl) (by kernel_rfl) (fun _ _ _ h => h) rfl (fun w' h => by obtain ⟨⟨q2, q3⟩, h0, h1, h2, h3, h4, h5⟩ := h; go_simp) HX4.out ?_
        go_frame
        refine takeH 7 46 (.pointer (some ⟨b, 2, none⟩)) rfl rfl (by kernel_rfl) (by kernel_rfl) (by kernel_rfl) (fun _ _ _ h => h) rfl (fun w' h => by obtain ⟨⟨q2, q3⟩, h0, h1, h2, h3, h4, h5⟩ := h; go_simp) HX4.out ?_
        go_frame
        refine takeH 8 47 (.slice A3 (es.length + 1) c3) rfl rfl (by kernel_rfl) (by kernel_rfl) (by kernel_rfl) (fun _ _ _ h => h) rfl (fun w' h => by obtain ⟨⟨q2, q3⟩, h0, h1, h2, h3, h4, h5⟩ := h; go_simp) HX4.out ?_
        go_frame
        refine takeH 9 48 (.int .i64 ((es.length + 1 : Nat) : Int)) rfl rfl (by kernel_rfl) (by kernel_rfl) (by kernel_rfl) (fun _ _ _ h => h) rfl (fun w' h => by obtain ⟨⟨q2, q3⟩, h0, h1, h2, h3, h4, h5⟩ := h; go_simp) HX4.out ?_
        go_frame
        refine wpAnyH_all (rs := [10]) (by kernel_rfl) (by simp) ?_
        simp only [List.mem_singleton, forall_eq]
        refine wpOp_storeE rfl rfl rfl (by unfold eagg at hup; push_cast at hup; go_simp) ⟨HX5.out, ?_⟩
        refine wpAnyH_done (by kernel_rfl) ?_ _
        refine NoPanic.normal ?_
        clear hup HX4 HX5
        have k0 := HB4.out.blk.at (o := 0) rfl
        have k1 := HB4.out.blk.at (o := 1) rfl
        have k2 := HB4.out.blk.at (o := 2) rfl
        have k3 := HB4.out.blk.at (o := 3) rfl
        go_wp2_with fail
        rw [show (es.length : Int) + 1 = ((es.length + 1 : Nat) : Int) from by push_cast; rfl]
        refine (HH.out _).mono ?_
        rintro x V5 ⟨v, rfl, hO, hB5⟩
        have HFIN := Lib.hid (show EnR w base b m (.slice RA es.length rc) sym (fro ++ len4 (es.length + 1)) full (es ++ [⟨kd, ky, tx, ro, ls, mk⟩]) (.returned v) V5 from
          ⟨v, .slice A3 (es.length + 1) c3, rfl, hO.lower (by have h1 := HB2.out.size; have h2 := HT4.out.size; omega), HB4.out.below hB5, ((Trs.of_below HB2.out).trans HT4.out).below hB5, (by
            have h1 := HB2.out.size
            rcases HNEW with h | ⟨k, h, hk⟩
            · exact .inr (.inl h)
            · exact .inr (.inr ⟨k, h, by omega⟩)), fun q => by
            cases hv : v.ownBlock with
            | none => obtain ⟨g, c, hg, _⟩ := hO.form (by simp [fro_length, List.length_append]; omega); rw [hg] at hv; cases hv
            | some k => have h1 := (hO.lt k hv).1; rw [hv] at q; have h2 := (World.ownsRow.lt HB4.out.row k q.symm).2; omega⟩)
        clear hO hB5 k0 k1 k2 k3
        go_wp2_with fail
        go_ret
        exact HFIN.out
      · refine wpOp_valueE 35 rfl rfl rfl (.slice (some ⟨V2.heap.size, 0, none⟩) 1 1) Y1 (by have q := HAL.out; rw [q]; go_simp) ⟨HX1.out, ?_⟩
        go_frame
        refine wpAnyH_all (rs := [4]) (by kernel_rfl) (by simp) ?_
        simp only [List.mem_singleton, forall_eq]
        refine wpOp_valueD 33 rfl rfl rfl (.slice RA es.length rc) (by have q2 := HL1.out; go_simp) ⟨HX1.out, ?_⟩
        go_frame
        refine wpAnyH_all (rs := [7]) (by kernel_rfl) (by simp) ?_
        simp only [List.mem_singleton, forall_eq]
        refine wpOp_appE 36 rfl rfl rfl (.tmp 33) (.tmp 35) rfl base (.slice RA es.length rc) es rfl (H2.out.below HBY.out).row V2.heap.size ⟨kd, ky, tx, ro, ls, mk⟩ rfl HNB.out (by omega) (by have := HB2.out.size; have := HBY.out.size; omega) ?_
        intro v' Y2 ho hg hv
        have HPP := Lib.hid (HPU.out Y1 Y2 v' HY1.out ho hg hv)
        obtain ⟨A3, c3, hf3, _, _⟩ := ho.form
        rw [List.length_append, List.length_singleton] at hf3
        subst hf3
        clear ho hg hv
        have HX2 := Lib.hid (show Y2.cell? ⟨bx, 0, none⟩ = some (.int .i64 kd) ∧ Y2.cell? ⟨bx, 1, none⟩ = some (str ky) ∧ Y2.cell? ⟨bx, 2, none⟩ = some (str tx) ∧ Y2.cell? ⟨bx, 3, none⟩ = some (.int .i64 ro) ∧ Y2.cell? ⟨bx, 4, none⟩ = some (str ls) ∧ Y2.cell? ⟨bx, 5, none⟩ = some (str mk) from ⟨HPP.out.ent.at (o := 0) rfl, HPP.out.ent.at (o := 1) rfl, HPP.out.ent.at (o := 2) rfl, HPP.out.ent.at (o := 3) rfl, HPP.out.ent.at (o := 4) rfl, HPP.out.ent.at (o := 5) rfl⟩)
        refine ⟨HX2.out, ?_⟩
        go_frame
        refine takeH 8 37 (tP b) rfl rfl (by kernel_rfl) (by kernel_rfl) (by kernel_rfl) (fun _ _ _ h => h) rfl (fun w' h => by obtain ⟨h0, h1, h2, h3, h4, h5⟩ := h; go_simp) HX2.out ?_
        go_frame
        refine takeH 9 38 (.pointer (some ⟨b, 2, none⟩)) rfl rfl (by kernel_rfl) (by kernel_rfl) (by kernel_rfl) (fun _ _ _ h => h) rfl (fun w' h => by obtain ⟨h0, h1, h2, h3, h4, h5⟩ := h; go_simp) HX2.out ?_
        go_frame
        obtain ⟨Y3, hY3⟩ : ∃ Y, Y = Y2.setCell ⟨b, 2, none⟩ (.slice A3 (es.length + 1) c3) := ⟨_, rfl⟩
        have HPQ := Lib.hid (show PX Y3 V2 base b m bx (.slice A3 (es.length + 1) c3) (.slice A3 (es.length + 1) c3) (.slice RA es.length rc) sym full es ⟨kd, ky, tx, ro, ls, mk⟩ from by rw [hY3]; exact HPP.out.store (fun q => HBX.out.2 q.symm) (fun q => H.out.bmn q.symm))
        have HX3 := Lib.hid (show Y3.cell? ⟨bx, 0, none⟩ = some (.int .i64 kd) ∧ Y3.cell? ⟨bx, 1, none⟩ = some (str ky) ∧ Y3.cell? ⟨bx, 2, none⟩ = some (str tx) ∧ Y3.cell? ⟨bx, 3, none⟩ = some (.int .i64 ro) ∧ Y3.cell? ⟨bx, 4, none⟩ = some (str ls) ∧ Y3.cell? ⟨bx, 5, none⟩ = some (str mk) from ⟨HPQ.out.ent.at (o := 0) rfl, HPQ.out.ent.at (o := 1) rfl, HPQ.out.ent.at (o := 2) rfl, HPQ.out.ent.at (o := 3) rfl, HPQ.out.ent.at (o := 4) rfl, HPQ.out.ent.at (o := 5) rfl⟩)
        have k2 := HPP.out.blk.at (o := 2) rfl
        have fr2 := HPP.out.blk.free 2
        refine wpAnyH_all (rs := [10]) (by kernel_rfl) (by simp) ?_
        simp only [List.mem_singleton, forall_eq]
        refine wpOp_storeE rfl rfl rfl (by rw [hY3]; go_simp) ⟨HX3.out, ?_⟩
        clear hY3 HX3 HX2 HPP k2 fr2
        refine wpAnyH_done (by kernel_rfl) ?_ _
        refine NoPanic.normal ?_
        go_wp2_with fail
        refine wp_region_noPanic ?_
        refine wp_region_held (S := fun W => (W.cell? ⟨b, 2, none⟩ = some (.slice A3 (es.length + 1) c3) ∧ W.cell? ⟨b, 3, none⟩ = some (.map (some m))) ∧ W.cell? ⟨bx, 0, none⟩ = some (.int .i64 kd) ∧ W.cell? ⟨bx, 1, none⟩ = some (str ky) ∧ W.cell? ⟨bx, 2, none⟩ = some (str tx) ∧ W.cell? ⟨bx, 3, none⟩ = some (.int .i64 ro) ∧ W.cell? ⟨bx, 4, none⟩ = some (str ls) ∧ W.cell? ⟨bx, 5, none⟩ = some (str mk)) (by kernel_rfl) ?_
        change wpAnyH _ _ _ _ _ _ _ _ Y3.drew
        obtain ⟨Y4, hup, hbx4, ht4, hk4⟩ := HPQ.out.done H2.out HOK.out HNM.out (by omega) HBM.out
        have HX4 := Lib.hid (show (Y3.drew.cell? ⟨b, 2, none⟩ = some (.slice A3 (es.length + 1) c3) ∧ Y3.drew.cell? ⟨b, 3, none⟩ = some (.map (some m))) ∧ Y3.drew.cell? ⟨bx, 0, none⟩ = some (.int .i64 kd) ∧ Y3.drew.cell? ⟨bx, 1, none⟩ = some (str ky) ∧ Y3.drew.cell? ⟨bx, 2, none⟩ = some (str tx) ∧ Y3.drew.cell? ⟨bx, 3, none⟩ = some (.int .i64 ro) ∧ Y3.drew.cell? ⟨bx, 4, none⟩ = some (str ls) ∧ Y3.drew.cell? ⟨bx, 5, none⟩ = some (str mk) from ⟨⟨HPQ.out.blk.drew.at (o := 2) rfl, HPQ.out.blk.drew.at (o := 3) rfl⟩, ⟨HPQ.out.ent.drew.at (o := 0) rfl, HPQ.out.ent.drew.at (o := 1) rfl, HPQ.out.ent.drew.at (o := 2) rfl, HPQ.out.ent.drew.at (o := 3) rfl, HPQ.out.ent.drew.at (o := 4) rfl, HPQ.out.ent.drew.at (o := 5) rfl⟩⟩)
        have HX5 := Lib.hid (show (Y4.cell? ⟨b, 2, none⟩ = some (.slice A3 (es.length + 1) c3) ∧ Y4.cell? ⟨b, 3, none⟩ = some (.map (some m))) ∧ Y4.cell? ⟨bx, 0, none⟩ = some (.int .i64 kd) ∧ Y4.cell? ⟨bx, 1, none⟩ = some (str ky) ∧ Y4.cell? ⟨bx, 2, none⟩ = some (str tx) ∧ Y4.cell? ⟨bx, 3, none⟩ = some (.int .i64 ro) ∧ Y4.cell? ⟨bx, 4, none⟩ = some (str ls) ∧ Y4.cell? ⟨bx, 5, none⟩ = some (str mk) from ⟨⟨hbx4.blk.at (o := 2) rfl, hbx4.blk.at (o := 3) rfl⟩, ⟨hk4.at (o := 0) rfl, hk4.at (o := 1) rfl, hk4.at (o := 2) rfl, hk4.at (o := 3) rfl, hk4.at (o := 4) rfl, hk4.at (o := 5) rfl⟩⟩)
        have HB4 := Lib.hid hbx4
        have HT4 := Lib.hid ht4
        have HNEW := HPQ.out.new
        clear hbx4 ht4 hk4 HPQ
        refine takeH 0 39 (tP b) rfl rfl (by kernel_rfl) (by kernel_rfl) (by kernel_rfl) (fun _ _ _ h => h) rfl (fun w' h => by obtain ⟨⟨q2, q3⟩, h0, h1, h2, h3, h4, h5⟩ := h; go_simp) HX4.out ?_
        go_frame
        refine takeH 1 40 (tP b) rfl rfl (by kernel_rfl) (by kernel_rfl) (by kernel_rfl) (fun _ _ _ h => h) rfl (fun w' h => by obtain ⟨⟨q2, q3⟩, h0, h1, h2, h3, h4, h5⟩ := h; go_simp) HX4.out ?_
        go_frame
        refine takeH 2 41 (.pointer (some ⟨b, 3, none⟩)) rfl rfl (by kernel_rfl) (by kernel_rfl) (by kernel_rfl) (fun _ _ _ h => h) rfl (fun w' h => by obtain ⟨⟨q2, q3⟩, h0, h1, h2, h3, h4, h5⟩ := h; go_simp) HX4.out ?_
        go_frame
        refine takeH 3 42 (.map (some m)) rfl rfl (by kernel_rfl) (by kernel_rfl) (by kernel_rfl) (fun _ _ _ h => h) rfl (fun w' h => by obtain ⟨⟨q2, q3⟩, h0, h1, h2, h3, h4, h5⟩ := h; go_simp) HX4.out ?_
        go_frame
        refine takeH 4 43 (.agg #[.int .i64 kd, str ky, str tx, .int .i64 ro, str ls, str mk]) rfl rfl (by kernel_rfl) (by kernel_rfl) (by kernel_rfl) (fun _ _ _ h => h) rfl (fun w' h => by obtain ⟨⟨q2, q3⟩, h0, h1, h2, h3, h4, h5⟩ := h; go_simp) HX4.out ?_
        go_frame
        refine takeH 5 44 (tP b) rfl rfl (by kernel_rfl) (by kernel_rfl) (by kernel_rfl) (fun _ _ _ h => h) rfl (fun w' h => by obtain ⟨⟨q2, q3⟩, h0, h1, h2, h3, h4, h5⟩ := h; go_simp) HX4.out ?_
        go_frame
        refine takeH 6 45 (tP b) rfl rfl (by kernel_rfl) (by kernel_rfl) (by kernel_rfl) (fun _ _ _ h => h) rfl (fun w' h => by obtain ⟨⟨q2, q3⟩, h0, h1, h2, h3, h4, h5⟩ := h; go_simp) HX4.out ?_
        go_frame
        refine takeH 7 46 (.pointer (some ⟨b, 2, none⟩)) rfl rfl (by kernel_rfl) (by kernel_rfl) (by kernel_rfl) (fun _ _ _ h => h) rfl (fun w' h => by obtain ⟨⟨q2, q3⟩, h0, h1, h2, h3, h4, h5⟩ := h; go_simp) HX4.out ?_
        go_frame
        refine takeH 8 47 (.slice A3 (es.length + 1) c3) rfl rfl (by kernel_rfl) (by kernel_rfl) (by kernel_rfl) (fun _ _ _ h => h) rfl (fun w' h => by obtain ⟨⟨q2, q3⟩, h0, h1, h2, h3, h4, h5⟩ := h; go_simp) HX4.out ?_
        go_frame
        refine takeH 9 48 (.int .i64 ((es.length + 1 : Nat) : Int)) rfl rfl (by kernel_rfl) (by kernel_rfl) (by kernel_rfl) (fun _ _ _ h => h) rfl (fun w' h => by obtain ⟨⟨q2, q3⟩, h0, h1, h2, h3, h4, h5⟩ := h; go_simp) HX4.out ?_
        go_frame
        refine wpAnyH_all (rs := [10]) (by kernel_rfl) (by simp) ?_
        simp only [List.mem_singleton, forall_eq]
        refine wpOp_storeE rfl rfl rfl (by unfold eagg at hup; push_cast at hup; go_simp) ⟨HX5.out, ?_⟩
        refine wpAnyH_done (by kernel_rfl) ?_ _
        refine NoPanic.normal ?_
        clear hup HX4 HX5
        have k0 := HB4.out.blk.at (o := 0) rfl
        have k1 := HB4.out.blk.at (o := 1) rfl
        have k2 := HB4.out.blk.at (o := 2) rfl
        have k3 := HB4.out.blk.at (o := 3) rfl
        go_wp2_with fail
        rw [show (es.length : Int) + 1 = ((es.length + 1 : Nat) : Int) from by push_cast; rfl]
        refine (HH.out _).mono ?_
        rintro x V5 ⟨v, rfl, hO, hB5⟩
        have HFIN := Lib.hid (show EnR w base b m (.slice RA es.length rc) sym (fro ++ len4 (es.length + 1)) full (es ++ [⟨kd, ky, tx, ro, ls, mk⟩]) (.returned v) V5 from
          ⟨v, .slice A3 (es.length + 1) c3, rfl, hO.lower (by have h1 := HB2.out.size; have h2 := HT4.out.size; omega), HB4.out.below hB5, ((Trs.of_below HB2.out).trans HT4.out).below hB5, (by
            have h1 := HB2.out.size
            rcases HNEW with h | ⟨k, h, hk⟩
            · exact .inr (.inl h)
            · exact .inr (.inr ⟨k, h, by omega⟩)), fun q => by
            cases hv : v.ownBlock with
            | none => obtain ⟨g, c, hg, _⟩ := hO.form (by simp [fro_length, List.length_append]; omega); rw [hg] at hv; cases hv
            | some k => have h1 := (hO.lt k hv).1; rw [hv] at q; have h2 := (World.ownsRow.lt HB4.out.row k q.symm).2; omega⟩)
        clear hO hB5 k0 k1 k2 k3
        go_wp2_with fail
        go_ret
        exact HFIN.out
end Go.Proofs.YtlnjpmpddomjiaaGreatDoor
