/- box: the map from entries to numbers, known by what it answers. -/
import Derived.Test.YtpfbpiegejbhkaaDoorBeSt
set_option maxRecDepth 100000
namespace Go.Proofs.YtpfbpiegejbhkaaDoor
open Go.RowKit
abbrev tME : TypeId := 53
theorem EnL.eq {a b : EnL} (h1 : a.kind = b.kind) (h2 : a.key = b.key) (h3 : a.text = b.text) (h4 : a.rounds = b.rounds) (h5 : a.lst = b.lst) (h6 : a.mask = b.mask) : a = b := by
  cases a; cases b; simp_all
instance : DecidableEq EnL := fun a b =>
  if h : a.kind = b.kind ∧ a.key = b.key ∧ a.text = b.text ∧ a.rounds = b.rounds ∧ a.lst = b.lst ∧ a.mask = b.mask then isTrue (EnL.eq h.1 h.2.1 h.2.2.1 h.2.2.2.1 h.2.2.2.2.1 h.2.2.2.2.2)
  else isFalse (fun e => h (by subst e; exact ⟨rfl, rfl, rfl, rfl, rfl, rfl⟩))
/-- An entry that there may be. -/
structure OkE (e : EnL) : Prop where
  k0 : 0 ≤ e.kind
  k1 : e.kind ≤ 100
  r0 : 0 ≤ e.rounds
  r1 : e.rounds ≤ 100000
  l1 : e.key.length ≤ 1000000
  l2 : e.text.length ≤ 1000000
  l3 : e.lst.length ≤ 1000000
  l4 : e.mask.length ≤ 1000000
/-- How an entry reads as a key. -/
def kE (e : EnL) : Lit := .string (keyBytes [.int .i64 e.kind, .string e.key, .string e.text, .int .i64 e.rounds, .string e.lst, .string e.mask])
theorem en_keyed : Maps.Keyed Tryd.prog tEn := Maps.Keyed.of_law (deep_law (m := 2) (by omega) (by kernel_rfl) (by kernel_rfl) (by kernel_rfl))
theorem en_key (e : EnL) (h : OkE e) : keyOf Tryd.prog tEn (eagg e) = some (kE e) := by
  have hk : Tryd.prog.keyType tEn = true := by kernel_rfl
  have hc : Tryd.prog.cellsOf tEn = 6 := by kernel_rfl
  have hi : Tryd.prog.cellsOf 3 = 1 := by kernel_rfl
  have hs : Tryd.prog.cellsOf 9 = 1 := by kernel_rfl
  obtain ⟨n, hn⟩ : ∃ n, Tryd.prog.types.size = n + 1 := ⟨Tryd.prog.types.size - 1, by kernel_rfl⟩
  obtain ⟨k0, k1, r0, r1, l1, l2, l3, l4⟩ := h
  have w1 : (Lit.int .i64 e.kind).wf = true := by simp [Lit.wf, IntKind.min, IntKind.max, IntKind.bits, IntKind.signed]; omega
  have w2 : (Lit.int .i64 e.rounds).wf = true := by simp [Lit.wf, IntKind.min, IntKind.max, IntKind.bits, IntKind.signed]; omega
  have m1 : e.key.length ≤ maxLen := by unfold maxLen; omega
  have m2 : e.text.length ≤ maxLen := by unfold maxLen; omega
  have m3 : e.lst.length ≤ maxLen := by unfold maxLen; omega
  have m4 : e.mask.length ≤ maxLen := by unfold maxLen; omega
  have kI : ∀ z : Int, (Lit.int .i64 z).wf = true → Tryd.prog.keyLits (n + 1) 3 [.int .i64 z] = some [.int .i64 z] := fun z hz => by
    simp [Program.keyLits, Tryd.underlying3, hz]
  have kS : ∀ s : List UInt8, s.length ≤ maxLen → Tryd.prog.keyLits (n + 1) 9 [str s] = some [.string s] := fun s hs => by
    simp [Program.keyLits, Tryd.underlying9, ByteArray.size, hs]
  have e1 := kI _ w1
  have e2 := kS _ m1
  have e3 := kS _ m2
  have e4 := kI _ w2
  have e5 := kS _ m3
  have e6 := kS _ m4
  clear kI kS
  unfold keyOf
  rw [Tryd.underlying61]
  simp only [hk, Bool.true_and]
  rw [if_pos (by simp only [Value.formed, Tryd.underlying61, hc]; rfl), hn]
  unfold Program.keyLits
  simp only [Tryd.underlying61, Value.cells, hc]
  rw [if_pos ⟨rfl, by simp⟩]
  simp only [List.mapM_cons, List.mapM_nil, hi, hs, List.drop_zero, List.drop_succ_cons, List.take_succ_cons, List.take_zero, e1, e2, e3, e4, e5, e6]
  rfl
theorem kE_inj {a b : EnL} (ha : OkE a) (hb : OkE b) (h : kE a = kE b) : a = b := by
  have h1 := en_key a ha
  have h2 := en_key b hb
  rw [← h] at h2
  have h3 := en_keyed.inj h1 h2
  simp only [Value.agg.injEq, Array.mk.injEq, List.cons.injEq, Value.int.injEq, Value.string.injEq, true_and, and_true, ByteArray.mk.injEq] at h3
  obtain ⟨e1, e2, e3, e4, e5, e6⟩ := h3
  refine EnL.eq e1 ?_ ?_ e4 ?_ ?_
  · simpa using e2
  · simpa using e3
  · simpa using e5
  · simpa using e6
/-- How a number reads. -/
def rdN : Value → Option (DataW Unit × List MemPlace)
  | .int .i64 n => some (.lit (.int .i64 n), [])
  | _ => none
theorem rdN_inv {v : Value} {n : Int} {ps : List MemPlace} (h : rdN v = some (.lit (.int .i64 n), ps)) : v = .int .i64 n := by
  unfold rdN at h
  split at h
  · simp at h; rw [h.1]
  · cases h
/-- An entry's number; 0: it has none. -/
def numE (es : List EnL) (e : EnL) : Nat := if e ∈ es then es.idxOf e + 1 else 0
theorem numE_le (es : List EnL) (e : EnL) : numE es e ≤ es.length := by
  unfold numE
  split
  · rename_i h; exact List.idxOf_lt_length_of_mem h
  · omega
theorem numE_new {es : List EnL} {e : EnL} (h : e ∉ es) : numE (es ++ [e]) e = es.length + 1 := by
  unfold numE
  rw [if_pos (by simp), List.idxOf_append, if_neg h]
  simp
theorem numE_old {es : List EnL} {e x : EnL} (h : x ≠ e) : numE (es ++ [e]) x = numE es x := by
  unfold numE
  by_cases hx : x ∈ es
  · rw [if_pos hx, if_pos (by simp [hx]), List.idxOf_append, if_pos hx]
  · rw [if_neg hx, if_neg (by simp [hx, h])]
/-- The map at block m holds the numbers of es. -/
def MpE (w : World) (m : Nat) (es : List EnL) : Prop :=
  ∃ D, w.ownsMap Tryd.prog tEn rdN m 5000 D ∧ (∀ e z, OkE e → D.atKey (kE e) z = if e ∈ es then .lit (.int .i64 (numE es e : Nat)) else z) ∧ Maps.size D ≤ es.length
theorem ownsMap_fitE {w : World} {b n n' : Nat} {D : DataW Unit} (h : w.ownsMap Tryd.prog tEn rdN b n D) (hs : Maps.size D ≤ n') : w.ownsMap Tryd.prog tEn rdN b n' D := by
  obtain ⟨es, clock, hb, F, _, rfl⟩ := h
  refine ⟨es, clock, hb, F, ?_, rfl⟩
  simpa [Maps.size, length_sorted] using hs
section
variable {w w' : World} {m : Nat} {es : List EnL} {e : EnL}
theorem MpE.at (h : MpE w m es) (hb : w'.heap[m]? = w.heap[m]?) : MpE w' m es := by
  obtain ⟨D, ⟨xs, clock, h1, h2⟩, h3⟩ := h
  exact ⟨D, ⟨xs, clock, hb.trans h1, h2⟩, h3⟩
theorem MpE.isMap (h : MpE w m es) : ∃ xs c, w.heap[m]? = some (Obj.map xs c) := by
  obtain ⟨D, ⟨xs, clock, h1, _⟩, _⟩ := h
  exact ⟨xs, clock, h1⟩
theorem MpE.lt (h : MpE w m es) : m < w.heap.size := by
  obtain ⟨_, _, h⟩ := h.isMap
  exact (Array.getElem?_eq_some_iff.1 h).1
theorem MpE.look (h : MpE w m es) (he : OkE e) : (Instr.lookup tME (.map (some m)) (eagg e) true).run Tryd.prog w = .ok (.tuple #[.int .i64 ((numE es e : Nat) : Int), .bool (decide (e ∈ es))]) w := by
  obtain ⟨D, hD, hI, _⟩ := h
  obtain ⟨v, ps, h1, h2⟩ := hD.look_ok en_keyed Tryd.underlying53 (z := .int .i64 0) (by kernel_rfl) (zd := .lit (.int .i64 0)) (zp := []) rfl (en_key e he)
  rw [h1]
  have hh : Maps.has D (kE e) = decide (e ∈ es) := by
    by_cases hp : e ∈ es
    · rw [decide_eq_true hp]; exact Maps.has_true_of_atKey (y := .lit (.int .i64 (numE es e : Nat))) (fun z => by rw [hI e z he, if_pos hp])
    · rw [decide_eq_false hp]; exact Maps.has_false_of_atKey (fun z => by rw [hI e z he, if_neg hp])
  rw [hh]
  have : v = .int .i64 ((numE es e : Nat) : Int) := rdN_inv (ps := ps) (by
    rw [h2, hI e _ he]
    by_cases hp : e ∈ es
    · rw [if_pos hp]
    · rw [if_neg hp]; simp [numE, hp])
  rw [this]
theorem MpE.new (w : World) : MpE (w.alloc (.map #[] 0)) w.heap.size [] := by
  refine ⟨.map [], (World.ownsMap_made w _ _ _).mono (by omega), fun e z _ => ?_, by simp [Maps.size]⟩
  simp [DataW.atKey]
theorem MpE.put (h : MpE w m es) (he : OkE e) (hn : e ∉ es) (hl : es.length < 4999) :
    ∃ w', (Instr.mapUpdate tME (.map (some m)) (eagg e) (.int .i64 ((es.length + 1 : Nat) : Int))).run Tryd.prog w = .ok () w' ∧ MpE w' m (es ++ [e]) ∧ w.grownBy w' (some m) := by
  obtain ⟨D, hD, hI, hs⟩ := h
  obtain ⟨w', h1, h2, h3⟩ := hD.update en_keyed Tryd.underlying53 (by decide) (en_key e he) (val := .int .i64 ((es.length + 1 : Nat) : Int)) (d := .lit (.int .i64 ((es.length + 1 : Nat) : Int))) (ps := []) rfl
  refine ⟨w', h1, ?_, h3⟩
  have ht := hD.tidy en_keyed
  have hsz := Maps.size_put (k := kE e) (d := .lit (.int .i64 ((es.length + 1 : Nat) : Int))) ht
  have hle : Maps.size (D.put (kE e) (.lit (.int .i64 ((es.length + 1 : Nat) : Int)))) ≤ es.length + 1 := by rw [hsz]; split <;> omega
  refine ⟨_, ownsMap_fitE h2 (by omega), fun x z hx => ?_, by rw [List.length_append]; exact hle⟩
  by_cases hxe : x = e
  · subst hxe
    rw [Maps.atKey_put_same ht.isMap (en_keyed.key (en_key x he)), if_pos (by simp), numE_new hn]
  · rw [Maps.atKey_put_other (fun h => hxe (kE_inj hx he h)), hI x z hx, numE_old hxe]
    by_cases hp : x ∈ es
    · rw [if_pos hp, if_pos (by simp [hp])]
    · rw [if_neg hp, if_neg (by simp [hp, hxe])]
end
end Go.Proofs.YtpfbpiegejbhkaaDoor
