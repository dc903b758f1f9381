/- head.parse, as ParseRequest calls it (of ASCII bytes). -/
import Derived.Test.YtajclihnoedecaaGreatDoorHdPr
import Derived.Deep.DeepCutAuto
namespace Go.Proofs.YtajclihnoedecaaGreatDoor
open Go.RowKit Go.Shelf
attribute [local go_sem] Oper.semAt_some
/-- Lines under way. -/
structure Ls (w : World) (L : List UInt8) (pre : List (List UInt8)) (va : Value) (A : World) : Prop where
  bo : Boxed A w.heap.size 82 va
  bs : Boxed A (w.heap.size + 1) 9 (str L)
  own : OwnT A (w.heap.size + 2) va pre
  low : Below w.heap.size w A
  sz : w.heap.size + 2 ≤ A.heap.size
section
variable {w A B A1 : World} {L : List UInt8} {pre : List (List UInt8)} {va v1 : Value} {x : List UInt8}
theorem Ls.ne (h : Ls w L pre va A) {b : Nat} (hb : b < w.heap.size + 2) : some b ≠ va.ownBlock := fun e => by
  have := (h.own.lt b e.symm).1; omega
theorem Ls.kc (h : Ls w L pre va A) (hk : KC 0 A B) (hl : Below w.heap.size A B) : Ls w L pre va B :=
  ⟨hk _ _ _ _ (Nat.zero_le _) h.bo, hk _ _ _ _ (Nat.zero_le _) h.bs, ownsRow_kc h.own (Nat.zero_le _) hk, h.low.trans hl, Nat.le_trans h.sz hl.size⟩
theorem Ls.below (h : Ls w L pre va A) (hb : Below A.heap.size A B) : Ls w L pre va B :=
  h.kc (fun k c t f _ ho => (hb.block k (Array.getElem?_eq_some_iff.1 ho).1).trans ho) (hb.mono (by have := h.sz; omega))
theorem Ls.put {l : Nat} {o o' : Obj} (h : Ls w L pre va A) (hl : w.heap.size ≤ l) (ho : A.heap[l]? = some o) (hc : o.isCells = false) : Ls w L pre va (A.putObj l o') :=
  h.kc (kc_putObj ho hc) (below_own (B := w.heap.size) (Nat.le_refl _) (by have := h.sz; omega) (grownBy_putObj' A l o') (fun r e => by cases e; exact ⟨hl, o, ho, hc⟩))
/-- One more line. -/
theorem Ls.out {o : Obj} (h : Ls w L pre va A) (hg : (A.alloc o).grownBy A1 va.ownBlock) (hv : OwnT A1 (w.heap.size + 2) v1 (pre ++ [x])) :
    Boxed A1 w.heap.size 82 va ∧ Ls w L (pre ++ [x]) v1 (A1.setCell ⟨w.heap.size, 0, none⟩ v1) ∧ KeepsFrom (w.heap.size + 2) A (A1.setCell ⟨w.heap.size, 0, none⟩ v1) := by
  have g0 := World.grownBy_alloc A o none
  have g1 := grown_set A1 ⟨w.heap.size, 0, none⟩ v1
  have bo1 := (h.bo.alloc o).kept hg (h.ne (by omega))
  have bs1 := (h.bs.alloc o).kept hg (h.ne (by omega))
  have hsz := h.sz
  have s0 := g0.size
  have s1 := hg.size
  have s2 := g1.size
  have lw : Below w.heap.size A A1 := ((Below.refl w.heap.size A).alloc (by omega) o).grown hg (by omega) (fun j e => by have := (World.ownsRow.lt h.own j e).1; omega)
  refine ⟨bo1, ⟨bo1.set v1, bs1.kept g1 (by simp), hv.kept g1 (.inr (fun e => by have := (hv.lt w.heap.size e).1; omega)), (h.low.trans lw).setCell (p := ⟨w.heap.size, 0, none⟩) (Nat.le_refl _) v1, by omega⟩, by omega, fun g ob hgl ho hc => ?_⟩
  have hk0 := (Array.getElem?_eq_some_iff.1 ho).1
  refine (g1.block g (by omega) (by simp; omega)).trans ((hg.block g (by omega) ?_).trans ((g0.block g hk0 (by simp)).trans ho))
  intro e
  rcases h.own.2 with ⟨h0, _⟩ | ⟨g', cap, cur, h0, _, hg', _⟩
  · rw [h0] at e; simp [Value.ownBlock] at e
  · rw [h0] at e
    have : g = g' := by simpa [Value.ownBlock] using e
    subst this
    rw [ho] at hg'; cases hg'; cases hc
end
theorem lnF_len : ∀ (f : Nat) (l : List UInt8), (lnF f l).length ≤ f
  | 0, _ => Nat.le_refl _
  | f + 1, l => by
    rw [lnF]
    split
    · simp
    · have := lnF_len f (Lib.cut l [13, 10]).2.1
      simp only [List.length_cons]; omega
theorem linesL_len (l : List UInt8) : (linesL l).length ≤ l.length := lnF_len _ _
theorem lnF_parts (p : UInt8 → Bool) : ∀ (f : Nat) (l : List UInt8), l.all p = true → ∀ x ∈ lnF f l, x.1.all p = true ∧ x.1.length ≤ l.length
  | 0, _, _, _, hx => by cases hx
  | f + 1, l, h, x, hx => by
    rw [lnF] at hx
    split at hx
    · cases hx
    · obtain ⟨a1, a2⟩ := cut_allP p l [13, 10] h
      obtain ⟨l1, l2⟩ := cut_len l [13, 10]
      rcases List.mem_cons.1 hx with rfl | hx
      · exact ⟨a1, l1⟩
      · obtain ⟨b1, b2⟩ := lnF_parts p f _ a2 x hx
        exact ⟨b1, by omega⟩
/-- From the second one on. -/
theorem slice_one (g m cap : Nat) (hc : m + 1 ≤ cap) (_hm : cap ≤ maxLen) : ∃ of, (m ≠ 0 → of = 1) ∧ ∀ W, (Instr.slice 82 (.slice (some ⟨g, 0, none⟩) (m + 1) cap) (some (.int .i64 1)) none none).run Tryz.prog W = .ok (.slice (some ⟨g, of, none⟩) m (cap - 1)) W := by
  by_cases h : cap = 1
  · subst h
    obtain rfl : m = 0 := by omega
    exact ⟨0, fun h => absurd rfl h, fun W => by go_simp⟩
  · refine ⟨1, fun _ => rfl, fun W => ?_⟩
    go_simp
    intro h'
    exfalso; omega
theorem fieldsL_none {a b : List (List UInt8)} {l : List UInt8} (h : fieldL l = none) : fieldsL (a ++ l :: b) = none := by
  rw [fieldsL_app]
  have : fieldsL (l :: b) = none := by rw [fieldsL, h]
  rw [this]
  cases fieldsL a <;> rfl
theorem fieldsL_snoc {a : List (List UInt8)} {l : List UInt8} {fs : List (List UInt8 × List UInt8)} {f : List UInt8 × List UInt8} (h : fieldsL a = some fs) (h2 : fieldL l = some f) : fieldsL (a ++ [l]) = some (fs ++ [f]) := by
  rw [fieldsL_app, h]
  have : fieldsL [l] = some [f] := by rw [fieldsL, h2]; rfl
  rw [this]; rfl
theorem fieldsL_len : ∀ {a : List (List UInt8)} {fs : List (List UInt8 × List UInt8)}, fieldsL a = some fs → fs.length = a.length
  | [], fs, h => by have : some [] = some fs := h; cases this; rfl
  | l :: a, fs, h => by
    rw [fieldsL] at h
    cases h1 : fieldL l with
    | none => rw [h1] at h; cases h
    | some f =>
      rw [h1] at h
      cases h2 : fieldsL a with
      | none => rw [h2] at h; cases h
      | some gs =>
        rw [h2] at h
        have : some (f :: gs) = some fs := h
        cases this
        simp [fieldsL_len h2]
theorem take_snocG {α : Type} (xs : List α) (k : Nat) (h : k < xs.length) : xs.take (k + 1) = xs.take k ++ [xs[k]] := List.take_succ_eq_append_getElem h
theorem sl_front {W : World} {b o c N : Nat} {l : List UInt8} (h : Bs W b o l) (hN : N ≤ l.length) (hc : l.length ≤ c) (hc2 : c ≤ 9223372036854775807) : Sl W (b + 1) (.slice (some ⟨b, o, none⟩) N c) (l.take N) := by
  have e : (l.take N).length = N := by rw [List.length_take]; omega
  exact ⟨_, c, by rw [e], (fun h => by cases h), by omega, hc2, fun _ => ⟨b, o, rfl, by omega, h.take N⟩⟩
/-- A closure that reads the first line: it fills in the first two cells of its block. -/
def StOk (g : Nat) (st : List UInt8 → Bool) (p q : List UInt8 → Value) : Prop :=
  ∀ (l0 : List UInt8) (r : Nat) (x y z : Value) (A : World), Env A → l0.length ≤ 100000 → Blk A r [x, y, z] →
    Calls Tryz.prog g #[str l0, .pointer (some ⟨r, 0, none⟩)] A fun e w' => e = .returned (.bool (st l0)) ∧ A.grownBy w' (some r) ∧ Blk w' r [p l0, q l0, z]
/-- How parse ends: what it returns is the list's; the closure's block r holds the first line's parts where there is no error. -/
def ParR (st : List UInt8 → Bool) (pf qf : List UInt8 → Value) (r : Nat) (w : World) (z : Value) (p : List UInt8) (e : Ending) (w' : World) : Prop :=
  ∃ v fs n x, e = .returned (.tuple #[v, .int .i64 n, .int .i64 x]) ∧ parseL st p = (fs, n, x) ∧ OwnP w' w.heap.size v fs ∧ w.grownBy w' (some r) ∧
    (∃ x0 x1, Blk w' r [x0, x1, z]) ∧ (x = 0 → Blk w' r [pf ((headLines p).headD []), qf ((headLines p).headD []), z])
theorem ParR.put {st : List UInt8 → Bool} {pf qf : List UInt8 → Value} {r : Nat} {w : World} {z : Value} {p : List UInt8} {e : Ending} {A : World} (h : ParR st pf qf r w z p e A) {l : Nat} {o o' : Obj} (hl : w.heap.size ≤ l) (ho : A.heap[l]? = some o) (hc : o.isCells = false) : ParR st pf qf r w z p e (A.putObj l o') := by
  obtain ⟨v, fs, n, x, he, hp, hO, hg, ⟨x0, x1, hk⟩, hq⟩ := h
  have hkc := kc_putObj (b := 0) (o' := o') ho hc
  have bk : ∀ {cs : List Value}, Blk A r cs → Blk (A.putObj l o') r cs := fun h => by
    obtain ⟨t, h⟩ := h; exact ⟨t, hkc _ _ _ _ (Nat.zero_le _) h⟩
  have hg2 := grownBy_putObj' A l o'
  exact ⟨v, fs, n, x, he, hp, ownsRow_kc hO (Nat.zero_le _) hkc, ⟨hg2.os.trans hg.os, hg2.tape.trans hg.tape, hg2.output.trans hg.output, Nat.le_trans hg.size hg2.size, fun k hk hn => (World.putObj_heap_other (by omega)).trans (hg.block k hk hn)⟩,
    ⟨x0, x1, bk hk⟩, fun h => bk (hq h)⟩
/-- How parse goes on behind the lines: the fields' row is new, and nothing else has turned since W2. -/
structure Pg (W2 : World) (fs : List (List UInt8 × List UInt8)) (v : Value) (A : World) : Prop where
  own : OwnP A W2.heap.size v fs
  low : Below W2.heap.size W2 A
section
variable {W2 A B : World} {fs : List (List UInt8 × List UInt8)} {v v1 : Value} {f : List UInt8 × List UInt8}
theorem Pg.below (h : Pg W2 fs v A) (hb : Below A.heap.size A B) : Pg W2 fs v B := ⟨h.own.below hb, h.low.trans (hb.mono h.low.size)⟩
theorem Pg.out (h : Pg W2 fs v A) (hg : A.grownBy B v.ownBlock) (hv : OwnP B W2.heap.size v1 (fs ++ [f])) : Pg W2 (fs ++ [f]) v1 B :=
  ⟨hv, h.low.grown hg h.low.size (fun k hk => (World.ownsRow.lt h.own k hk).1)⟩
theorem OwnP.le {base base' : Nat} (h : OwnP A base v fs) (hb : base' ≤ base) : OwnP A base' v fs := by
  obtain ⟨h1, h2 | ⟨g, cap, cur, h0, hbg, hg, h3⟩⟩ := h
  · exact ⟨h1, .inl h2⟩
  · exact ⟨h1, .inr ⟨g, cap, cur, h0, by omega, hg, h3⟩⟩
end
theorem cell_grown {A B : World} {r b o : Nat} {v : Value} (h : A.cell? ⟨b, o, none⟩ = some v) (hg : A.grownBy B (some r)) (hne : b ≠ r) : B.cell? ⟨b, o, none⟩ = some v := by
  rw [World.cell?_of_block (hg.block b (World.block_lt_of_cell? A _ h) (fun e => hne (by cases e; rfl)))]; exact h
theorem belowR {B r : Nat} {w A : World} (h : w.grownBy A (some r)) (hB : B ≤ w.heap.size) (hr : B ≤ r) : Below B w A :=
  (Below.refl B w).grown h hB (fun k e => by cases e; exact hr)
set_option maxRecDepth 100000 in
set_option maxHeartbeats 4000000 in
theorem parse_st (gf : Nat) (hgf : ∀ args w, (callFunc gf args).run Tryz.prog w = .ok (.enter gf args) w) (st : List UInt8 → Bool) (pf qf : List UInt8 → Value) (hso : StOk gf st pf qf) (b o c r : Nat) (l : List UInt8) (x y z : Value) (w0 w : World) (h0 : Env w0) (hw0 : Below w0.heap.size w0 w) (hr : w0.heap.size ≤ r) (hl : Bs w b o l) (hb : b < w.heap.size) (hc : l.length ≤ c) (hc2 : c ≤ 9223372036854775807) (hs : l.length ≤ 5000)
    (hk : Blk w r [x, y, z]) :
    Calls Tryz.prog 29 #[.slice (some ⟨b, o, none⟩) l.length c, .func (.func gf) #[] #[.pointer (some ⟨r, 0, none⟩)]] w (ParR st pf qf r w z l) := by
  have hE := h0.below hw0
  have HSO := Lib.hid hso; clear hso
  have HE0 := Lib.hid h0; have HW0 := Lib.hid hw0; clear h0 hw0
  have HS := Lib.hid (size_any b o c l w hE hl hb hc hc2 hs)
  have hd : sizeT l = if endL l = -1 then (0, if l.length < 4096 then 2 else 3) else (endL l + 4, 0) := rfl
  have hge := Lib.index_ge (l.take 4096) crcr
  have hle := Lib.index_le (l.take 4096) crcr
  have hix : endL l = Lib.index (l.take 4096) crcr := rfl
  rw [← hix] at hge hle
  clear hix
  have HK := Lib.hid hk
  have HE := Lib.hid hE
  by_cases hm : endL l = -1
  · rw [if_pos hm] at hd
    rw [hd] at HS
    have hne : (((if l.length < 4096 then (2 : Int) else 3) == 0) = false) := by split <;> rfl
    have hpl : parseL st l = ([], 0, if l.length < 4096 then 2 else 3) := by unfold parseL; rw [if_pos hm]
    have hn0 : (if l.length < 4096 then (2 : Int) else 3) ≠ 0 := by split <;> decide
    obtain ⟨X, hX⟩ : ∃ X : Int, X = if l.length < 4096 then 2 else 3 := ⟨_, rfl⟩
    rw [← hX] at HS hne hpl hn0
    have HPL := Lib.hid hpl
    have HN0 := Lib.hid hn0
    clear hd hm hk hE hge hle hX hpl hn0
    go_enter Tryz.func29, Tryz.ntmps29
    go_wp2_with fail
    refine HS.out.mono ?_
    rintro e w1 ⟨rfl, hB⟩
    have HB := Lib.hid hB; clear hB HS
    go_wp2_with fail
    go_ret3
    refine ⟨_, _, _, _, rfl, HPL.out, World.ownsRow_nil _ _ _ 2, grown_of_below HB.out _, ⟨_, _, HK.out.below HB.out HK.out.lt⟩, fun h => absurd h HN0.out⟩
  · have hroom := Lib.index_room (l.take 4096) crcr (by have : endL l = Lib.index (l.take 4096) crcr := rfl; omega)
    obtain ⟨i, hi⟩ : ∃ i : Nat, endL l = i := ⟨(endL l).toNat, by omega⟩
    have hi2 : Lib.index (l.take 4096) crcr = i := hi
    rw [hi2] at hroom
    obtain ⟨N, hN⟩ : ∃ N, N = i + 2 := ⟨_, rfl⟩
    have hN1 : N + 2 ≤ l.length := by simp [crcr] at hroom; omega
    have hN2 : N + 2 ≤ 4096 := by simp [crcr] at hroom; omega
    have hN3 : 2 ≤ N := by omega
    rw [if_neg hm, hi] at hd
    have hd2 : sizeT l = ((N : Int) + 2, 0) := by rw [hd, hN]; simp; omega
    rw [hd2] at HS
    obtain ⟨T, hT⟩ : ∃ T, T = l.take N := ⟨_, rfl⟩
    have hTl : T.length = N := by rw [hT, List.length_take]; omega
    have hT5 : T.length ≤ 5000 := by omega
    have hH : headLines l = (linesL T).map (·.1) := by unfold headLines; rw [hi, hT, hN]; rfl
    have hpl : parseL st l = if st ((headLines l).headD []) = false then ([], 0, (4 : Int)) else match fieldsL (headLines l).tail with
        | none => ([], 0, (4 : Int))
        | some fs => if 24 < fs.length then ([], 0, (3 : Int)) else (fs, (N : Int) + 2, 0) := by
      unfold parseL
      rw [if_neg hm, hi]
      rw [show (i : Int) + 4 = (N : Int) + 2 by omega]
      rfl
    have HSL := Lib.hid (fun W (h : Bs W b o l) => sl_front (N := N) h (by omega) hc hc2)
    rw [← hT] at HSL
    have HH := Lib.hid hH
    have HPL := Lib.hid hpl
    have HLb := Lib.hid hl
    have hcN : N ≤ c := by omega
    have hTne : T ≠ [] := by intro e; rw [e] at hTl; simp at hTl; omega
    have HNE := Lib.hid (linesL_ne hTne)
    clear hd hd2 hpl hH hT hN hi hi2 hroom hm hge hle hE hk hTl hTne hl
    refine (callsIn_wide (n := 12)).1 ?_
    refine callsIn_of_wp_marks Tryz.func29 rfl trivial ?_ rfl
    simp only [Tryz.ntmps29, List.size_toArray, List.length_cons, List.length_nil, Nat.reduceAdd, Nat.reduceSub, Array.replicate_succ, Array.replicate_zero, List.push_toArray, List.append_toArray, List.nil_append, List.cons_append]
    gi_wp2
    refine ⟨trivial, (callsIn_wide.2 HS.out).mono ?_⟩
    rintro e w1 ⟨rfl, hB⟩
    have HL1 := Lib.hid (HLb.out.below hB hb)
    have HB1 := Lib.hid hB
    have hsz1 := hB.size
    clear hB HS
    gi_wp2
    have hhl := (callsIn_wide (n := 11)).2 (hlines_any _ T (b + 1) (w1.alloc (.cells #[.slice none 0 0] 82)) (HSL.out _ (HL1.out.below ((Below.refl _ _).alloc (Nat.le_refl _) _) (by omega))))
    refine ⟨trivial, hhl.mono ?_⟩
    rintro e W3 ⟨rfl, hW3⟩
    clear hhl
    have hP : Ls w1 T [] (.slice none 0 0) W3 := by
      have q1 := Boxed.new w1 82 (.slice none 0 0)
      have q2 := Boxed.new (w1.alloc (.cells #[.slice none 0 0] 82)) 9 (str T)
      simp only [World.size_alloc] at q2
      rw [hW3]
      exact ⟨q1.alloc _, q2, World.ownsRow_nil _ _ _ 1, ((Below.refl _ w1).alloc (Nat.le_refl _) _).alloc (by simp) _, by simp⟩
    have hz3 : W3.heap.size = w1.heap.size + 2 := by rw [hW3]; simp
    simp only [World.size_alloc]
    clear hW3
    have HP := Lib.hid hP; clear hP
    have HSQ := Lib.hid (lines1_g (12 - 1) (by omega) (w1.heap.size + 1) T hT5 W3)
    have HE1 := Lib.hid (HE.out.below HB1.out)
    gi_wp2
    have hll := linesL_len T
    refine wpIn_rangeFunc_g rfl (by omega) (gf := lF) (lb := #[.pointer (some ⟨w1.heap.size + 1, 0, none⟩)]) rfl trivial (fun _ _ => rfl) (encs := fun x : List UInt8 × Bool => #[str x.1, .bool x.2]) StL (fun _ _ => True) (LnY T) (fun ys => ys = linesL T)
      (fun A => Boxed A (w1.heap.size + 1) 9 (str T) ∧ Env A)
      (fun pre A => ∃ va, Ls w1 T (pre.map (·.1)) va A)
      (fun _ _ _ => False)
      HSQ.out (fun pre A h => by obtain ⟨va, h⟩ := h; exact ⟨h.bs, HE1.out.below h.low⟩) (fun _ => rfl)
      (fun _ _ _ _ h _ hk => h.block _ hk) (fun _ _ _ h => h.size) (fun _ _ _ _ _ => trivial) (fun _ _ _ _ _ _ _ => trivial)
      (fun pre A B h hst => by obtain ⟨va, h⟩ := h; exact ⟨va, h.below hst⟩)
      (fun c pre A B h hst => h)
      (fun pre A l o o' h hl ho hc => by obtain ⟨va, h⟩ := h; exact ⟨va, h.put (by omega) ho hc⟩)
      (fun c pre A l o o' h hl ho hc => h)
      (fun _ _ _ _ _ _ _ h _ _ _ => h)
      (fun W' hb hs => ⟨_, HP.out.below hb⟩)
      (fun x a' => a' = { tmps := #[Value.slice (some ⟨b, o, none⟩) l.length c, Value.func (Fn.func gf) #[] #[Value.pointer (some ⟨r, 0, none⟩)], undef, undef, Value.slice none 0 0, Value.int IntKind.i64 0, Value.int IntKind.i64 0, Value.int IntKind.i64 ((N : Int) + 2), Value.int IntKind.i64 0, Value.pointer (some ⟨w1.heap.size, 0, none⟩), str x.1, undef, undef, undef, undef, undef, Value.tuple #[Value.int IntKind.i64 ((N : Int) + 2), Value.int IntKind.i64 0], Value.slice (some ⟨b, o, none⟩) l.length c, Value.tuple #[Value.int IntKind.i64 ((N : Int) + 2), Value.int IntKind.i64 0], Value.int IntKind.i64 ((N : Int) + 2), Value.int IntKind.i64 0, Value.int IntKind.i64 0, Value.bool false, undef, Value.slice (some ⟨b, o, none⟩) l.length c, Value.int IntKind.i64 ((N : Int) + 2), Value.int IntKind.i64 (N : Int), Value.slice (some ⟨b, o, none⟩) N c, Value.func (Fn.func lF) #[] #[Value.pointer (some ⟨w1.heap.size + 1, 0, none⟩)], str x.1, Value.bool x.2, undef, undef, undef, undef, undef, undef, undef, undef, undef, undef, undef, undef, undef, undef, undef, undef, undef, undef, undef, undef, undef, undef, undef, undef, undef, undef, undef, undef, undef, undef, undef, undef, undef, undef], defers := [] })
      ?assign ?body ?done ?stop
    case assign =>
      rintro k x A K hK
      have HK := Lib.hid hK; clear hK
      gi_wp2
      exact HK.out _ rfl
    case stop => exact fun _ _ _ _ _ _ h => h.elim
    case body =>
      rintro k bb pre ⟨x, xb⟩ a' A hbb hbz ⟨va, hJ⟩ hpre rfl
      have hpl := List.IsPrefix.length_le hpre
      have hz4 := hJ.sz
      have c4 := hJ.bo.cell
      have HJ := Lib.hid hJ
      have HOW := Lib.hid (hJ.own.below ((Below.refl A.heap.size A).alloc (Nat.le_refl _) (.cells #[str x] 9)))
      have HNW := Lib.hid (heap_alloc_new A (.cells #[str x] 9))
      have hzA : w1.heap.size + 2 ≤ (A.alloc (.cells #[str x] 9)).heap.size := by simp; omega
      have hpl2 : (pre.map (·.1)).length ≤ 100000 := by simp at hpl ⊢; omega
      have hmap : (pre ++ [(x, xb)]).map (·.1) = pre.map (·.1) ++ [x] := by simp
      have HMAP := Lib.hid hmap
      have HLEN : Hid ((pre.map (·.1) ++ [x]).length = pre.length + 1) := Lib.hid (by simp)
      clear hJ hpre hpl hmap
      gi_wp2_with (gi_at_builtin; (refine wpListIn_appT rfl (.tmp 31) (.tmp 33) rfl (w1.heap.size + 2) va (pre.map (·.1)) x rfl HOW.out A.heap.size rfl HNW.out hpl2 hzA ?_); intro v5 A1 hO5 hg5; obtain ⟨A5, c5, e5⟩ := hO5.slice; rw [HLEN.out] at e5; subst e5; obtain ⟨hb5, hP5, hF5⟩ := HJ.out.out (x := x) hg5 hO5; have n3 := hb5.cell; have n3' := hb5.frozen; have HP5 := Lib.hid hP5; have HF5 := Lib.hid hF5; clear hO5 hg5 hb5 hP5 hF5)
      exact ⟨HF5.out, trivial, ⟨_, by rw [HMAP.out]; exact HP5.out⟩⟩
    case done =>
      rintro D ys A hD hz rfl ⟨va, hJ⟩ hK
      have HEA := Lib.hid (HE1.out.below hJ.low)
      have hrw := HK.out.lt
      have hkA : Blk A r [x, y, z] := (HK.out.below HB1.out hrw).below hJ.low (by omega)
      have hlow : Below w.heap.size w A := HB1.out.trans (hJ.low.mono hsz1)
      have hgA : w.grownBy A (some r) := grown_of_below hlow _
      obtain ⟨l0, rest, hlines⟩ : ∃ l0 rest, (linesL T).map (·.1) = l0 :: rest := by
        cases h : linesL T with
        | nil => exact absurd h HNE.out
        | cons a t => exact ⟨_, _, rfl⟩
      have hparts : ∀ q ∈ l0 :: rest, q.length ≤ 5000 := by
        intro q hq
        rw [← hlines] at hq
        obtain ⟨q', hq', rfl⟩ := List.mem_map.1 hq
        obtain ⟨_, p2⟩ := lnF_parts (fun _ => true) _ T (by simp) q' hq'
        omega
      have hrl : rest.length ≤ 5000 := by
        have := congrArg List.length hlines
        simp at this; omega
      have hpl : parseL st l = if st l0 = false then ([], 0, (4 : Int)) else match fieldsL rest with
          | none => ([], 0, (4 : Int))
          | some fs => if 24 < fs.length then ([], 0, (3 : Int)) else (fs, (N : Int) + 2, 0) := by
        rw [HPL.out, HH.out, hlines]; rfl
      have hl0 : (headLines l).headD [] = l0 := by rw [HH.out, hlines]; rfl
      rw [hlines] at hJ
      have hp02 := hparts l0 (List.mem_cons_self ..)
      have hst := HSO.out l0 r x y z A HEA.out (by omega) hkA
      rcases hJ.own.form with ⟨_, h0⟩ | ⟨g, cap, rfl, hgb, hgl, hcap, hcm, hcells⟩
      · cases h0
      have c4 := hJ.bo.cell
      have hlen : (l0 :: rest).length = rest.length + 1 := rfl
      rw [hlen] at hcap c4
      have c5 : A.cell? ⟨g, 0, none⟩ = some (str l0) := hcells 0 (by simp)
      obtain ⟨of, hof, hsl⟩ := slice_one g rest.length cap hcap hcm
      obtain ⟨Rb, hR⟩ : ∃ c, st l0 = c := ⟨_, rfl⟩
      rw [hR] at hst hpl
      have HPL2 := Lib.hid hpl
      have HL0 := Lib.hid hl0
      have HST := Lib.hid hst
      have HPARTS := Lib.hid hparts
      have HCELLS := Lib.hid hcells
      have HGA := Lib.hid hgA
      have HKD := Lib.hid hK
      have hDw : w.heap.size ≤ D := by omega
      have hDA : D < A.heap.size := (Array.getElem?_eq_some_iff.1 hK).1
      clear hR hpl hl0 hst hparts hlines hJ hgA hlow hkA hK hp02 hcells HPL HNE HP HSQ HE1 hll hT5 hlen HEA
      gi_wp2
      refine ⟨trivial, (callsIn_wide.2 HST.out).mono ?_⟩
      rintro e W2 ⟨rfl, hg2, hk2⟩
      have hs2 := hg2.size
      have HG2 := Lib.hid (HGA.out.trans hg2)
      have HK2 := Lib.hid hk2
      have HKD2 := Lib.hid ((hg2.block D hDA (fun e => by cases e; omega)).trans HKD.out)
      have c42 : W2.cell? ⟨w1.heap.size, 0, none⟩ = some (.slice (some ⟨g, 0, none⟩) (rest.length + 1) cap) := cell_grown c4 hg2 (by omega)
      have hrow : ∀ j (h : j < rest.length), W2.cell? ⟨g, 1 + j, none⟩ = some (str rest[j]) := fun j h => by
        have h1 : 1 + j < (l0 :: rest).length := by rw [List.length_cons]; omega
        have h2 := cell_grown (HCELLS.out (1 + j) h1) hg2 (by omega)
        have h3 : (l0 :: rest)[1 + j] = rest[j] := by simp [Nat.add_comm 1 j]
        rw [h2, h3]
      have HROW := Lib.hid hrow
      have HEN := Lib.hid (HE0.out.below (HW0.out.trans (belowR HG2.out HW0.out.size hr)))
      clear hg2 hk2 hrow HST HKD HGA c4 c5 HCELLS
      cases Rb with
      | false =>
        have HQ := Lib.hid (HPL2.out.trans (if_pos rfl))
        have HFIN : Hid (ParR st pf qf r w z l (.returned (.tuple #[.slice none 0 0, .int .i64 0, .int .i64 4])) W2) :=
          Lib.hid ⟨_, _, _, _, rfl, HQ.out, World.ownsRow_nil _ _ _ 2, HG2.out, ⟨_, _, HK2.out⟩, fun h => absurd h (by decide)⟩
        gi_wp2
        show LeavesInM _ _ _ _ _ _ _ _ _
        refine ⟨by simp, .inl ⟨_, _, rfl, run_takeDeferred HKD2.out, ?_⟩⟩
        exact ⟨_, results_tmp3 (t := 4) (u := 5) (v := 6) rfl _ _ _, HFIN.out.put hDw HKD2.out rfl⟩
      | true =>
        have HQ := Lib.hid (HPL2.out.trans (if_neg (by simp)))
        have hsl2 := hsl W2
        gi_wp2
        clear hsl2
        gi_loopw [11, 44] (fun v i A => ∃ (k : Nat) (fs : List (List UInt8 × List UInt8)), k ≤ rest.length ∧ i = .int .i64 (k : Int) ∧ fieldsL (rest.take k) = some fs ∧ Pg W2 fs v A) (fun _ i _ => rest.length - (intOf i).toNat)
        case atStart => exact ⟨0, [], by omega, rfl, rfl, World.ownsRow_nil _ _ _ 2, Below.refl _ _⟩
        case round =>
          obtain ⟨k, fs, hk, rfl, hfs, hP⟩ := hrel
          by_cases hlt : k < rest.length
          · obtain rfl : of = 1 := hof (by omega)
            have hts : rest.take (k + 1) = rest.take k ++ [rest[k]] := take_snocG rest k hlt
            have hdr : rest = rest.take k ++ rest[k] :: rest.drop (k + 1) := by rw [← List.drop_eq_getElem_cons hlt, List.take_append_drop]
            have q2 := HPARTS.out rest[k] (List.mem_cons_of_mem _ (List.getElem_mem hlt))
            have ck : wr.cell? ⟨g, 1 + k, none⟩ = some (str rest[k]) := cell_below (HROW.out k hlt) hP.low
            have HFD := Lib.hid (field_any rest[k] wr (HEN.out.below hP.low) (by omega))
            obtain ⟨q, hq⟩ : ∃ q, q = rest[k] := ⟨_, rfl⟩
            rw [← hq] at hts hdr ck HFD
            have hfl := fieldsL_len hfs
            rw [List.length_take] at hfl
            have HP := Lib.hid hP
            have HHD := Lib.hid hdr
            have HTS := Lib.hid hts
            have HFS := Lib.hid hfs
            clear hP hdr hts hfs hq q2
            cases hf : fieldL q with
            | none =>
              have ht : fieldT q = ([], [], false) := by unfold fieldT; rw [hf]
              rw [ht] at HFD
              have hall : fieldsL rest = none := by rw [HHD.out]; exact fieldsL_none hf
              have HQ2 := Lib.hid (HQ.out.trans (by rw [hall]))
              clear hf ht hall HHD HTS
              gi_wp2
              refine ⟨trivial, (callsIn_wide.2 HFD.out).mono ?_⟩
              rintro e w3 ⟨rfl, hB3⟩
              have hb5 : Below W2.heap.size W2 (w3.alloc (.cells #[str [], str []] 51)) := (HP.out.low.trans (hB3.mono HP.out.low.size)).alloc (by have := HP.out.low.size; have := hB3.size; omega) _
              have HKF := Lib.hid ((hb5.block D (by omega)).trans HKD2.out)
              have HFIN : Hid (ParR st pf qf r w z l (.returned (.tuple #[.slice none 0 0, .int .i64 0, .int .i64 4])) (w3.alloc (.cells #[str [], str []] 51))) :=
                Lib.hid ⟨_, _, _, _, rfl, HQ2.out, World.ownsRow_nil _ _ _ 2, HG2.out.trans (grown_of_below hb5 _), ⟨_, _, HK2.out.below hb5 HK2.out.lt⟩, fun h => absurd h (by decide)⟩
              clear hB3 hb5 HFD
              gi_wp2
              show LeavesInM _ _ _ _ _ _ _ _ _
              refine ⟨by simp, .inl ⟨_, _, rfl, run_takeDeferred HKF.out, ?_⟩⟩
              exact ⟨_, results_tmp3 (t := 4) (u := 5) (v := 6) rfl _ _ _, HFIN.out.put hDw HKF.out rfl⟩
            | some f =>
              have ht : fieldT q = (f.1, f.2, true) := by unfold fieldT; rw [hf]
              rw [ht] at HFD
              have HSN := Lib.hid (fieldsL_snoc HFS.out hf)
              rw [← HTS.out] at HSN
              clear hf ht HHD HTS
              gi_wp2
              refine ⟨trivial, (callsIn_wide.2 HFD.out).mono ?_⟩
              rintro e w3 ⟨rfl, hB3⟩
              obtain ⟨f1, f2⟩ := f
              have hz := HP.out.low.size
              have hz3 := hB3.size
              have hbu : Below wr.heap.size wr ((w3.alloc (.cells #[str f1, str f2] 51)).alloc (.cells #[str f1, str f2] 51)) := (hB3.alloc (by omega) _).alloc (by simp; omega) _
              have HP2 := Lib.hid (HP.out.below hbu)
              have HOW := Lib.hid HP2.out.own
              have HNW := Lib.hid (show ((w3.alloc (.cells #[str f1, str f2] 51)).alloc (.cells #[str f1, str f2] 51)).heap[w3.heap.size + 1]? = some (.cells #[str f1, str f2] 51 (0, 0)) from by
                have := heap_alloc_new (w3.alloc (.cells #[str f1, str f2] 51)) (.cells #[str f1, str f2] 51)
                rwa [World.size_alloc] at this)
              have hzA : W2.heap.size ≤ ((w3.alloc (.cells #[str f1, str f2] 51)).alloc (.cells #[str f1, str f2] 51)).heap.size := by simp; omega
              have hfl2 : fs.length ≤ 100000 := by omega
              clear hB3 hbu HFD hz hz3
              gi_wp2_with (gi_at_builtin; (refine wpListIn_appP rfl (.tmp 55) (.tmp 57) rfl W2.heap.size u11 fs rfl HOW.out (w3.heap.size + 1) f1 f2 rfl HNW.out hfl2 hzA ?_); intro v5 A1 hO5 hg5; have HP5 := Lib.hid (HP2.out.out hg5 hO5); clear hO5 hg5)
              go_roundw
              case rel => exact ⟨k + 1, fs ++ [(f1, f2)], by omega, by go_num, HSN.out, HP5.out⟩
              case measure => simp [intOf]; omega
          · have htk : rest.take k = rest := List.take_of_length_le (by omega)
            rw [htk] at hfs
            have hfl := fieldsL_len hfs
            obtain ⟨A3, c3, rfl⟩ := hP.own.form
            have hb5 := hP.low
            have HKF := Lib.hid ((hb5.block D (by omega)).trans HKD2.out)
            have HO := Lib.hid (hP.own.le (base' := w.heap.size) (by omega))
            have HGF := Lib.hid (HG2.out.trans (grown_of_below hb5 _))
            have HKB := Lib.hid (HK2.out.below hb5 HK2.out.lt)
            by_cases h24 : 24 < fs.length
            · have HQ2 := Lib.hid (HQ.out.trans (show _ = ([], 0, (3 : Int)) by rw [hfs]; exact if_pos h24))
              have h24' : (24 : Int) < (fs.length : Int) := by omega
              have HFIN : Hid (ParR st pf qf r w z l (.returned (.tuple #[.slice none 0 0, .int .i64 0, .int .i64 3])) wr) :=
                Lib.hid ⟨_, _, _, _, rfl, HQ2.out, World.ownsRow_nil _ _ _ 2, HGF.out, ⟨_, _, HKB.out⟩, fun h => absurd h (by decide)⟩
              clear hfs htk hP hb5 hfl h24
              gi_wp2
              show LeavesInM _ _ _ _ _ _ _ _ _
              refine ⟨by simp, .inl ⟨_, _, rfl, run_takeDeferred HKF.out, ?_⟩⟩
              exact ⟨_, results_tmp3 (t := 4) (u := 5) (v := 6) rfl _ _ _, HFIN.out.put hDw HKF.out rfl⟩
            · have HQ2 := Lib.hid (HQ.out.trans (show _ = (fs, (N : Int) + 2, (0 : Int)) by rw [hfs]; exact if_neg h24))
              have h24' : ¬ (24 : Int) < (fs.length : Int) := by omega
              have HFIN : Hid (ParR st pf qf r w z l (.returned (.tuple #[.slice A3 fs.length c3, .int .i64 ((N : Int) + 2), .int .i64 0])) wr) :=
                Lib.hid ⟨_, _, _, _, rfl, HQ2.out, HO.out, HGF.out, ⟨_, _, HKB.out⟩, fun _ => by rw [HL0.out]; exact HKB.out⟩
              clear hfs htk hP hb5 hfl h24
              gi_wp2
              show LeavesInM _ _ _ _ _ _ _ _ _
              refine ⟨by simp, .inl ⟨_, _, rfl, run_takeDeferred HKF.out, ?_⟩⟩
              exact ⟨_, results_tmp3 (t := 4) (u := 5) (v := 6) rfl _ _ _, HFIN.out.put hDw HKF.out rfl⟩
end Go.Proofs.YtajclihnoedecaaGreatDoor
