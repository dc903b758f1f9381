/- frame.Reader: its memory, NewReader, Broken, Waiting, Feed. -/
import Derived.Test.YtgldfobfchnkeaaFrDel
namespace Go.Proofs.Ytgldfobfchnkeaa
open Go.RowKit

/-- From w to w' nothing that was there has turned but block g and the block of the slice V. -/
structure Chg (w w' : World) (g : Nat) (V : Value) : Prop where
  os : w'.os = w.os
  tape : w'.tape = w.tape
  output : w'.output = w.output
  size : w.heap.size ≤ w'.heap.size
  block : ∀ k, k < w.heap.size → k ≠ g → V.ownBlock ≠ some k → w'.heap[k]? = w.heap[k]?
/-- The slice V' lies where V does, or in a new block, or nowhere. -/
def Newer (w : World) (V V' : Value) : Prop := ∀ k, V'.ownBlock = some k → V.ownBlock = some k ∨ w.heap.size ≤ k
section
variable {w w1 w' : World} {g base : Nat} {V V1 : Value}
theorem Chg.refl (w : World) (g : Nat) (V : Value) : Chg w w g V := ⟨rfl, rfl, rfl, Nat.le_refl _, fun _ _ _ _ => rfl⟩
theorem Newer.refl (w : World) (V : Value) : Newer w V V := fun _ h => .inl h
theorem Newer.none (w : World) (V : Value) (n c : Nat) : Newer w V (.slice none n c) := fun _ h => by cases h
theorem Chg.trans {V1 : Value} (h : Chg w w1 g V) (hn : Newer w V V1) (h2 : Chg w1 w' g V1) : Chg w w' g V :=
  ⟨h2.os.trans h.os, h2.tape.trans h.tape, h2.output.trans h.output, Nat.le_trans h.size h2.size, fun k hk hg hv =>
    (h2.block k (Nat.lt_of_lt_of_le hk h.size) hg (fun e => by rcases hn k e with h' | h'; exact hv h'; omega)).trans (h.block k hk hg hv)⟩
theorem Newer.trans {V2 : Value} (h : Newer w V V1) (hs : w.heap.size ≤ w1.heap.size) (h2 : Newer w1 V1 V2) : Newer w V V2 := fun k e => by
  rcases h2 k e with h' | h'
  · exact h k h'
  · exact .inr (by omega)
theorem Chg.of_grown {row : Option Nat} (h : w.grownBy w' row) (hr : row = none ∨ row = some g ∨ row = V.ownBlock) : Chg w w' g V :=
  ⟨h.os, h.tape, h.output, h.size, fun k hk hg hv => h.block k hk (by
    rcases hr with rfl | rfl | rfl
    · simp
    · simpa using hg
    · exact fun e => hv e.symm)⟩
theorem Chg.of_below (h : Below w.heap.size w w') (g : Nat) (V : Value) : Chg w w' g V := ⟨h.os, h.tape, h.output, h.size, fun k hk _ _ => h.block k hk⟩
theorem Chg.set (h : Chg w w' g V) (o : Nat) (x : Value) : Chg w (w'.setCell ⟨g, o, none⟩ x) g V :=
  ⟨h.os, h.tape, h.output, by simpa using h.size, fun k hk hg hv => (Below.heap_setCell w' ⟨g, o, none⟩ x k hg).trans (h.block k hk hg hv)⟩
theorem Chg.setNew (h : Chg w w' g V) (p : Addr) (hp : w.heap.size ≤ p.block) (x : Value) : Chg w (w'.setCell p x) g V :=
  ⟨h.os, h.tape, h.output, by simpa using h.size, fun k hk hg hv => (Below.heap_setCell w' p x k (by omega)).trans (h.block k hk hg hv)⟩
theorem Chg.alloc (h : Chg w w' g V) (o : Obj) : Chg w (w'.alloc o) g V :=
  ⟨h.os, h.tape, h.output, Nat.le_trans h.size (by simp), fun k hk hg hv => (Below.heap_alloc w' o k (Nat.lt_of_lt_of_le hk h.size)).trans (h.block k hk hg hv)⟩
theorem Chg.below (h : Chg w w' g V) (hg : base ≤ g) (hV : ∀ k, V.ownBlock = some k → base ≤ k) (hb : base ≤ w.heap.size) : Below base w w' :=
  ⟨h.os, h.tape, h.output, h.size, fun k hk => h.block k (by omega) (by omega) (fun e => by have := hV k e; omega)⟩
theorem Chg.blk {k : Nat} {cs : List Value} (h : Chg w w' g V) (hb : Blk w k cs) (hg : k ≠ g) (hV : V.ownBlock ≠ some k) : Blk w' k cs := by
  have hl := hb.lt
  obtain ⟨t, hb⟩ := hb
  exact ⟨t, (h.block k hl hg hV).trans hb⟩
theorem OwnB.same {u : Value} {l : List UInt8} (h : OwnB w base u l) (hs : ∀ k, k < w.heap.size → u.ownBlock = some k → w'.heap[k]? = w.heap[k]?) : OwnB w' base u l := by
  obtain ⟨h1, h2 | ⟨g', cap, cur, rfl, hb, hg, h3⟩⟩ := h
  · exact ⟨h1, .inl h2⟩
  · exact ⟨h1, .inr ⟨g', cap, cur, rfl, hb, (hs g' (Array.getElem?_eq_some_iff.1 hg).1 rfl).trans hg, h3⟩⟩
theorem OwnB.chg {u : Value} {l : List UInt8} (h : OwnB w base u l) (hc : Chg w w' g V) (hg : u.ownBlock ≠ some g) (hV : V.ownBlock = none ∨ V.ownBlock ≠ u.ownBlock) : OwnB w' base u l :=
  h.same fun k hk hu => hc.block k hk (fun e => hg (by rw [hu, e])) (fun e => by rcases hV with h' | h'; rw [h'] at e; cases e; exact h' (by rw [e, hu]))
end
/-- The Reader at block g, of the call's own from base on, holds the bytes l in the slice V, and broke by bad. -/
structure Rd (w : World) (base g : Nat) (V : Value) (l : List UInt8) (bad : Nat) : Prop where
  blk : Blk w g [V, .int .i64 (bad : Int)]
  own : OwnB w base V l
  ne : V.ownBlock ≠ some g
  le : base ≤ g
  fit : l.length ≤ 8192
section
variable {w w' : World} {base g bad : Nat} {V : Value} {l : List UInt8}
theorem Rd.size (h : Rd w base g V l bad) : base < w.heap.size := by have := h.blk.lt; have := h.le; omega
theorem Rd.lower (h : Rd w base g V l bad) {b : Nat} (hb : b ≤ base) : Rd w b g V l bad := ⟨h.blk, h.own.lower hb, h.ne, by have := h.le; omega, h.fit⟩
theorem Rd.grown (h : Rd w base g V l bad) {row : Option Nat} (hg : w.grownBy w' row) (h1 : some g ≠ row) (h2 : V.ownBlock = none ∨ V.ownBlock ≠ row) : Rd w' base g V l bad :=
  ⟨h.blk.grown hg h1, h.own.kept hg h2, h.ne, h.le, h.fit⟩
theorem Rd.below (h : Rd w base g V l bad) (hb : Below w.heap.size w w') : Rd w' base g V l bad :=
  ⟨h.blk.below hb h.blk.lt, h.own.below hb, h.ne, h.le, h.fit⟩
theorem Rd.chgBelow (h : Rd w base g V l bad) (hc : Chg w w' g V) : Below base w w' :=
  hc.below h.le (fun k e => (h.own.lt k e).1) (by have := h.size; omega)
end
set_option maxHeartbeats 400000 in
theorem newReader (w : World) : Calls Try.prog 17 #[] w fun e w' => ∃ V, e = .returned (.pointer (some ⟨w.heap.size, 0, none⟩)) ∧ Rd w' w.heap.size w.heap.size V [] 0 ∧ Below w.heap.size w w' := by
  go_enter Try.func17, Try.ntmps17
  go_wp2_with fail
  go_ret
  exact ⟨.slice none 0 0, rfl, ⟨Blk.new w [.slice none 0 0, .int .i64 0] _, OwnB.nil _ _, by simp [Value.ownBlock], Nat.le_refl _, by simp⟩, (Below.refl _ _).alloc (Nat.le_refl _) _⟩
set_option maxHeartbeats 400000 in
theorem broken_any {w : World} {base g bad : Nat} {V : Value} {l : List UInt8} (h : Rd w base g V l bad) : Calls Try.prog 24 #[.pointer (some ⟨g, 0, none⟩)] w fun e w' => e = .returned (.int .i64 (bad : Int)) ∧ w = w' := by
  have c1 := h.blk.at (o := 1) rfl
  clear h
  go_enter Try.func24, Try.ntmps24
  go_wp2_with fail
  go_ret
  exact ⟨rfl, rfl⟩
set_option maxHeartbeats 400000 in
theorem broken_nil (w : World) : Calls Try.prog 24 #[.pointer none] w fun e w' => e = .returned (.int .i64 6) ∧ w = w' := by
  go_enter Try.func24, Try.ntmps24
  go_wp2_with fail
  go_ret
  exact ⟨rfl, rfl⟩
set_option maxHeartbeats 400000 in
theorem waiting_any {w : World} {base g bad : Nat} {V : Value} {l : List UInt8} (h : Rd w base g V l bad) : Calls Try.prog 25 #[.pointer (some ⟨g, 0, none⟩)] w fun e w' => e = .returned (.int .i64 (l.length : Int)) ∧ w = w' := by
  have c0 := h.blk.at (o := 0) rfl
  obtain ⟨A, c, rfl, _, _, _, _⟩ := h.own.sl
  clear h
  go_enter Try.func25, Try.ntmps25
  go_wp2_with fail
  go_ret
  exact ⟨rfl, rfl⟩
set_option maxHeartbeats 400000 in
theorem waiting_nil (w : World) : Calls Try.prog 25 #[.pointer none] w fun e w' => e = .returned (.int .i64 0) ∧ w = w' := by
  go_enter Try.func25, Try.ntmps25
  go_wp2_with fail
  go_ret
  exact ⟨rfl, rfl⟩
set_option maxHeartbeats 400000 in
theorem feed_nil (v : Value) (w : World) : Calls Try.prog 21 #[.pointer none, v] w fun e w' => e = .returned (.int .i64 0) ∧ w = w' := by
  go_enter Try.func21, Try.ntmps21
  go_wp2_with fail
  go_ret
  exact ⟨rfl, rfl⟩
set_option maxHeartbeats 400000 in
theorem feed_bad {w : World} {base g bad : Nat} {V : Value} {l : List UInt8} (h : Rd w base g V l bad) (hb : bad ≠ 0) (v : Value) : Calls Try.prog 21 #[.pointer (some ⟨g, 0, none⟩), v] w fun e w' => e = .returned (.int .i64 0) ∧ w = w' := by
  have c1 := h.blk.at (o := 1) rfl
  clear h
  have hb' : ((bad : Int) == 0) = false := by simp; omega
  have hb2 : ((bad : Int) != 0) = true := by simp; omega
  go_enter Try.func21, Try.ntmps21
  go_wp2_with fail
  go_ret
  exact ⟨rfl, rfl⟩
set_option maxRecDepth 100000 in
set_option maxHeartbeats 1000000 in
theorem feed_core {w : World} {base g : Nat} {V : Value} {l : List UInt8} (h : Rd w base g V l 0) (B : Nat) (v : Value) (p : List UInt8) (hv : Sl w B v p) (n : Nat) (N : Int) (hN : N = (n : Int)) (hnp : n ≤ p.length) (hfn : l.length + n ≤ 8192)
    (hc : ((p.length : Int) ≤ 8192 - (l.length : Int) ∧ N = (p.length : Int)) ∨ (¬ (p.length : Int) ≤ 8192 - (l.length : Int) ∧ N = 8192 - (l.length : Int))) :
    Calls Try.prog 21 #[.pointer (some ⟨g, 0, none⟩), v] w fun e w' => e = .returned (.int .i64 N) ∧ ∃ V', Rd w' base g V' (l ++ p.take n) 0 ∧ Chg w w' g V ∧ Newer w V V' := by
  have HV := Lib.hid hv
  have HR := Lib.hid h
  obtain ⟨A, c, rfl, _, k1, k2, _⟩ := hv
  obtain ⟨VA, VC, rfl, _, _, _, _⟩ := h.own.sl
  have c0 := h.blk.at (o := 0) rfl
  have c1 := h.blk.at (o := 1) rfl
  have f0 := h.blk.free 0
  have hfit := h.fit
  have hbase := h.size
  have hne := Lib.hid h.ne
  clear h
  have hrun0 := slice_h A p.length c n (by omega)
  have hrun : ∀ w, (Instr.slice 22 (.slice A p.length c) none (some (.int .i64 N)) none).run Try.prog w = .ok (.slice A n c) w := by rw [hN]; exact hrun0
  clear hrun0
  have HS : Hid (Sl w B (.slice A n c) (p.take n)) := Lib.hid (by
    obtain ⟨A2, c2, e2, _, _, _, hsl⟩ := HV.out.take n hnp
    injection e2 with e3 _ e4
    subst e3; subst e4
    exact hsl)
  have Hq : Hid ((p.take n).length = n) := Lib.hid (by rw [List.length_take]; omega)
  have Hlq : Hid ((l ++ p.take n).length = l.length + n) := Lib.hid (by rw [List.length_append, List.length_take]; omega)
  have HN := Lib.hid hN; clear hN
  rcases hc with ⟨hc, rfl⟩ | ⟨hc, rfl⟩
  all_goals
    go_enter Try.func21, Try.ntmps21
    go_wp2_with fail
    go_region_law ((refine step_app_sl rfl (.tmp 28) (.tmp 31) rfl base (.slice VA l.length VC) l (p.take n) (by go_simp) (by exact HR.out.own.drew) B (.slice A n c) (by go_simp) (by exact HS.out) (by rw [Hq.out]; omega) (by exact Nat.le_of_lt hbase) ?_; intro V' w2 hO hg ho; obtain ⟨VA', VC', rfl, _, _, _, _⟩ := hO.sl; rw [Hlq.out] at hO ho; have hb2 := HR.out.blk.drew.grown hg (fun e => hne.out e.symm); have hc2 := hb2.at (o := 0) rfl; have hf2 := hb2.free 0; have HO := Lib.hid hO; clear hO; have Hg := Lib.hid hg; clear hg; have Ho := Lib.hid ho; clear ho; have HB2 := Lib.hid hb2; clear hb2))
    go_wp2_with fail
    go_ret
    have hV' : (Value.slice VA' (l.length + n) VC').ownBlock ≠ some g := by
      rcases Ho.out with e | e
      · rw [e]; exact hne.out
      · rw [e]
        intro e'
        have e'' := Option.some.inj e'
        have := HR.out.blk.lt
        simp at e''
        omega
    refine ⟨rfl, _, ⟨HB2.out.set 0 _, ?_, hV', HR.out.le, by rw [List.length_append, Hq.out]; exact hfn⟩, ?_, ?_⟩
    · refine HO.out.kept (grown_set w2 ⟨g, 0, none⟩ _) ?_
      exact .inr hV'
    · exact (Chg.of_grown ((grown_drewN (World.grownBy.refl w (Value.slice VA l.length VC).ownBlock) 1).trans Hg.out) (.inr (.inr rfl))).set 0 _
    · intro k e
      rcases Ho.out with e' | e'
      · exact .inl (by rw [← e', e])
      · right
        rw [e'] at e
        have := Option.some.inj e
        simp at this
        omega
theorem feed_any {w : World} {base g : Nat} {V : Value} {l : List UInt8} (h : Rd w base g V l 0) (B : Nat) (v : Value) (p : List UInt8) (hv : Sl w B v p) (n : Nat) (hn : n = if p.length ≤ 8192 - l.length then p.length else 8192 - l.length) :
    Calls Try.prog 21 #[.pointer (some ⟨g, 0, none⟩), v] w fun e w' => e = .returned (.int .i64 (n : Int)) ∧ ∃ V', Rd w' base g V' (l ++ p.take n) 0 ∧ Chg w w' g V ∧ Newer w V V' := by
  have hf := h.fit
  by_cases hc : p.length ≤ 8192 - l.length
  · rw [if_pos hc] at hn
    exact feed_core h B v p hv n n rfl (by omega) (by omega) (.inl ⟨by omega, by omega⟩)
  · rw [if_neg hc] at hn
    exact feed_core h B v p hv n n rfl (by omega) (by omega) (.inr ⟨by omega, by omega⟩)
end Go.Proofs.Ytgldfobfchnkeaa
