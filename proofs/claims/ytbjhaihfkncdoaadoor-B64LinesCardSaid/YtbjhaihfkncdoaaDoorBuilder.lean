/- b64.Wrap: a Builder over the pieces. -/
import Derived.Test.YtbjhaihfkncdoaaDoorSeqIn
import Derived.Test.YtbjhaihfkncdoaaDoorShelf
namespace Go.Proofs.YtbjhaihfkncdoaaDoor
open Go.RowKit Go.Shelf
attribute [local go_sem] Oper.semAt_some
abbrev tB : TypeId := 59
/-- The Builder at block b holds the bytes l. -/
def Bld (b : Nat) (l : List UInt8) (w : World) : Prop := Lib.IsBuilderF tB 5 b b (Lib.byteCells l) w
theorem bld_len (b : Nat) (l : List UInt8) (w : World) (h : Bld b l w) : Calls Tryd.prog 44 #[.pointer (some ⟨b, 0, none⟩)] w fun e w' => e = .returned (.int .i64 (l.length : Int)) ∧ w' = w := by
  have := Any.Builder_Len_f { Tryd.lays105 with } b b (Lib.byteCells l) w h
  rw [Lib.byteCells_length] at this
  exact this
theorem bld_lt {b : Nat} {l : List UInt8} {w : World} (h : Bld b l w) : b < w.heap.size := by
  rcases h with h | h <;> exact h.lt
theorem bld_cells {b : Nat} {l : List UInt8} {w : World} (h : Bld b l w) : ∃ cs, w.heap[b]? = some (.cells cs tB (0, 0)) := by
  rcases h with ⟨_, v, h, _⟩ | ⟨_, v, h, _⟩ <;> exact ⟨_, h⟩
theorem kept_others {b : Nat} {l : List UInt8} {w w' : World} (h : Bld b l w) (hs : w.heap.size ≤ w'.heap.size) (hk : Lib.OthersKept 5 (some b) w w') : KeepsOthers w w' := by
  refine ⟨hs, fun k o hko ho => hk k o hko (fun e => ?_) (fun c fz e => ?_)⟩
  · injection e with e
    subst e
    obtain ⟨cs, hc⟩ := bld_cells h
    rw [hc] at hko; cases hko; cases ho
  · rw [e] at ho; cases ho
theorem kept_box {b B : Nat} {w w' : World} {v : Value} (hb : B ≠ b) (hk : Lib.OthersKept 5 (some b) w w') (h : Boxed w B 3 v) : Boxed w' B 3 v :=
  hk B _ h (fun e => by injection e with e; exact hb e) (fun c fz e => by simp at e)
theorem bld_write (b : Nat) (l s : List UInt8) (w : World) (h : Bld b l w) (hlen : l.length + s.length ≤ 140737488355328) :
    Calls Tryd.prog 45 #[.pointer (some ⟨b, 0, none⟩), str s] w fun e w' => e = .returned (.tuple #[.int .i64 (s.length : Int), .nilIface]) ∧ Bld b (l ++ s) w' ∧ Below b w w' ∧ Lib.OthersKept 5 (some b) w w' := by
  refine (Any.Builder_WriteString_k { Tryd.lays105 with } { Tryd.Builder_Extra_105 with } b b (Lib.byteCells l) ⟨s.toArray⟩ w h (by rw [Lib.byteCells_length]; exact hlen) (Nat.le_of_lt (bld_lt h))).mono ?_
  rintro e w' ⟨rfl, h1, h2, h3⟩
  refine ⟨rfl, .inr ?_, h2, h3⟩
  rw [show Lib.strCells ⟨s.toArray⟩ = Lib.byteCells s from rfl] at h1
  unfold Lib.byteCells at h1 ⊢
  rw [List.map_append]
  exact h1
theorem bld_string (b : Nat) (l : List UInt8) (w : World) (h : Bld b l w) : Calls Tryd.prog 46 #[.pointer (some ⟨b, 0, none⟩)] w fun e w' => e = .returned (str l) ∧ Below b w w' ∧ Lib.OthersKept 5 (some b) w w' :=
  (Any.Builder_String_any_k { Tryd.lays105 with } { Tryd.Builder_Extra_105 with } b b l w h (Nat.le_of_lt (bld_lt h))).mono fun _ _ ⟨h1, _, h2, h3⟩ => ⟨h1, h2, h3⟩
theorem bld_new (w : World) : Bld w.heap.size [] (w.alloc (.cells #[.pointer none, .slice none 0 0] tB)) := Lib.IsBuilderF.of (Lib.fresh_isBuilder _ _ w)
theorem bld_below {b : Nat} {l : List UInt8} {w w' : World} (h : Bld b l w) (hb : Below w.heap.size w w') : Bld b l w' := by
  have hl := bld_lt h
  have go : ∀ p, Lib.BuilderAtF tB 5 b b p (Lib.byteCells l) w → Lib.BuilderAtF tB 5 b b p (Lib.byteCells l) w' := by
    rintro p ⟨h1, v, h2, h3, h4⟩
    exact ⟨h1, v, (hb.block b hl).trans h2, h3.kept (grown_of_below hb none) (by cases hv : v.ownBlock <;> simp), h4⟩
  rcases h with h | h
  · exact .inl (go _ h)
  · exact .inr (go _ h)
theorem bld_own {β : Type} (b : Nat) (f : β → List UInt8) : Own (fun s W => Bld b (f s) W) := by
  intro s W W' row h hg hr
  have go : ∀ p, Lib.BuilderAtF tB 5 b b p (Lib.byteCells (f s)) W → Lib.BuilderAtF tB 5 b b p (Lib.byteCells (f s)) W' := by
    rintro p ⟨h1, v, h2, h3, h4⟩
    refine ⟨h1, v, ?_, h3.kept hg ?_, h4⟩
    · refine (hg.block b (Array.getElem?_eq_some_iff.1 h2).1 (fun e => ?_)).trans h2
      obtain ⟨o, ho, hc⟩ := hr b e.symm
      rw [h2] at ho; cases ho; cases hc
    · rcases h3.2 with ⟨rfl, _⟩ | ⟨g, cap, cur, fz, rfl, _, hgb, _⟩
      · exact .inl rfl
      · refine .inr fun e' => ?_
        obtain ⟨o, ho, hc⟩ := hr g (by simpa [Value.ownBlock] using e'.symm)
        rw [hgb] at ho; cases ho; cases hc
  rcases h with h | h
  · exact .inl (go _ h)
  · exact .inr (go _ h)
theorem foldl_wrap_len (ps : List (List UInt8)) : ∀ o : List UInt8, (∀ p ∈ ps, p.length ≤ 1000) → (ps.foldl (fun o p => if o.length = 0 then o ++ p else o ++ [10] ++ p) o).length ≤ o.length + ps.length * 1001 := by
  induction ps with
  | nil => intro o _; simp
  | cons p ps ih =>
    intro o h
    have h1 := h p List.mem_cons_self
    have h2 := ih (if o.length = 0 then o ++ p else o ++ [10] ++ p) (fun q hq => h q (List.mem_cons_of_mem _ hq))
    rw [List.foldl_cons, List.length_cons, Nat.succ_mul]
    refine Nat.le_trans h2 ?_
    split <;> simp only [List.length_append, List.length_singleton] <;> omega
theorem wrapT_len (ps : List T1000) : (wrapT (ps.map (·.1))).length ≤ ps.length * 1001 := by
  have := foldl_wrap_len (ps.map (·.1)) [] (fun p hp => by obtain ⟨x, _, rfl⟩ := List.mem_map.1 hp; exact x.2)
  unfold wrapT
  simpa using this
end Go.Proofs.YtbjhaihfkncdoaaDoor
