/- Slices of bytes that are read, nil or not; strings out of them. -/
import Derived.Test.YteadncmhcbdicaaDoorAppB
import Derived.Laws.IdiomStrings
import Derived.Laws.BytesString
import Derived.Laws.AppendOwnNone
namespace Go.Proofs.YteadncmhcbdicaaDoor
open Go.RowKit

/-- The slice v, nil or not, holds the bytes l, in a block below B. -/
def Sl (w : World) (B : Nat) (v : Value) (l : List UInt8) : Prop :=
  ∃ A c, v = .slice A l.length c ∧ (A = none → c = 0) ∧ l.length ≤ c ∧ c ≤ 9223372036854775807 ∧ (0 < l.length → ∃ b o, A = some ⟨b, o, none⟩ ∧ b < B ∧ Bs w b o l)
theorem Sl.below {w w' : World} {B B' : Nat} {v : Value} {l : List UInt8} (h : Sl w B v l) (hb : Below B' w w') (hB : B ≤ B') : Sl w' B v l := by
  obtain ⟨A, c, rfl, h0, h1, h2, h3⟩ := h
  refine ⟨A, c, rfl, h0, h1, h2, fun hl => ?_⟩
  obtain ⟨b, o, rfl, hlt, hbs⟩ := h3 hl
  exact ⟨b, o, rfl, hlt, hbs.below hb (by omega)⟩
theorem Sl.more {w : World} {B B' : Nat} {v : Value} {l : List UInt8} (h : Sl w B v l) (hB : B ≤ B') : Sl w B' v l := by
  obtain ⟨A, c, rfl, h0, h1, h2, h3⟩ := h
  refine ⟨A, c, rfl, h0, h1, h2, fun hl => ?_⟩
  obtain ⟨b, o, rfl, hlt, hbs⟩ := h3 hl
  exact ⟨b, o, rfl, by omega, hbs⟩
theorem OwnB.sl {w : World} {base : Nat} {v : Value} {l : List UInt8} (h : OwnB w base v l) : Sl w w.heap.size v l := by
  rcases h.parts with ⟨rfl, rfl⟩ | ⟨g, cap, rfl, _, hg, hc, hm, hbs, _⟩
  · exact ⟨none, 0, rfl, fun _ => rfl, by simp, by omega, fun h => by simp at h⟩
  · exact ⟨_, cap, rfl, (fun h => by cases h), hc, by unfold maxLen at hm; omega, fun _ => ⟨g, 0, rfl, hg, hbs⟩⟩
/-- The first k bytes. -/
theorem Sl.take {w : World} {B : Nat} {v : Value} {l : List UInt8} (h : Sl w B v l) (k : Nat) (hk : k ≤ l.length) : ∃ A c, v = .slice A l.length c ∧ k ≤ c ∧ l.length ≤ c ∧ c ≤ 9223372036854775807 ∧ Sl w B (.slice A k c) (l.take k) := by
  obtain ⟨A, c, rfl, h0, h1, h2, h3⟩ := h
  have e : (l.take k).length = k := by rw [List.length_take]; omega
  refine ⟨A, c, rfl, by omega, h1, h2, A, c, by rw [e], h0, by omega, h2, fun hl => ?_⟩
  obtain ⟨b, o, rfl, hlt, hbs⟩ := h3 (by omega)
  exact ⟨b, o, rfl, hlt, hbs.take k⟩

/-- The string of the bytes l. -/
abbrev str (l : List UInt8) : Value := .string ⟨l.toArray⟩
theorem conv_zero (w : World) (A : Option Addr) (c : Nat) : (convert 26 9 (.slice A 0 c)).run Tryd.prog w = .ok (str []) w := by
  rw [run_convert_bytes_string w 26 9 5 A 0 c Tryd.underlying26 Tryd.underlying5 Tryd.underlying9]
  cases A <;> simp [Conv.bytesToString, loadCells]
  all_goals rfl
theorem conv_sl {w : World} {B : Nat} {v : Value} {l : List UInt8} (h : Sl w B v l) : (convert 26 9 v).run Tryd.prog w = .ok (str l) w := by
  obtain ⟨A, c, rfl, _, h1, h2, h3⟩ := h
  by_cases h0 : l.length = 0
  · obtain rfl : l = [] := List.eq_nil_of_length_eq_zero h0
    exact conv_zero w A c
  · obtain ⟨b, o, rfl, hlt, hbs⟩ := h3 (by omega)
    exact run_convert_bytes_back (P := Tryd.prog) w 26 9 5 ⟨b, o, none⟩ c l Tryd.underlying26 Tryd.underlying5 Tryd.underlying9 (fun j hj => by
      rw [Addr.add_mid]; exact hbs j hj)
theorem wpList_app_sl {w : World} {ops : Array Oper} {rest : List Oper} {o : Oper} {a : Act} {Q : Exit → Act → World → Prop} (hgd : o.guard = none) (s x : Operand) (ho : o.op = .call { callee := .builtin .append, args := #[s, x], argTypes := #[26, 26] })
    (base : Nat) (v : Value) (l ms : List UInt8) (hs : a.eval s = v) (hown : OwnB w base v l) (B : Nat) (vx : Value) (hx : a.eval x = vx) (hsrc : Sl w B vx ms)
    (hlen : l.length + ms.length ≤ 1099511627776) (hbase : base ≤ w.heap.size)
    (h : ∀ v' w', OwnB w' base v' (l ++ ms) → w.grownBy w' v.ownBlock → wpList Tryd.prog ops Q rest (a.put o.dst v') w') : wpList Tryd.prog ops Q (o :: rest) a w := by
  obtain ⟨A, c, rfl, h0, h1, h2, h3⟩ := hsrc
  obtain ⟨i0, hi, hz0, hz1, hz2⟩ := info_parts info_b
  cases A with
  | none =>
    obtain rfl := h0 rfl
    obtain rfl : ms = [] := List.eq_nil_of_length_eq_zero (by omega)
    exact wpList_append_own_none hgd s x 26 ho base 5 i0 1 Tryd.underlying26 hi v l.length (l.map vb) hs hown hx (h v w (by simpa using hown) (World.grownBy.refl w _))
  | some ad =>
    refine wpList_append_own w hgd s x 26 ho base 5 i0 (.int .u8 0) 1 1 Tryd.underlying26 hi hz0 hz1 hz2 rfl (by decide) v l.length (l.map vb) hs hown ad ms.length c (ms.map vb) hx (by simp) ?_ ?_ (by unfold maxLen; omega) (by omega) hbase ?_
    · intro j u hu
      rw [List.getElem?_map] at hu
      by_cases hj : j < ms.length
      · obtain ⟨b, o, e, _, hbs⟩ := h3 (by omega)
        obtain rfl := Option.some.inj e
        rw [Addr.add_mid]
        rw [List.getElem?_eq_getElem hj] at hu; cases hu; exact hbs j hj
      · rw [List.getElem?_eq_none (by omega)] at hu; cases hu
    · intro u hu; rw [List.mem_map] at hu; obtain ⟨b, _, rfl⟩ := hu; rfl
    · intro v' w' g1 g2 _
      refine h v' w' ?_ g2
      unfold OwnB
      rw [List.length_append, List.map_append]
      exact g1
end Go.Proofs.YteadncmhcbdicaaDoor
