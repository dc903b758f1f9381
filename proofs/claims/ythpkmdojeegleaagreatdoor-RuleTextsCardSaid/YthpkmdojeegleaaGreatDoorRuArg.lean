/- An argument that is a rule. -/
import Derived.Test.YthpkmdojeegleaaGreatDoorRuFe
import Derived.Test.YthpkmdojeegleaaGreatDoorArgs
import Derived.ChangeArms
set_option maxRecDepth 100000
namespace Go.Proofs.YthpkmdojeegleaaGreatDoor
open Go.ChangeShapes Go.WideShapes Go.ChangeAt Go.RowKit Go.Shelf
/-- A rule that came in. -/
def RuArg (v : Value) (r : RuL) : Prop := v = ragg r ∧ GoodR r
section
variable {H : Type} {enc : TypeId × Value → H}
theorem cells_ru : Tryz.prog.cellsOf 33 = 6 := by kernel_rfl
theorem str_of_trodR {W : World} {base fuel : Nat} {v : Value} {x : DataW H × List MemPlace} (hf : DataW.trod enc Tryz.prog W base (fun _ => true) true fuel 9 [v] = some x) : ∃ s : List UInt8, v = str s ∧ s.length ≤ 9223372036854775807 := by
  obtain ⟨s1, hv, _, hs1⟩ := DataW.trod_string Tryz.underlying9 hf
  simp only [List.cons.injEq, and_true] at hv
  subst hv
  exact ⟨s1.data.toList, by simp, by unfold maxLen at hs1; simpa using hs1⟩
theorem six_of {α : Type} {l : List α} (h : l.length = 6) : ∃ a b c d e f, l = [a, b, c, d, e, f] := by
  match l, h with
  | [a, b, c, d, e, f], _ => exact ⟨a, b, c, d, e, f, rfl⟩
theorem open_ru {W : World} {base : Nat} {v : Value} {d : DataW H} {ps : List MemPlace} (hval : Value.okWide Tryz.prog W .any base 33 v) (h : DataW.Trod enc Tryz.prog W 0 (fun _ => true) true 33 v d ps) :
    ∃ r, RuArg v r := by
  obtain ⟨cs, rfl, hsz⟩ := okWide_struct Tryz.underlying33 hval
  obtain ⟨fuel, hf⟩ := h
  rw [show Value.cells (.agg cs) = cs by simp [Value.cells]] at hf
  obtain ⟨xs, n, _, _, _, hlen, hat⟩ := DataW.trod_struct Tryz.underlying33 hf
  rw [cells_ru] at hsz
  obtain ⟨c0, c1, c2, c3, c4, c5, hc⟩ := six_of (l := cs.toList) (by simpa using hsz)
  obtain ⟨y0, y1, y2, y3, y4, y5, rfl⟩ := six_of (l := xs) hlen
  have hcs : cs = #[c0, c1, c2, c3, c4, c5] := by rw [← Array.toArray_toList (xs := cs), hc]
  rw [hc] at hat
  have h0 := hat 0 _ rfl
  have h1 := hat 1 _ rfl
  have h2 := hat 2 _ rfl
  have h3 := hat 3 _ rfl
  have h4 := hat 4 _ rfl
  have h5 := hat 5 _ rfl
  obtain ⟨al, e0, _⟩ := DataW.trod_bool Tryz.underlying4 h0
  obtain ⟨a, ea, ha⟩ := str_of_trodR (v := c1) h1
  obtain ⟨b, eb, hb⟩ := str_of_trodR (v := c2) h2
  obtain ⟨c, ec, hcc⟩ := str_of_trodR (v := c3) h3
  obtain ⟨x, e4, _, _⟩ := DataW.trod_int Tryz.underlying3 h4
  obtain ⟨y, e5, _, _⟩ := DataW.trod_int Tryz.underlying3 h5
  have e02 : c0 = .bool al := by
    have : [c0] = [Value.bool al] := e0
    simpa using this
  have e42 : c4 = .int .i64 x := by
    have : [c4] = [Value.int .i64 x] := e4
    simpa using this
  have e52 : c5 = .int .i64 y := by
    have : [c5] = [Value.int .i64 y] := e5
    simpa using this
  subst e02; subst ea; subst eb; subst ec; subst e42; subst e52; subst hcs
  exact ⟨⟨al, a, b, c, x, y⟩, rfl, ha, hb, hcc⟩
end
end Go.Proofs.YthpkmdojeegleaaGreatDoor
