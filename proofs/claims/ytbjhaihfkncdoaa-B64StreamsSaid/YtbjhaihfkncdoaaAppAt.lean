/- append of bytes, with where the new slice lies. -/
import Derived.Test.YtbjhaihfkncdoaaFlip
import Derived.Test.YtbjhaihfkncdoaaSls
import Derived.Test.YtbjhaihfkncdoaaStream
import Derived.Test.YtbjhaihfkncdoaaLonger
namespace Go.Proofs.Ytbjhaihfkncdoaa
open Go.RowKit
theorem wpList_app_at {w : World} {ops : Array Oper} {rest : List Oper} {o : Oper} {a : Act} {Q : Exit → Act → World → Prop} (hgd : o.guard = none) (s x : Operand) (ho : o.op = .call { callee := .builtin .append, args := #[s, x], argTypes := #[22, 22] })
    (base : Nat) (v : Value) (l ms : List UInt8) (hs : a.eval s = v) (hown : OwnB w base v l) (B : Nat) (vx : Value) (hx : a.eval x = vx) (hsrc : Sl w B vx ms)
    (hlen : l.length + ms.length ≤ 1099511627776) (hbase : base ≤ w.heap.size)
    (h : ∀ v' w', OwnB w' base v' (l ++ ms) → w.grownBy w' v.ownBlock → (v'.ownBlock = v.ownBlock ∨ v'.ownBlock = some w.heap.size) → wpList Try.prog ops Q rest (a.put o.dst v') w') : wpList Try.prog ops Q (o :: rest) a w := by
  obtain ⟨A, c, rfl, h0, h1, h2, h3⟩ := hsrc
  obtain ⟨i0, hi, hz0, hz1, hz2⟩ := info_parts info_b
  cases A with
  | none =>
    obtain rfl := h0 rfl
    obtain rfl : ms = [] := List.eq_nil_of_length_eq_zero (by omega)
    exact wpList_append_own_none hgd s x 22 ho base 5 i0 1 Try.underlying22 hi v l.length (l.map vb) hs hown hx (h v w (by simpa using hown) (World.grownBy.refl w _) (.inl rfl))
  | some ad =>
    refine wpList_append_own_at w hgd s x 22 ho base 5 i0 (.int .u8 0) 1 1 Try.underlying22 hi hz0 hz1 hz2 rfl (by decide) v l.length (l.map vb) hs hown ad ms.length c (ms.map vb) hx (by simp) ?_ ?_ (by unfold maxLen; omega) (by omega) hbase ?_
    · intro j u hu
      rw [List.getElem?_map] at hu
      by_cases hj : j < ms.length
      · obtain ⟨b, o, e, _, hbs⟩ := h3 (by omega)
        injection e with e; subst e
        rw [Addr.add_mid]
        rw [List.getElem?_eq_getElem hj] at hu; cases hu; exact hbs j hj
      · rw [List.getElem?_eq_none (by omega)] at hu; cases hu
    · intro u hu; rw [List.mem_map] at hu; obtain ⟨b, _, rfl⟩ := hu; rfl
    · intro v' w' g1 g2 _ g3
      refine h v' w' ?_ g2 g3
      unfold OwnB
      rw [List.length_append, List.map_append]
      exact g1
/-- Nothing of a block below base is changed when an own slice of base is. -/
theorem below_of_own {w w' : World} {base : Nat} {v : Value} {l : List UInt8} (h : OwnB w base v l) (hg : w.grownBy w' v.ownBlock) : w.grownBy w' none ∨ Below base w w' := by
  by_cases hb : base ≤ w.heap.size
  · exact .inr (h.belowBase hg hb)
  · refine .inl ?_
    cases hv : v.ownBlock with
    | none => rw [hv] at hg; exact hg
    | some k => have := h.lt k hv; omega
/-- The letters of what came so far: the whole groups of A. -/
def whole3 (A : List UInt8) : List UInt8 := A.take (A.length / 3 * 3)
def rest3 (A : List UInt8) : List UInt8 := A.drop (A.length / 3 * 3)
theorem whole3_rest3 (A : List UInt8) : whole3 A ++ rest3 A = A := List.take_append_drop _ _
theorem whole3_len (A : List UInt8) : (whole3 A).length % 3 = 0 := by
  unfold whole3; rw [List.length_take, Nat.min_eq_left (by omega)]; omega
theorem told_more (A p : List UInt8) : encS (whole3 A) ++ encS ((rest3 A ++ p).take ((rest3 A ++ p).length / 3 * 3)) = encS (whole3 (A ++ p)) := by
  rw [← encS_append _ _ (whole3_len A)]
  congr 1
  obtain ⟨q, hq⟩ : ∃ q, q = A.length / 3 := ⟨_, rfl⟩
  have e1 : (whole3 A).length = q * 3 := by unfold whole3; rw [List.length_take]; omega
  have e2 : (rest3 A).length = A.length - q * 3 := by unfold rest3; rw [List.length_drop, hq]
  have e3 : whole3 (A ++ p) = (A ++ p).take ((A.length + p.length) / 3 * 3) := by unfold whole3; rw [List.length_append]
  have e4 : A ++ p = whole3 A ++ (rest3 A ++ p) := by rw [← List.append_assoc, whole3_rest3]
  rw [e3, e4]
  conv => rhs; rw [List.take_append, e1, List.take_of_length_le (by rw [e1]; omega)]
  congr 2
  rw [List.length_append, e2]
  omega
theorem rest_more (A p : List UInt8) : (rest3 A ++ p).drop ((rest3 A ++ p).length / 3 * 3) = rest3 (A ++ p) := by
  obtain ⟨q, hq⟩ : ∃ q, q = A.length / 3 := ⟨_, rfl⟩
  have e1 : (whole3 A).length = q * 3 := by unfold whole3; rw [List.length_take]; omega
  have e2 : (rest3 A).length = A.length - q * 3 := by unfold rest3; rw [List.length_drop, hq]
  have e3 : rest3 (A ++ p) = (A ++ p).drop ((A.length + p.length) / 3 * 3) := by unfold rest3; rw [List.length_append]
  have e4 : A ++ p = whole3 A ++ (rest3 A ++ p) := by rw [← List.append_assoc, whole3_rest3]
  rw [e3, e4]
  conv => rhs; rw [List.drop_append, e1, List.drop_of_length_le (by rw [e1]; omega), List.nil_append]
  congr 1
  rw [List.length_append, e2]
  omega
theorem told_all (A : List UInt8) : encS (whole3 A) ++ encS (rest3 A) = encS A := by
  rw [← encS_append _ _ (whole3_len A), whole3_rest3]
end Go.Proofs.Ytbjhaihfkncdoaa
