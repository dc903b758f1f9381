/- append of bytes, as one step of a region that draws its order. -/
import Derived.Test.YtoehkhbppmgfkaaGreatDoorAppB
import Derived.Deep.RegionLaw
namespace Go.Proofs.YtoehkhbppmgfkaaGreatDoor
open Go.RowKit
/-- append of bytes as one step of a region that draws. -/
theorem step_app {ops : Array Oper} {o : Oper} {a : Act} {w : World} {K : Act → World → Prop} {Q : Exit → Act → World → Prop} {E : Prop}
    (hgd : o.guard = none) (s x : Operand) (ho : o.op = .call { callee := .builtin .append, args := #[s, x], argTypes := #[49, 49] })
    (base : Nat) (v : Value) (l ms : List UInt8) (hs : a.eval s = v) (hown : OwnB w base v l) (sb so m c : Nat) (hx : a.eval x = .slice (some ⟨sb, so, none⟩) m c) (hm : ms.length = m) (hsrc : Bs w sb so ms)
    (hlen : l.length + m ≤ 1099511627776) (hbase : base ≤ w.heap.size)
    (h : ∀ v' w', OwnB w' base v' (l ++ ms) → w.grownBy w' v.ownBlock → K (a.put o.dst v') w') : if Region.wanted o (yielded ops a.tmps) = true then Oper.wp Tryz.prog o a w K Q else E := by
  rw [if_pos (show Region.wanted o (yielded ops a.tmps) = true by simp [Region.wanted, hgd])]
  obtain ⟨i0, hi, hz0, hz1, hz2⟩ := info_parts info_b
  refine wp_append_own w s x 49 ho base 5 i0 (.int .u8 0) 1 1 Tryz.underlying49 hi hz0 hz1 hz2 rfl (by decide) v l.length (l.map vb) hs hown ⟨sb, so, none⟩ m c (ms.map vb) hx (by simp [hm]) ?_ ?_ (by unfold maxLen; omega) (by omega) hbase ?_
  · intro j u hu
    rw [Addr.add_mid]
    rw [List.getElem?_map] at hu
    by_cases hj : j < ms.length
    · rw [List.getElem?_eq_getElem hj] at hu; cases hu; exact hsrc j hj
    · rw [List.getElem?_eq_none (by omega)] at hu; cases hu
  · intro u hu; rw [List.mem_map] at hu; obtain ⟨b, _, rfl⟩ := hu; rfl
  · intro v' w' h1 h2 _
    refine h v' w' ?_ h2
    unfold OwnB
    rw [List.length_append, hm, List.map_append]
    exact h1
end Go.Proofs.YtoehkhbppmgfkaaGreatDoor
