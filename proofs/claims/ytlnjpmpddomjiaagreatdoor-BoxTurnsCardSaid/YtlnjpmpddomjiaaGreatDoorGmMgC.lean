/- append of 32 noughts (the number alone is handed) to bytes of one's own. append of bytes, nil or not, as a step of a region that draws its order. -/
import Derived.Test.YtlnjpmpddomjiaaGreatDoorGmMgA
import Derived.Lib.AppendZerosOnto
import Derived.Test.YtlnjpmpddomjiaaGreatDoorGmReg
import Derived.Deep.RegionLaw
set_option maxRecDepth 100000
namespace Go.Proofs.YtlnjpmpddomjiaaGreatDoor
open Go.RowKit
def z32 : List Value := List.replicate 32 (vb 0)
theorem z32_map : z32 = (List.replicate 32 (0 : UInt8)).map vb := by unfold z32; rw [List.map_replicate]
theorem z32_cells : Builtin.zeroCells (Value.cells (.int .u8 0)) 32 = z32.toArray := by kernel_rfl
theorem app_zeros {w : World} {base : Nat} {v : Value} {l : List UInt8} (h : OwnB w base v l) (hl : l.length ≤ 1000) (hb : base ≤ w.heap.size) :
    ∃ A n c w', (∀ ty, (Builtin.append_ #[34, 3] ty #[v, .int .i64 32]).run Tryz.prog w = .ok (.slice A n c) w') ∧ OwnB w' base (.slice A n c) (l ++ List.replicate 32 0) ∧ w.grownBy w' v.ownBlock := by
  obtain ⟨i0, hi, hz0, hz1, hz2⟩ := info_parts info_b
  have hfin : ∀ (old : Nat), old < l.length + 32 → ∀ row : Option Nat,
      OwnB (w.drew.alloc (.cells ((l.map vb).toArray ++ z32.toArray ++ Builtin.zeroCells (Value.cells (.int .u8 0)) (grownCap w (l.length + 32) old 5 - (l.length + 32))) 5)) base (.slice (some ⟨w.heap.size, 0, none⟩) (l.length + 32) (grownCap w (l.length + 32) old 5)) (l ++ List.replicate 32 0) ∧
      w.grownBy (w.drew.alloc (.cells ((l.map vb).toArray ++ z32.toArray ++ Builtin.zeroCells (Value.cells (.int .u8 0)) (grownCap w (l.length + 32) old 5 - (l.length + 32))) 5)) row := by
    intro old ho row
    have hge := grownCap_ge w (l.length + 32) old 5
    have hcm : grownCap w (l.length + 32) old 5 ≤ maxLen := grownCap_le_maxLen w (l.length + 32) old _ (by unfold maxLen; omega)
    have hzl : z32.length = 32 := by unfold z32; exact List.length_replicate
    refine ⟨OwnB.of_heap (w := w.drew.alloc _) (cur := (l.map vb).toArray ++ z32.toArray ++ Builtin.zeroCells (Value.cells (.int .u8 0)) (grownCap w (l.length + 32) old 5 - (l.length + 32))) hb (heap_alloc_new w.drew _) ?_ hcm (by simp) ?_ hge, ⟨rfl, rfl, rfl, by simp, fun k hk _ => heap_alloc_old w.drew _ hk⟩⟩
    · rw [Array.size_append, Array.size_append, size_zeroCells, List.size_toArray, List.size_toArray, hzl, List.length_map, show (Value.cells (.int .u8 0)).size = 1 from rfl]
      omega
    · rw [Array.toList_append, Array.toList_append, List.toList_toArray, List.toList_toArray, List.map_append, ← z32_map, List.take_left' (by rw [List.length_append, List.length_map, hzl])]
  rcases h.2 with ⟨rfl, h0⟩ | ⟨g, cap, cur, rfl, hbg, hg, hnc, hcm, hcs, htake⟩
  · obtain rfl : l = [] := List.eq_nil_of_length_eq_zero h0
    have hr := fun ty => Lib.run_append_nil_zeros (P := Tryz.prog) w 34 3 ty 5 i0 _ .i64 .i64 Tryz.underlying34 Tryz.underlying3 hi hz0 32 (by omega) (by omega) (by omega) (by omega)
    obtain ⟨h1, h2⟩ := hfin 0 (by simp) (Value.ownBlock (.slice none 0 0))
    simp only [List.map_nil, List.length_nil, Nat.zero_add, Array.empty_append] at h1 h2
    rw [z32_cells] at hr
    exact ⟨_, _, _, _, hr, h1, h2⟩
  · by_cases hroom : l.length + 32 ≤ cap
    · have hst := run_storeCells_at Tryz.prog g l.length 5 z32 0 cur w hg (by simp only [Nat.mul_one] at hcs; rw [hcs]; simp [z32]; omega) (by intro u hu; rw [List.eq_of_mem_replicate hu]; rfl)
      simp only [Nat.add_zero] at hst
      have hr : ∀ ty, (Builtin.append_ #[34, 3] ty #[.slice (some ⟨g, 0, none⟩) l.length cap, .int .i64 32]).run Tryz.prog w = .ok (.slice (some ⟨g, 0, none⟩) (l.length + 32) cap) (w.setRow g (cur.toList.take l.length ++ z32 ++ cur.toList.drop (l.length + 32)).toArray) := by
        intro ty
        have hw : IntKind.i64.wrap (32 : Int) = 32 := by rw [IntKind.wrap_i64]; omega
        have h48i : ¬ (281474976710656 < (32 : Int) * (i0.bytes : Int)) := by rw [hz2]; omega
        have hzl : z32.length = 32 := by unfold z32; exact List.length_replicate
        rw [hzl] at hst
        simp [Builtin.append_, run_underlying Tryz.underlying34, run_underlying Tryz.underlying3, sizeOf, typeInfo, zeroValue, hi, hz0, hz1, hz2, asInt, asIntOf, hw, hroom, z32_cells, Addr.add_lit, hst]
      refine ⟨_, _, _, _, hr, OwnB.of_heap hbg (setRow_heap w g cur _ _ _ hg) ?_ hcm (by simp) ?_ hroom, ⟨rfl, rfl, rfl, by simp, fun k _ hk => setRow_other w g k _ (fun e => hk (by simp [Value.ownBlock, e]))⟩⟩
      · have hzl : z32.length = 32 := by unfold z32; exact List.length_replicate
        simp only [List.size_toArray, List.length_append, List.length_take, List.length_drop, Array.length_toList, hzl]
        omega
      · have hzl : z32.length = 32 := by unfold z32; exact List.length_replicate
        simp only [Nat.mul_one] at htake
        rw [List.map_append, ← z32_map, List.toList_toArray, htake, List.take_left' (by rw [List.length_append, List.length_map, hzl])]
    · have hold : (Builtin.firstCells i0.size l.length (.slice (some ⟨g, 0, none⟩) l.length cap)).run Tryz.prog w.drew = .ok (l.map vb).toArray w.drew := by
        rw [hz1]
        exact run_firstCells_some w.drew 1 l.length ⟨g, 0, none⟩ l.length cap (l.map vb) (by simp) (fun j u hj => World.ownsRow.cells h (g := g) rfl j u hj)
      have hr := fun ty => Lib.run_append_grow_zeros (P := Tryz.prog) w 34 3 ty 5 i0 _ .i64 .i64 Tryz.underlying34 Tryz.underlying3 hi hz0 (some ⟨g, 0, none⟩) l.length cap (l.map vb) hold 32 (by omega) (by omega) (by omega) (by omega) (by rw [hz2]; omega) (by rw [hz2]; exact growslice_fits (by omega) (by omega))
      obtain ⟨h1, h2⟩ := hfin cap (by omega) (Value.ownBlock (.slice (some ⟨g, 0, none⟩) l.length cap))
      rw [z32_cells] at hr
      exact ⟨_, _, _, _, hr, h1, h2⟩
end Go.Proofs.YtlnjpmpddomjiaaGreatDoor
namespace Go.Proofs.YtlnjpmpddomjiaaGreatDoor
open Go.RowKit
section
variable {w : World} {ops : Array Oper} {o : Oper} {a : Act} {K : Act → World → Prop} {Q : Exit → Act → World → Prop} {E : Prop} {i : Nat}
theorem step_app_sl (hgd : o.guard = none) (s x : Operand) (ho : o.op = .call { callee := .builtin .append, args := #[s, x], argTypes := #[34, 34] })
    (base : Nat) (v : Value) (l ms : List UInt8) (hs : a.eval s = v) (hown : OwnB w base v l) (B : Nat) (vx : Value) (hx : a.eval x = vx) (hsrc : Sl w B vx ms)
    (hlen : l.length + ms.length ≤ 1099511627776) (hbase : base ≤ w.heap.size)
    (h : ∀ v' w', OwnB w' base v' (l ++ ms) → w.grownBy w' v.ownBlock → (v'.ownBlock = v.ownBlock ∨ v'.ownBlock = some w.heap.size) → K (a.put o.dst v') w') : if Region.wanted o (yielded ops a.tmps) = true then Oper.wp Tryz.prog o a w K Q else E := by
  rw [if_pos (show Region.wanted o (yielded ops a.tmps) = true by simp [Region.wanted, hgd])]
  obtain ⟨A, c, rfl, h0, h1, h2, h3⟩ := hsrc
  obtain ⟨i0, hi, hz0, hz1, hz2⟩ := info_parts info_b
  cases A with
  | none =>
    obtain rfl := h0 rfl
    obtain rfl : ms = [] := List.eq_nil_of_length_eq_zero (by omega)
    have hrun := run_append_owned_none (P := Tryz.prog) (w := w) base 34 o.type 5 i0 1 Tryz.underlying34 hi v l.length (l.map vb) hown
    unfold Oper.wp
    simp [execOp, ho, resolve, invoke, builtin, hs, hx, hrun, Result.andThen]
    exact h v w (by simpa using hown) (World.grownBy.refl w _) (.inl rfl)
  | some ad =>
    have hcells : ∀ j u, (ms.map vb)[j]? = some u → w.cell? (ad.add j) = some u := by
      intro j u hu
      rw [List.getElem?_map] at hu
      by_cases hj : j < ms.length
      · obtain ⟨b, so, e, _, hbs⟩ := h3 (by omega)
        obtain rfl := Option.some.inj e
        rw [Addr.add_mid]
        rw [List.getElem?_eq_getElem hj] at hu; cases hu; exact hbs j hj
      · rw [List.getElem?_eq_none (by omega)] at hu; cases hu
    obtain ⟨v', w', hr, g1, g2, _, g3⟩ := run_append_own_at (P := Tryz.prog) w base 34 o.type 5 i0 (.int .u8 0) 1 1 Tryz.underlying34 hi hz0 hz1 hz2 rfl (by decide) v l.length (l.map vb) hown ad ms.length c (ms.map vb) (by simp) hcells (oneCell_bytes ms) (by unfold maxLen; omega) (by omega) hbase
    unfold Oper.wp execOp
    simp only [ho, resolve, invoke, builtin, Sem.run_bind, Sem.run_pure, Result.andThen_ok, List.map_toArray, List.map_cons, List.map_nil, hs, hx, hr]
    refine h v' w' ?_ g2 g3
    unfold OwnB
    rw [List.length_append, List.map_append]
    exact g1
theorem wpOp_appSl (d : Tmp) (hi : ops[i]? = some o) (hd : o.dst = some d) (hgd : o.guard = none) (s x : Operand) (ho : o.op = .call { callee := .builtin .append, args := #[s, x], argTypes := #[34, 34] })
    (base : Nat) (v : Value) (l ms : List UInt8) (hs : a.eval s = v) (hown : OwnB w base v l) (B : Nat) (vx : Value) (hx : a.eval x = vx) (hsrc : Sl w B vx ms)
    (hlen : l.length + ms.length ≤ 1099511627776) (hbase : base ≤ w.heap.size)
    (h : ∀ v' w', OwnB w' base v' (l ++ ms) → w.grownBy w' v.ownBlock → K (a.put (some d) v') w') : wpOp Tryz.prog ops Q i K a w := by
  rw [← hd] at h
  have hw : Region.wanted o (yielded ops a.tmps) = true := by simp [Region.wanted, hgd]
  have := step_app_sl (w := w) (ops := ops) (o := o) (a := a) (K := K) (Q := Q) (E := True) hgd s x ho base v l ms hs hown B vx hx hsrc hlen hbase (fun v' w' h1 h2 _ => h v' w' h1 h2)
  rw [if_pos hw] at this
  exact wpOp_of_wp hi hw this
end
end Go.Proofs.YtlnjpmpddomjiaaGreatDoor
