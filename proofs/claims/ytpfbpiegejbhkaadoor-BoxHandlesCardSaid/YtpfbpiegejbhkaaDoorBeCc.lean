/- slices.Grow and slices.Concat at ints. -/
import Derived.Test.YtpfbpiegejbhkaaDoorBeNu
namespace Go.Proofs.YtpfbpiegejbhkaaDoor
open Go.RowKit
/-- The ints, nil or not, lie below block B. -/
def JS (w : World) (B : Nat) (v : Value) (ls : List Nat) : Prop :=
  ∃ A c, v = .slice A ls.length c ∧ (A = none → c = 0) ∧ ls.length ≤ c ∧ c ≤ 9223372036854775807 ∧ (0 < ls.length → ∃ g o, A = some ⟨g, o, none⟩ ∧ g < B ∧ ∀ j (hj : j < ls.length), w.cell? ⟨g, o + j, none⟩ = some (jv ls[j]))
theorem JS.below {w w' : World} {B B' : Nat} {v : Value} {ls : List Nat} (h : JS w B v ls) (hb : Below B' w w') (hB : B ≤ B') : JS w' B v ls := by
  obtain ⟨A, c, e, h0, h1, h2, h⟩ := h
  refine ⟨A, c, e, h0, h1, h2, fun hl => ?_⟩
  obtain ⟨g, o, hg, hlt, h3⟩ := h hl
  exact ⟨g, o, hg, hlt, fun j hj => (hb.cell (p := ⟨g, o + j, none⟩) (by show g < B'; omega)).trans (h3 j hj)⟩
theorem JS.more {w : World} {B B' : Nat} {v : Value} {ls : List Nat} (h : JS w B v ls) (hB : B ≤ B') : JS w B' v ls := by
  obtain ⟨A, c, e, h0, h1, h2, h⟩ := h
  refine ⟨A, c, e, h0, h1, h2, fun hl => ?_⟩
  obtain ⟨g, o, hg, hlt, h3⟩ := h hl
  exact ⟨g, o, hg, by omega, h3⟩
theorem OwnJ.js {w : World} {base : Nat} {v : Value} {ls : List Nat} (h : OwnJ w base v ls) : JS w w.heap.size v ls := by
  obtain ⟨A, c, e, h1, h2, h3⟩ := h.jIn
  refine ⟨A, c, e, fun hA => ?_, h1, h2, fun hl => ?_⟩
  · rcases h.2 with ⟨h4, _⟩ | ⟨g, cap, cur, h4, _⟩
    · rw [h4] at e; injection e with _ _ e; exact e.symm
    · rw [h4, hA] at e; injection e with e; cases e
  · obtain ⟨g, hg, hlt, h5⟩ := h3 hl
    exact ⟨g, 0, hg, hlt, fun j hj => by rw [Nat.zero_add]; exact h5 j hj⟩
theorem OwnJ.belowBase {w w' : World} {base : Nat} {v : Value} {ls : List Nat} (h : OwnJ w base v ls) (hg : w.grownBy w' v.ownBlock) (hb : base ≤ w.heap.size) : Below base w w' :=
  (Below.refl base w).grown hg hb (fun j e => (OwnJ.lt h j e).1)
theorem OwnJ.of_heap {w : World} {base g cap n : Nat} {cur : Array Value} {l : List Nat} (hb : base ≤ g) (hg : w.heap[g]? = some (.cells cur 3 (0, 0))) (hc : cur.size = cap) (hm : cap ≤ maxLen) (hn : l.length = n) (hl : cur.toList.take n = l.map jv) (hnc : n ≤ cap) :
    OwnJ w base (.slice (some ⟨g, 0, none⟩) n cap) l := by
  subst hn
  exact ⟨by simp, .inr ⟨g, cap, cur, rfl, hb, hg, hnc, hm, by simp [hc], by simpa using hl⟩⟩
theorem wpList_appJs {w : World} {ops : Array Oper} {rest : List Oper} {o : Oper} {a : Act} {Q : Exit → Act → World → Prop} (hgd : o.guard = none) (s x : Operand) (ho : o.op = .call { callee := .builtin .append, args := #[s, x], argTypes := #[63, 63] })
    (base : Nat) (v : Value) (l ms : List Nat) (hs : a.eval s = v) (hown : OwnJ w base v l) (B : Nat) (vx : Value) (hx : a.eval x = vx) (hsrc : JS w B vx ms)
    (hlen : l.length + ms.length ≤ 1099511627776) (hbase : base ≤ w.heap.size)
    (h : ∀ v' w', OwnJ w' base v' (l ++ ms) → w.grownBy w' v.ownBlock → wpList Tryd.prog ops Q rest (a.put o.dst v') w') : wpList Tryd.prog ops Q (o :: rest) a w := by
  obtain ⟨A, c, rfl, h0, h1, h2, h3⟩ := hsrc
  obtain ⟨i0, hi, hz0, hz1, hz2⟩ := info_parts info_j
  cases A with
  | none =>
    obtain rfl := h0 rfl
    obtain rfl : ms = [] := List.eq_nil_of_length_eq_zero (by omega)
    exact wpList_append_own_none hgd s x 63 ho base 3 i0 1 Tryd.underlying63 hi v l.length (l.map jv) hs hown hx (h v w (by simpa using hown) (World.grownBy.refl w _))
  | some ad =>
    refine wpList_append_own w hgd s x 63 ho base 3 i0 (.int .i64 0) 1 8 Tryd.underlying63 hi hz0 hz1 hz2 rfl (by decide) v l.length (l.map jv) hs hown ad ms.length c (ms.map jv) hx (by simp) ?_ ?_ (by unfold maxLen; omega) (by omega) hbase ?_
    · intro j u hu
      rw [List.getElem?_map] at hu
      by_cases hj : j < ms.length
      · obtain ⟨b, o, e, _, hbs⟩ := h3 (by omega)
        obtain rfl := Option.some.inj e
        rw [Addr.add_mid]
        rw [List.getElem?_eq_getElem hj] at hu; cases hu; exact hbs j hj
      · rw [List.getElem?_eq_none (by omega)] at hu; cases hu
    · intro u hu; rw [List.mem_map] at hu; obtain ⟨b, _, rfl⟩ := hu; rfl
    · intro v' w' g1 g2 _
      refine h v' w' ?_ g2
      unfold OwnJ
      rw [List.length_append, List.map_append]
      exact g1
set_option maxHeartbeats 1000000 in
theorem growJ_pos (n : Nat) (h0 : 0 < n) (hn : n ≤ 100000) (w : World) : Calls Tryd.prog 49 #[.slice none 0 0, .int .i64 (n : Int)] w fun e w' => ∃ v', e = .returned v' ∧ OwnJ w' w.heap.size v' [] ∧ Below w.heap.size w w' := by
  have hb5 : Tryd.t3.bytes = 8 := by kernel_rfl
  have hnx : Builtin.nextslicecap n 0 = n := by unfold Builtin.nextslicecap; rw [if_pos (by omega)]
  go_enter Tryd.func49, Tryd.ntmps49
  go_wp2_with fail
  have hge := grownCap_ge w n 0 3
  have hle := grownCap_le_maxLen w n 0 3 (by unfold maxLen; omega)
  go_ret
  refine ⟨_, rfl, ?_, ((Below.refl _ _).alloc (Nat.le_refl _) _).drew⟩
  exact OwnJ.of_heap (g := w.heap.size) (cap := grownCap w n 0 3) (n := 0) (Nat.le_refl _) (heap_alloc_new w _) (by rw [Array.size_append, size_zeroCells, size_zeroCells]; show n * 1 + (grownCap w n 0 3 - n) * 1 = _; omega) hle rfl (by simp) (by omega)
set_option maxHeartbeats 1000000 in
theorem growJ_nought (w : World) : Calls Tryd.prog 49 #[.slice none 0 0, .int .i64 0] w fun e w' => ∃ v', e = .returned v' ∧ OwnJ w' w.heap.size v' [] ∧ Below w.heap.size w w' := by
  go_enter Tryd.func49, Tryd.ntmps49
  go_wp2_with fail
  go_ret
  exact ⟨_, rfl, OwnJ.nil _ _, Below.refl _ _⟩
theorem growJ_any (n : Nat) (hn : n ≤ 100000) (w : World) : Calls Tryd.prog 49 #[.slice none 0 0, .int .i64 (n : Int)] w fun e w' => ∃ v', e = .returned v' ∧ OwnJ w' w.heap.size v' [] ∧ Below w.heap.size w w' := by
  by_cases h : n = 0
  · subst h; exact growJ_nought w
  · exact growJ_pos n (by omega) hn w
set_option maxRecDepth 100000 in
set_option maxHeartbeats 1000000 in
theorem concatJ_any (gb : Nat) (v1 v2 : Value) (l1 l2 : List Nat) (w : World) (hg : gb < w.heap.size) (hc1 : w.cell? ⟨gb, 0, none⟩ = some v1) (hc2 : w.cell? ⟨gb, 1, none⟩ = some v2)
    (h1 : JS w w.heap.size v1 l1) (h2 : JS w w.heap.size v2 l2) (hl1 : l1.length ≤ 10000) (hl2 : l2.length ≤ 10000) :
    Calls Tryd.prog 41 #[.slice (some ⟨gb, 0, none⟩) 2 2] w fun e w' => ∃ v', e = .returned v' ∧ OwnJ w' w.heap.size v' (l1 ++ l2) ∧ Below w.heap.size w w' := by
  have H1 := Lib.hid h1
  have H2 := Lib.hid h2
  obtain ⟨A1, c1, rfl, _, k11, k12, _⟩ := h1
  obtain ⟨A2, c2, rfl, _, k21, k22, _⟩ := h2
  have HC1 := Lib.hid hc1; clear hc1
  have HC2 := Lib.hid hc2; clear hc2
  go_enter Tryd.func41, Tryd.ntmps41
  go_wp2_with fail
  go_loop [3, 5, 11] (fun z _ i => ∃ k s : Nat, k ≤ 2 ∧ i = .int .i64 (k : Int) ∧ z = .int .i64 (s : Int) ∧ s = (if k = 0 then 0 else if k = 1 then l1.length else l1.length + l2.length)) (fun _ _ i => 2 - (intOf i).toNat)
  case atStart => exact ⟨0, 0, by omega, rfl, rfl, rfl⟩
  case round =>
    obtain ⟨k, s, hk, rfl, rfl, hs⟩ := hrel
    have Hs := Lib.hid hs; clear hs
    obtain rfl | rfl | rfl : k = 0 ∨ k = 1 ∨ k = 2 := by omega
    · obtain rfl : s = 0 := Hs.out
      have hc := HC1.out
      go_wp2_with fail
      go_round
      case rel => exact ⟨1, l1.length, by omega, rfl, by go_num, rfl⟩
      case measure => simp [intOf]
    · obtain rfl : s = l1.length := Hs.out
      have hc := HC2.out
      go_wp2_with fail
      go_round
      case rel => exact ⟨2, l1.length + l2.length, by omega, rfl, by go_num, rfl⟩
      case measure => simp [intOf]
    · have Hs2 : Hid (s = l1.length + l2.length) := Lib.hid Hs.out
      have hs3 : s ≤ 20000 := by rw [Hs2.out]; omega
      go_wp2_with fail
      refine (growJ_any s (by omega) w).mono ?_
      rintro e w1 ⟨v0, rfl, hO, hb⟩
      have HO := Lib.hid hO; clear hO
      have HB := Lib.hid hb; clear hb
      go_wp2_with fail
      go_loopw [6, 8, 27] (fun o _ i wr => ∃ k : Nat, k ≤ 2 ∧ i = .int .i64 (k : Int) ∧ OwnJ wr w.heap.size o (if k = 0 then [] else if k = 1 then l1 else l1 ++ l2) ∧ Below w.heap.size w wr) (fun _ _ i _ => 2 - (intOf i).toNat)
      case atStart => exact ⟨0, by omega, rfl, HO.out, HB.out⟩
      case round =>
        clear HO HB
        obtain ⟨k, hk, rfl, hO, hBl⟩ := hrel
        have HO := Lib.hid hO; clear hO
        have HBl := Lib.hid hBl; clear hBl
        obtain rfl | rfl | rfl : k = 0 ∨ k = 1 ∨ k = 2 := by omega
        · have hc : wr.cell? ⟨gb, 0, none⟩ = some (.slice A1 l1.length c1) := (HBl.out.cell (p := ⟨gb, 0, none⟩) hg).trans HC1.out
          have HO1 : Hid (OwnJ wr w.heap.size u6 []) := Lib.hid HO.out
          go_wp2_with (at_builtin; ((with_reducible refine wpList_appJs ?g1 (.tmp 31) (.tmp 32) ?g2 w.heap.size u6 [] l1 ?g3 ?g4 w.heap.size (.slice A1 l1.length c1) ?g5 ?g6 ?g7 ?g8 ?_); (case g1 => rfl); (case g2 => rfl); (case g3 => rfl); (case g4 => exact HO1.out); (case g5 => rfl); (case g6 => exact H1.out.below HBl.out (Nat.le_refl _)); (case g7 => simp; omega); (case g8 => exact HBl.out.size); intro v' w2 hv hgr; have Hv := Lib.hid hv; clear hv; have Hg := Lib.hid (HBl.out.trans (HO1.out.belowBase hgr HBl.out.size)); clear hgr))
          go_roundw
          case rel => exact ⟨1, by omega, rfl, by simpa using Hv.out, Hg.out⟩
          case measure => simp [intOf]
        · have hc : wr.cell? ⟨gb, 1, none⟩ = some (.slice A2 l2.length c2) := (HBl.out.cell (p := ⟨gb, 1, none⟩) hg).trans HC2.out
          have HO1 : Hid (OwnJ wr w.heap.size u6 l1) := Lib.hid HO.out
          go_wp2_with (at_builtin; ((with_reducible refine wpList_appJs ?g1 (.tmp 31) (.tmp 32) ?g2 w.heap.size u6 l1 l2 ?g3 ?g4 w.heap.size (.slice A2 l2.length c2) ?g5 ?g6 ?g7 ?g8 ?_); (case g1 => rfl); (case g2 => rfl); (case g3 => rfl); (case g4 => exact HO1.out); (case g5 => rfl); (case g6 => exact H2.out.below HBl.out (Nat.le_refl _)); (case g7 => omega); (case g8 => exact HBl.out.size); intro v' w2 hv hgr; have Hv := Lib.hid hv; clear hv; have Hg := Lib.hid (HBl.out.trans (HO1.out.belowBase hgr HBl.out.size)); clear hgr))
          go_roundw
          case rel => exact ⟨2, by omega, rfl, by simpa using Hv.out, Hg.out⟩
          case measure => simp [intOf]
        · have HO1 : Hid (OwnJ wr w.heap.size u6 (l1 ++ l2)) := Lib.hid HO.out
          go_wp2_with fail
          go_ret
          exact ⟨_, rfl, HO1.out, HBl.out⟩
end Go.Proofs.YtpfbpiegejbhkaaDoor
