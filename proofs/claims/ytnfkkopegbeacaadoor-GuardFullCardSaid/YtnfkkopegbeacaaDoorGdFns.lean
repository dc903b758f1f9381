/- guard: isTime, isSource, after; a Guard in memory; New. -/
import Derived.Test.YtnfkkopegbeacaaDoorTgApi
import Derived.Test.YtnfkkopegbeacaaDoorNmName
import Derived.Test.YtnfkkopegbeacaaDoorSpFnW
import Derived.Test.YtnfkkopegbeacaaDoorNmTabA
set_option maxRecDepth 100000
namespace Go.Proofs.YtnfkkopegbeacaaDoor
open Go.RowKit Go.Shelf
abbrev gT : TypeId := 54
theorem isTime_any (n : Int) (w : World) : Calls Tryd.prog 18 #[u64v n] w fun e w' => e = .returned (.bool (decide (0 < n) && decide (n ≤ 1099511627776))) ∧ w = w' := by
  by_cases h1 : 0 < n
  · by_cases h2 : n ≤ 1099511627776
    · rw [decide_eq_true h1, decide_eq_true h2]
      go_enter Tryd.func18, Tryd.ntmps18
      go_wp2_with fail
      go_ret
      exact ⟨by first | rfl | simp_all, rfl⟩
    · rw [decide_eq_true h1, decide_eq_false h2]
      go_enter Tryd.func18, Tryd.ntmps18
      go_wp2_with fail
      go_ret
      exact ⟨by first | rfl | simp_all, rfl⟩
  · rw [decide_eq_false h1]
    go_enter Tryd.func18, Tryd.ntmps18
    go_wp2_with fail
    go_ret
    exact ⟨by first | rfl | simp_all, rfl⟩
/-- The lock's end: a wait after now, at most the greatest number. -/
def aftL (now wait : Int) : Int := now + min wait (18446744073709551615 - now)
theorem after_any (a b : Int) (w : World) (a0 : 0 ≤ a) (a1 : a ≤ 18446744073709551615) (b0 : 0 ≤ b) (b1 : b ≤ 18446744073709551615) : Calls Tryd.prog 24 #[u64v a, u64v b] w fun e w' => e = .returned (u64v (aftL a b)) ∧ w = w' := by
  unfold aftL
  have h2 : (18446744073709551615 - a) % 18446744073709551616 = 18446744073709551615 - a := by omega
  go_enter Tryd.func24, Tryd.ntmps24
  go_wp2_with fail
  all_goals
    go_ret
    exact ⟨ret_i (by omega), rfl⟩
/-- A text is a source. -/
def srcB (s : List UInt8) : Bool := (sizL 32 (prepL s)).2 == 0 && decide ((s.length : Int) ≤ 32)
theorem isSource_any (s : List UInt8) (w : World) (hs : s.length ≤ 600) (hT : Lib.Utf8Tabs 0 1 w) : Calls Tryd.prog 19 #[strT s] w fun e w' => e = .returned (.bool (srcB s)) ∧ Below w.heap.size w w' := by
  have HC := Lib.hid (name_any s w hs hT)
  unfold srcB
  obtain ⟨p, hp⟩ : ∃ p, p = sizL 32 (prepL s) := ⟨_, rfl⟩
  rw [← hp] at HC ⊢
  clear hp hT
  obtain ⟨p, x⟩ := p
  by_cases hx : x = 0
  · subst hx
    by_cases h2 : (s.length : Int) ≤ 32
    · rw [decide_eq_true h2]
      go_enter Tryd.func19, Tryd.ntmps19
      go_wp2_with fail
      refine HC.out.mono ?_
      rintro e w1 ⟨rfl, hB⟩
      have HB := Lib.hid hB; clear hB HC
      go_wp2_with fail
      go_ret
      exact ⟨by first | rfl | simp_all, HB.out⟩
    · rw [decide_eq_false h2]
      go_enter Tryd.func19, Tryd.ntmps19
      go_wp2_with fail
      refine HC.out.mono ?_
      rintro e w1 ⟨rfl, hB⟩
      have HB := Lib.hid hB; clear hB HC
      go_wp2_with fail
      go_ret
      exact ⟨by first | rfl | simp_all, HB.out⟩
  · have hx2 : (x == 0) = false := by rw [beq_eq_false_iff_ne]; exact hx
    go_enter Tryd.func19, Tryd.ntmps19
    go_wp2_with fail
    refine HC.out.mono ?_
    rintro e w1 ⟨rfl, hB⟩
    have HB := Lib.hid hB; clear hB HC
    go_wp2_with fail
    go_ret
    exact ⟨by first | rfl | simp_all, HB.out⟩
/-- A Guard at G, over the Table at T. -/
structure GD (w : World) (base G T m cap : Nat) (b mo ho : Int) (l : List (List UInt8 × VT)) : Prop where
  tb : TB w base T m cap l
  blk : BlkT w G gT [u64v b, u64v mo, u64v ho, tP T]
  lo : base ≤ G
theorem GD.keep {w w' : World} {base G T m cap : Nat} {b mo ho : Int} {l : List (List UInt8 × VT)} (h : GD w base G T m cap b mo ho l) (hb : Below w.heap.size w w') : GD w' base G T m cap b mo ho l := ⟨h.tb.keep hb, h.blk.below hb h.blk.lt, h.lo⟩
theorem GD.to {w w' : World} {base G T m cap : Nat} {b mo ho : Int} {l l' : List (List UInt8 × VT)} (h : GD w base G T m cap b mo ho l) (hf : Fr base w w') (ht : TB w' base T m cap l') : GD w' base G T m cap b mo ho l' := ⟨ht, hf.kt _ _ _ _ h.blk (by decide) (by decide), h.lo⟩
theorem new_gd (r : Nat) (b mo ho : Int) (w : World) (h1 : 1 ≤ r) (h2 : r ≤ 64) (b0 : 0 < b) (b1 : b ≤ 1099511627776) (m0 : 0 < mo) (m1 : mo ≤ 1099511627776) (k0 : 0 < ho) (k1 : ho ≤ 1099511627776) :
    Calls Tryd.prog 8 #[.agg #[.int .i64 (r : Int), u64v b, u64v mo, u64v ho]] w fun e w' => ∃ G T m, e = .returned (.tuple #[tP G, .int .i64 0]) ∧ GD w' w.heap.size G T m r b mo ho [] ∧ Below w.heap.size w w' := by
  obtain ⟨W, hW⟩ : ∃ W, W = w.alloc (.cells #[.int .i64 (r : Int), u64v b, u64v mo, u64v ho] 31) := ⟨_, rfl⟩
  have hP : BlkT W w.heap.size 31 [.int .i64 (r : Int), u64v b, u64v mo, u64v ho] := by rw [hW]; exact heap_alloc_new w _
  have hBW : Below w.heap.size w W := by rw [hW]; exact (Below.refl _ w).alloc (Nat.le_refl _) _
  have hr : ¬ (64 : Int) < (r : Int) := by omega
  have HN := Lib.hid (new_tb r W h1 (by omega))
  have HP := Lib.hid hP
  have HBW := Lib.hid hBW
  have hWs : W.heap.size = w.heap.size + 1 := by rw [hW, World.size_alloc]
  clear hP hBW
  go_enter Tryd.func8, Tryd.ntmps8
  have p0 : W.cell? ⟨w.heap.size, 0, none⟩ = some (.int .i64 (r : Int)) := HP.out.at rfl
  have p1 : W.cell? ⟨w.heap.size, 1, none⟩ = some (u64v b) := HP.out.at rfl
  have p2 : W.cell? ⟨w.heap.size, 2, none⟩ = some (u64v mo) := HP.out.at rfl
  have p3 : W.cell? ⟨w.heap.size, 3, none⟩ = some (u64v ho) := HP.out.at rfl
  have q1 := decide_eq_true b0
  have q2 := decide_eq_true b1
  have q3 := decide_eq_true m0
  have q4 := decide_eq_true m1
  have q5 := decide_eq_true k0
  have q6 := decide_eq_true k1
  go_wp2_with fail
  rw [← hW]
  refine HN.out.mono ?_
  rintro e w1 ⟨T, rfl, ⟨m, h1⟩, hb1⟩
  have HT := Lib.hid h1
  have HB1 := Lib.hid hb1
  have hP1 := HP.out.below hb1 (by rw [hWs]; omega)
  have z0 : w1.cell? ⟨w.heap.size, 0, none⟩ = some (.int .i64 (r : Int)) := hP1.at rfl
  have z1 : w1.cell? ⟨w.heap.size, 1, none⟩ = some (u64v b) := hP1.at rfl
  have z2 : w1.cell? ⟨w.heap.size, 2, none⟩ = some (u64v mo) := hP1.at rfl
  have z3 : w1.cell? ⟨w.heap.size, 3, none⟩ = some (u64v ho) := hP1.at rfl
  clear h1 hb1 hP1 hW p0 p1 p2 p3 HP HN
  go_wp2_with fail
  refine (isTime_any b w1).mono ?_
  rintro e w2 ⟨rfl, rfl⟩
  rw [q1, q2]
  go_wp2_with fail
  refine (isTime_any mo w1).mono ?_
  rintro e w2 ⟨rfl, rfl⟩
  rw [q3, q4]
  go_wp2_with fail
  refine (isTime_any ho w1).mono ?_
  rintro e w2 ⟨rfl, rfl⟩
  rw [q5, q6]
  go_wp2_with fail
  go_ret2
  refine ⟨w1.heap.size, T, m, rfl, ⟨?_, ?_, ?_⟩, ?_⟩
  · obtain ⟨xs, g1, g2, g3, g4, g5⟩ := HT.out.keep ((Below.refl _ w1).alloc (Nat.le_refl _) (.cells #[u64v b, u64v mo, u64v ho, tP T] gT))
    exact ⟨xs, g1, g2, by omega, by omega, fun x hx => by have := g5 x hx; omega⟩
  · exact heap_alloc_new w1 _
  · have := HB1.out.size; omega
  · exact (HBW.out.trans (HB1.out.mono (by omega))).alloc (by have := HB1.out.size; omega) _
end Go.Proofs.YtnfkkopegbeacaaDoor
