/- The reference's Pipe: Waits, Write, Read, Shut, Cut, Over. The reference's Pipe: Cut. -/
import Derived.Test.YtlobmffcnobgeaaDoorPpA
import Derived.Test.YtlobmffcnobgeaaDoorStepSl
import Derived.Test.YtlobmffcnobgeaaDoorCut
import Derived.Test.YtlobmffcnobgeaaDoorCut2
import Derived.Test.YtlobmffcnobgeaaDoorSame
set_option maxRecDepth 100000
namespace Go.Proofs.YtlobmffcnobgeaaDoor
open Go.RowKit
attribute [local go_sem] Oper.semAt_some
/-- A way of the reference's: all that was taken, how many were read, is it shut, what was lost. -/
structure WayR where
  all : List UInt8
  rd : Nat
  shut : Bool
  lost : Nat
def WayR.waits (y : WayR) : Nat := y.all.length - y.rd - y.lost
def rxc (room : Nat) (A : Nat → Value) (Y : Nat → WayR) : List Value :=
  [.int .i64 (room : Int), A 0, .int .i64 ((Y 0).rd : Int), .bool (Y 0).shut, .int .i64 ((Y 0).lost : Int), A 1, .int .i64 ((Y 1).rd : Int), .bool (Y 1).shut, .int .i64 ((Y 1).lost : Int)]
structure PX (w : World) (base c room : Nat) (A : Nat → Value) (Y : Nat → WayR) : Prop where
  blk : Blk w c (rxc room A Y)
  own : ∀ i, i < 2 → OwnB w base (A i) (Y i).all
  ne : ∀ i, i < 2 → (A i).ownBlock ≠ some c
  ge : base ≤ c
  fit : ∀ i, i < 2 → (Y i).rd + (Y i).lost ≤ (Y i).all.length
  big : ∀ i, i < 2 → (Y i).all.length ≤ 400000
  r2 : room ≤ 4096
  waits : ∀ i, i < 2 → (Y i).waits ≤ room
/-- The blocks of the reference's Pipe. -/
def pxS (c : Nat) (A : Nat → Value) : List Nat := c :: ((A 0).ownBlock.toList ++ (A 1).ownBlock.toList)
section
variable {w w' : World} {base c room : Nat} {A : Nat → Value} {Y : Nat → WayR}
theorem PX.inS (h : PX w base c room A Y) : ∀ k ∈ pxS c A, base ≤ k ∧ k < w.heap.size := by
  intro k hk
  simp only [pxS, List.mem_append, List.mem_cons, Option.mem_toList] at hk
  rcases hk with rfl | hk | hk
  · exact ⟨h.ge, h.blk.lt⟩
  · exact (h.own 0 (by omega)).lt k hk
  · exact (h.own 1 (by omega)).lt k hk
theorem PX.trs {S : List Nat} (h : PX w base c room A Y) (ht : Trs S w w') (hS : ∀ k ∈ pxS c A, k ∉ S) : PX w' base c room A Y := by
  refine ⟨ht.blk h.blk (hS _ (by simp [pxS])), fun i hi => (h.own i hi).trs ht (fun k hk => hS _ ?_), h.ne, h.ge, h.fit, h.big, h.r2, h.waits⟩
  rcases (show i = 0 ∨ i = 1 by omega) with rfl | rfl <;> simp [pxS, hk]
theorem PX.below (h : PX w base c room A Y) (hb : Below w.heap.size w w') : PX w' base c room A Y :=
  h.trs (S := []) (Trs.of_below hb) (fun _ _ => by simp)
theorem PX.size (h : PX w base c room A Y) : base ≤ w.heap.size := Nat.le_trans h.ge (Nat.le_of_lt h.blk.lt)
/-- One way has turned. -/
theorem PX.turn (h : PX w base c room A Y) (B0 : Nat) (hB0 : c < B0) (i : Nat) (hi : i < 2) (v' : Value) (y' : WayR) (ht : Trs [c] w w') (hk : Blk w' c (rxc room (upd A i v') (upd Y i y'))) (ho : OwnB w' base v' y'.all)
    (hv : ∀ k, v'.ownBlock = some k → (A i).ownBlock = some k ∨ B0 ≤ k) (hf : y'.rd + y'.lost ≤ y'.all.length) (hb : y'.all.length ≤ 400000) (hw : y'.waits ≤ room) :
    PX w' base c room (upd A i v') (upd Y i y') ∧ (∀ k ∈ pxS c (upd A i v'), k ∈ pxS c A ∨ B0 ≤ k) := by
  have hc := h.blk.lt
  refine ⟨⟨hk, fun j hj => ?_, fun j hj => ?_, h.ge, fun j hj => ?_, fun j hj => ?_, h.r2, fun j hj => ?_⟩, fun k hk => ?_⟩
  · by_cases hj' : j = i
    · subst hj'; rw [upd_same, upd_same]; exact ho
    · rw [upd_other _ _ _ _ hj', upd_other _ _ _ _ hj']; exact (h.own j hj).trs ht (fun k hk hm => h.ne j hj (by rw [hk]; simpa using hm))
  · by_cases hj' : j = i
    · subst hj'; rw [upd_same]
      intro e
      rcases hv _ e with h1 | h1
      · exact h.ne j hj h1
      · omega
    · rw [upd_other _ _ _ _ hj']; exact h.ne j hj
  · by_cases hj' : j = i
    · subst hj'; rw [upd_same]; exact hf
    · rw [upd_other _ _ _ _ hj']; exact h.fit j hj
  · by_cases hj' : j = i
    · subst hj'; rw [upd_same]; exact hb
    · rw [upd_other _ _ _ _ hj']; exact h.big j hj
  · by_cases hj' : j = i
    · subst hj'; rw [upd_same]; exact hw
    · rw [upd_other _ _ _ _ hj']; exact h.waits j hj
  · simp only [pxS, List.mem_append, List.mem_cons, Option.mem_toList] at hk ⊢
    rcases (show i = 0 ∨ i = 1 by omega) with rfl | rfl
    · rw [upd_same, upd_other _ _ _ _ (by omega)] at hk
      rcases hk with hk | hk | hk
      · exact .inl (.inl hk)
      · rcases hv k hk with h1 | h1
        · exact .inl (.inr (.inl h1))
        · exact .inr h1
      · exact .inl (.inr (.inr hk))
    · rw [upd_same, upd_other _ _ _ _ (by omega)] at hk
      rcases hk with hk | hk | hk
      · exact .inl (.inl hk)
      · exact .inl (.inr (.inl hk))
      · rcases hv k hk with h1 | h1
        · exact .inl (.inr (.inr h1))
        · exact .inr h1
/-- A store into the Pipe's own block. -/
theorem PX.store (h : PX w base c room A Y) (i : Nat) (hi : i < 2) (y' : WayR) (hall : y'.all = (Y i).all) (ht : Trs [c] w w') (hk : Blk w' c (rxc room A (upd Y i y'))) (hf : y'.rd + y'.lost ≤ y'.all.length) (hw : y'.waits ≤ room) :
    PX w' base c room A (upd Y i y') := by
  have hh := h.turn w.heap.size h.blk.lt i hi (A i) y' ht (by rw [upd_id]; exact hk) (by rw [hall]; exact (h.own i hi).trs ht (fun k hk hm => h.ne i hi (by rw [hk]; simpa using hm))) (fun k hk => .inl hk) hf (by rw [hall]; exact h.big i hi) hw
  rw [upd_id] at hh
  exact hh.1
theorem rWaits_any (AA : Option Addr) (n C : Nat) (r l : Int) (s : Bool) (w : World) (h0 : 0 ≤ r) (h1 : 0 ≤ l) (h2 : r + l ≤ (n : Int)) (hn : n ≤ 400000) :
    Calls Tryd.prog 29 #[.agg #[.slice AA n C, .int .i64 r, .bool s, .int .i64 l]] w fun e w' => e = .returned (.int .i64 ((n : Int) - r - l)) ∧ Below w.heap.size w w' := by
  have HB := Lib.hid (fun (o : Obj) => (Below.refl w.heap.size w).alloc (Nat.le_refl _) o)
  go_enter Tryd.func29, Tryd.ntmps29
  go_wp2_with fail
  go_ret
  exact ⟨rfl, HB.out _⟩
theorem rShut_nil (k : Int) (w : World) : Calls Tryd.prog 24 #[.pointer none, .int .i64 k] w fun e w' => e = .returned (.int .i64 6) ∧ w' = w := by
  go_enter Tryd.func24, Tryd.ntmps24
  go_wp2_with fail
  go_ret
  exact ⟨rfl, rfl⟩
theorem rShut_bad (c : Nat) (k : Int) (hk : k ≠ 0 ∧ k ≠ 1) (w : World) : Calls Tryd.prog 24 #[tP c, .int .i64 k] w fun e w' => e = .returned (.int .i64 1) ∧ w' = w := by
  have h0 : (k != 0) = true := bne_iff_ne.2 hk.1
  have h1 : (k != 1) = true := bne_iff_ne.2 hk.2
  clear hk
  go_enter Tryd.func24, Tryd.ntmps24
  go_wp2_with fail
  go_ret
  exact ⟨rfl, rfl⟩
def shutR (y : WayR) : WayR := { y with shut := true }
theorem rShut_0 (h : PX w base c room A Y) :
    Calls Tryd.prog 24 #[tP c, .int .i64 0] w fun e w' => e = .returned (.int .i64 (if (Y 0).shut then 14 else 0)) ∧ PX w' base c room A (upd Y 0 (shutR (Y 0))) ∧ Trs [c] w w' := by
  have k2 : w.cell? ⟨c, 3, none⟩ = some (.bool (Y 0).shut) := h.blk.at (o := 3) rfl
  have f2 : w.frozen? ⟨c, 3, none⟩ = false := h.blk.free _
  have HP := Lib.hid h
  cases hs : (Y 0).shut with
  | true =>
    rw [hs] at k2
    have HU := Lib.hid (show upd Y 0 (shutR (Y 0)) = Y from by
      have e : shutR (Y 0) = Y 0 := by unfold shutR; rw [← hs]
      rw [e, upd_id])
    clear h hs
    go_enter Tryd.func24, Tryd.ntmps24
    go_wp2_with fail
    go_ret
    exact ⟨rfl, by rw [HU.out]; exact HP.out, Trs.refl _ _⟩
  | false =>
    rw [hs] at k2
    have HT := Lib.hid (h.store 0 (by omega) (shutR (Y 0)) rfl ((Trs.refl [c] w).set (p := ⟨c, 3, none⟩) (by simp) (.bool true)) (h.blk.set 3 (.bool true)) (h.fit 0 (by omega)) (h.waits 0 (by omega)))
    have HS := Lib.hid ((Trs.refl [c] w).set (p := ⟨c, 3, none⟩) (by simp) (.bool true))
    clear h hs
    go_enter Tryd.func24, Tryd.ntmps24
    go_wp2_with fail
    go_ret
    exact ⟨rfl, HT.out, HS.out⟩
theorem rShut_1 (h : PX w base c room A Y) :
    Calls Tryd.prog 24 #[tP c, .int .i64 1] w fun e w' => e = .returned (.int .i64 (if (Y 1).shut then 14 else 0)) ∧ PX w' base c room A (upd Y 1 (shutR (Y 1))) ∧ Trs [c] w w' := by
  have k2 : w.cell? ⟨c, 7, none⟩ = some (.bool (Y 1).shut) := h.blk.at (o := 7) rfl
  have f2 : w.frozen? ⟨c, 7, none⟩ = false := h.blk.free _
  have HP := Lib.hid h
  cases hs : (Y 1).shut with
  | true =>
    rw [hs] at k2
    have HU := Lib.hid (show upd Y 1 (shutR (Y 1)) = Y from by
      have e : shutR (Y 1) = Y 1 := by unfold shutR; rw [← hs]
      rw [e, upd_id])
    clear h hs
    go_enter Tryd.func24, Tryd.ntmps24
    go_wp2_with fail
    go_ret
    exact ⟨rfl, by rw [HU.out]; exact HP.out, Trs.refl _ _⟩
  | false =>
    rw [hs] at k2
    have HT := Lib.hid (h.store 1 (by omega) (shutR (Y 1)) rfl ((Trs.refl [c] w).set (p := ⟨c, 7, none⟩) (by simp) (.bool true)) (h.blk.set 7 (.bool true)) (h.fit 1 (by omega)) (h.waits 1 (by omega)))
    have HS := Lib.hid ((Trs.refl [c] w).set (p := ⟨c, 7, none⟩) (by simp) (.bool true))
    clear h hs
    go_enter Tryd.func24, Tryd.ntmps24
    go_wp2_with fail
    go_ret
    exact ⟨rfl, HT.out, HS.out⟩
theorem rOver_nil (w : World) : Calls Tryd.prog 28 #[.pointer none] w fun e w' => e = .returned (.bool true) ∧ w' = w := by
  go_enter Tryd.func28, Tryd.ntmps28
  go_wp2_with fail
  go_ret
  exact ⟨rfl, rfl⟩
def overR (Y : Nat → WayR) : Bool := (Y 0).shut && (Y 1).shut && decide ((Y 0).waits = 0) && decide ((Y 1).waits = 0)
set_option maxHeartbeats 1000000 in
theorem rOver_any (h : PX w base c room A Y) :
    Calls Tryd.prog 28 #[tP c] w fun e w' => e = .returned (.bool (overR Y)) ∧ Below w.heap.size w w' := by
  obtain ⟨A0, C0, hV0, _, _, _, _⟩ := (h.own 0 (by omega)).sl
  obtain ⟨A1, C1, hV1, _, _, _, _⟩ := (h.own 1 (by omega)).sl
  have k1 : w.cell? ⟨c, 1, none⟩ = some (A 0) := h.blk.at (o := 1) rfl
  have k2 : w.cell? ⟨c, 2, none⟩ = some (.int .i64 ((Y 0).rd : Int)) := h.blk.at (o := 2) rfl
  have k3 : w.cell? ⟨c, 3, none⟩ = some (.bool (Y 0).shut) := h.blk.at (o := 3) rfl
  have k4 : w.cell? ⟨c, 4, none⟩ = some (.int .i64 ((Y 0).lost : Int)) := h.blk.at (o := 4) rfl
  have k5 : w.cell? ⟨c, 5, none⟩ = some (A 1) := h.blk.at (o := 5) rfl
  have k6 : w.cell? ⟨c, 6, none⟩ = some (.int .i64 ((Y 1).rd : Int)) := h.blk.at (o := 6) rfl
  have k7 : w.cell? ⟨c, 7, none⟩ = some (.bool (Y 1).shut) := h.blk.at (o := 7) rfl
  have k8 : w.cell? ⟨c, 8, none⟩ = some (.int .i64 ((Y 1).lost : Int)) := h.blk.at (o := 8) rfl
  rw [hV0] at k1
  rw [hV1] at k5
  have f0 := h.fit 0 (by omega)
  have f1 := h.fit 1 (by omega)
  have b0 := h.big 0 (by omega)
  have b1 := h.big 1 (by omega)
  have hc := h.blk.lt
  obtain ⟨ANS, hA⟩ : ∃ a, a = overR Y := ⟨_, rfl⟩
  rw [← hA]
  unfold overR WayR.waits at hA
  clear h hV0 hV1
  obtain ⟨N0, hN0⟩ : ∃ N, N = (Y 0).all.length := ⟨_, rfl⟩
  obtain ⟨N1, hN1⟩ : ∃ N, N = (Y 1).all.length := ⟨_, rfl⟩
  rw [← hN0] at k1 hA f0 b0
  rw [← hN1] at k5 hA f1 b1
  clear hN0 hN1
  generalize (Y 0).shut = s0 at *
  generalize (Y 1).shut = s1 at *
  generalize (Y 0).rd = r0 at *
  generalize (Y 1).rd = r1 at *
  generalize (Y 0).lost = l0 at *
  generalize (Y 1).lost = l1 at *
  have HW0 := Lib.hid (fun W => rWaits_any A0 N0 C0 (r0 : Int) (l0 : Int) s0 W (by omega) (by omega) (by omega) b0)
  have HW1 := Lib.hid (fun W => rWaits_any A1 N1 C1 (r1 : Int) (l1 : Int) s1 W (by omega) (by omega) (by omega) b1)
  obtain ⟨z0, hz0⟩ : ∃ z : Int, z = (N0 : Int) - (r0 : Int) - (l0 : Int) := ⟨_, rfl⟩
  obtain ⟨z1, hz1⟩ : ∃ z : Int, z = (N1 : Int) - (r1 : Int) - (l1 : Int) := ⟨_, rfl⟩
  rw [← hz0] at HW0
  rw [← hz1] at HW1
  have HA := Lib.hid (show ANS = (s0 && s1 && (z0 == 0) && (z1 == 0)) from by
    rw [hA]
    have e0 : decide (N0 - r0 - l0 = 0) = (z0 == 0) := by
      by_cases h : z0 = 0
      · rw [decide_eq_true (by omega), h]; rfl
      · rw [decide_eq_false (by omega)]; exact (beq_eq_false_iff_ne.2 h).symm
    have e1 : decide (N1 - r1 - l1 = 0) = (z1 == 0) := by
      by_cases h : z1 = 0
      · rw [decide_eq_true (by omega), h]; rfl
      · rw [decide_eq_false (by omega)]; exact (beq_eq_false_iff_ne.2 h).symm
    rw [e0, e1])
  have HK := Lib.hid (show (w.cell? ⟨c, 5, none⟩ = some (.slice A1 N1 C1) ∧ w.cell? ⟨c, 6, none⟩ = some (.int .i64 (r1 : Int)) ∧ w.cell? ⟨c, 7, none⟩ = some (.bool s1) ∧ w.cell? ⟨c, 8, none⟩ = some (.int .i64 (l1 : Int))) from ⟨k5, k6, k7, k8⟩)
  clear hA hz0 hz1 f0 f1 b0 b1
  cases s0 with
  | false =>
    go_enter Tryd.func28, Tryd.ntmps28
    go_wp2_with fail
    go_ret
    exact ⟨by rw [HA.out]; rfl, Below.refl _ _⟩
  | true =>
    cases s1 with
    | false =>
      go_enter Tryd.func28, Tryd.ntmps28
      go_wp2_with fail
      go_ret
      exact ⟨by rw [HA.out]; rfl, Below.refl _ _⟩
    | true =>
      cases hz : (z0 == 0) with
      | false =>
        have HZ := Lib.hid hz
        go_enter Tryd.func28, Tryd.ntmps28
        go_wp2_with fail
        refine (HW0.out _).mono ?_
        rintro e w1 ⟨rfl, hB1⟩
        have HB1 := Lib.hid hB1
        clear hB1
        go_wp2_with fail
        go_ret
        exact ⟨by rw [HA.out, HZ.out]; rfl, HB1.out⟩
      | true =>
        obtain rfl : z0 = 0 := by simpa using hz
        clear hz
        cases hz : (z1 == 0) with
        | false =>
          have HZ := Lib.hid hz
          go_enter Tryd.func28, Tryd.ntmps28
          go_wp2_with fail
          refine (HW0.out _).mono ?_
          rintro e w1 ⟨rfl, hB1⟩
          have HB1 := Lib.hid hB1
          have j5 := (hB1.cell (p := ⟨c, 5, none⟩) hc).trans HK.out.1
          have j6 := (hB1.cell (p := ⟨c, 6, none⟩) hc).trans HK.out.2.1
          have j7 := (hB1.cell (p := ⟨c, 7, none⟩) hc).trans HK.out.2.2.1
          have j8 := (hB1.cell (p := ⟨c, 8, none⟩) hc).trans HK.out.2.2.2
          clear hB1
          go_wp2_with fail
          refine (HW1.out _).mono ?_
          rintro e w2 ⟨rfl, hB2⟩
          have HB2 := Lib.hid (HB1.out.trans (hB2.mono HB1.out.size))
          clear hB2
          go_wp2_with fail
          go_ret
          exact ⟨by rw [HA.out, HZ.out]; rfl, HB2.out⟩
        | true =>
          obtain rfl : z1 = 0 := by simpa using hz
          clear hz
          go_enter Tryd.func28, Tryd.ntmps28
          go_wp2_with fail
          refine (HW0.out _).mono ?_
          rintro e w1 ⟨rfl, hB1⟩
          have HB1 := Lib.hid hB1
          have j5 := (hB1.cell (p := ⟨c, 5, none⟩) hc).trans HK.out.1
          have j6 := (hB1.cell (p := ⟨c, 6, none⟩) hc).trans HK.out.2.1
          have j7 := (hB1.cell (p := ⟨c, 7, none⟩) hc).trans HK.out.2.2.1
          have j8 := (hB1.cell (p := ⟨c, 8, none⟩) hc).trans HK.out.2.2.2
          clear hB1
          go_wp2_with fail
          refine (HW1.out _).mono ?_
          rintro e w2 ⟨rfl, hB2⟩
          have HB2 := Lib.hid (HB1.out.trans (hB2.mono HB1.out.size))
          clear hB2
          go_wp2_with fail
          go_ret
          exact ⟨by rw [HA.out]; rfl, HB2.out⟩
end
end Go.Proofs.YtlobmffcnobgeaaDoor
set_option maxRecDepth 100000
namespace Go.Proofs.YtlobmffcnobgeaaDoor
open Go.RowKit
attribute [local go_sem] Oper.semAt_some
section
variable {w w' : World} {base c room : Nat} {A : Nat → Value} {Y : Nat → WayR}
def cutR1 (y : WayR) : WayR := { y with lost := y.lost + y.waits, shut := true }
def cutR (Y : Nat → WayR) (k : Nat) : Nat → WayR := fun i => if i < k then cutR1 (Y i) else Y i
theorem cutR_succ (Y : Nat → WayR) (k : Nat) : upd (cutR Y k) k (cutR1 (Y k)) = cutR Y (k + 1) := by
  funext i; unfold upd cutR
  by_cases h : i = k
  · subst h; rw [if_pos rfl, if_pos (by omega)]
  · rw [if_neg h]
    by_cases h2 : i < k
    · rw [if_pos h2, if_pos (by omega)]
    · rw [if_neg h2, if_neg (by omega)]
theorem cutR_at (Y : Nat → WayR) (k : Nat) : cutR Y k k = Y k := by unfold cutR; rw [if_neg (by omega)]
theorem rCut_nil (w : World) : Calls Tryd.prog 25 #[.pointer none] w fun e w' => e = .returned (.tuple #[]) ∧ w' = w := by
  go_enter Tryd.func25, Tryd.ntmps25
  go_wp2_with fail
  go_end0
  exact ⟨rfl, rfl⟩
theorem rCut_fin (h : PX w base c room A Y) (i : Nat) (hi : i < 2) {w1 : World} (hb : Below w.heap.size w w1) (u : Int) (hu : u = (((Y i).lost + (Y i).waits : Nat) : Int)) :
    PX ((w1.setCell ⟨c, 4 + 4 * i, none⟩ (.int .i64 u)).setCell ⟨c, 3 + 4 * i, none⟩ (.bool true)) base c room A (upd Y i (cutR1 (Y i))) ∧ Trs [c] w ((w1.setCell ⟨c, 4 + 4 * i, none⟩ (.int .i64 u)).setCell ⟨c, 3 + 4 * i, none⟩ (.bool true)) := by
  have hp := h.below hb
  have hf := h.fit i hi
  have hw := h.waits i hi
  have ht : Trs [c] w1 ((w1.setCell ⟨c, 4 + 4 * i, none⟩ (.int .i64 u)).setCell ⟨c, 3 + 4 * i, none⟩ (.bool true)) := (((Trs.refl [c] w1).set (p := ⟨c, 4 + 4 * i, none⟩) (by simp) _)).set (by simp) _
  refine ⟨?_, (Trs.of_below hb).trans ht⟩
  refine hp.store i hi (cutR1 (Y i)) rfl ht ?_ (by unfold cutR1 WayR.waits; show (Y i).rd + ((Y i).lost + ((Y i).all.length - (Y i).rd - (Y i).lost)) ≤ (Y i).all.length; omega) (by unfold cutR1; show (Y i).all.length - (Y i).rd - ((Y i).lost + (Y i).waits) ≤ room; unfold WayR.waits at *; omega)
  have hk := ((hp.blk.set (4 + 4 * i) (.int .i64 u))).set (3 + 4 * i) (.bool true)
  rw [hu] at hk ⊢
  rcases (show i = 0 ∨ i = 1 by omega) with rfl | rfl
  · exact hk
  · exact hk
set_option maxHeartbeats 2000000 in
theorem rCut_px (h : PX w base c room A Y) :
    Calls Tryd.prog 25 #[tP c] w fun e w' => e = .returned (.tuple #[]) ∧ PX w' base c room A (cutR Y 2) ∧ Trs [c] w w' := by
  have HP := Lib.hid h; clear h
  go_enter Tryd.func25, Tryd.ntmps25
  go_wp2_with fail
  go_loopw [2, 5] (fun _ i wr => ∃ k : Nat, k ≤ 2 ∧ i = .int .i64 (k : Int) ∧ PX wr base c room A (cutR Y k) ∧ Trs [c] w wr) (fun _ i _ => 2 - (intOf i).toNat)
  case atStart => exact ⟨0, by omega, rfl, HP.out, Trs.refl _ _⟩
  case round =>
    obtain ⟨k, hk, rfl, hp, ht⟩ := hrel
    have HQ := Lib.hid hp
    have HT := Lib.hid ht
    clear hp ht
    rcases (show k = 0 ∨ k = 1 ∨ k = 2 by omega) with rfl | rfl | rfl
    · have hpb := HQ.out.blk
      have hf := HQ.out.fit 0 (by omega)
      have hbg := HQ.out.big 0 (by omega)
      obtain ⟨AA, C, hV, _, _, _, _⟩ := (HQ.out.own 0 (by omega)).sl
      have c0 : wr.cell? ⟨c, 1, none⟩ = some (A 0) := hpb.at (o := 1) rfl
      have c1 : wr.cell? ⟨c, 2, none⟩ = some (.int .i64 (((cutR Y 0 0).rd : Nat) : Int)) := hpb.at (o := 2) rfl
      have c2 : wr.cell? ⟨c, 3, none⟩ = some (.bool (cutR Y 0 0).shut) := hpb.at (o := 3) rfl
      have c3 : wr.cell? ⟨c, 4, none⟩ = some (.int .i64 (((cutR Y 0 0).lost : Nat) : Int)) := hpb.at (o := 4) rfl
      rw [hV] at c0
      have HWt := Lib.hid (fun W => rWaits_any AA (cutR Y 0 0).all.length C ((cutR Y 0 0).rd : Int) ((cutR Y 0 0).lost : Int) (cutR Y 0 0).shut W (by omega) (by omega) (by omega) hbg)
      obtain ⟨y, hy⟩ : ∃ y, y = cutR Y 0 0 := ⟨_, rfl⟩
      rw [← hy] at c0 c1 c2 c3 HWt hf hbg
      obtain ⟨K, hK⟩ : ∃ K, K = y.all.length := ⟨_, rfl⟩
      obtain ⟨r, hr⟩ : ∃ r : Int, r = (y.rd : Int) := ⟨_, rfl⟩
      obtain ⟨lo, hlo⟩ : ∃ r : Int, r = (y.lost : Int) := ⟨_, rfl⟩
      obtain ⟨z, hz⟩ : ∃ z : Int, z = (K : Int) - r - lo := ⟨_, rfl⟩
      have hu : lo + z = ((y.lost + y.waits : Nat) : Int) := by unfold WayR.waits; omega
      have hwr : IntKind.i64.wrap (lo + z) = lo + z := IntWalk.i64_in _ ⟨by omega, by omega⟩
      rw [← hK] at c0 HWt
      rw [← hr] at c1 HWt
      rw [← hlo] at c3 HWt
      rw [← hz] at HWt
      have Hu := Lib.hid hu
      have HY := Lib.hid hy
      have HF := Lib.hid (fun w1 (hb : Below wr.heap.size wr w1) => rCut_fin HQ.out 0 (by omega) hb (lo + z) (by rw [← HY.out]; exact Hu.out))
      have HLt := Lib.hid (show c < wr.heap.size from hpb.lt)
      have HFr := Lib.hid (fun w1 (hb : Below wr.heap.size wr w1) => (HQ.out.below hb).blk)
      clear hf hbg hy hK hr hlo hz hu hpb hV
      go_wp2_with fail
      go_region_law ((go_simp; go_at_call 29; refine (HWt.out _).mono ?_; rintro e w1 ⟨rfl, hB1⟩; have hb1 : Below wr.heap.size wr w1 := ⟨hB1.os, hB1.tape, hB1.output, hB1.size, hB1.block⟩; have HB1 := Lib.hid hb1; have e3 : w1.cell? ⟨c, 4, none⟩ = some (.int .i64 lo) := (hb1.cell (p := ⟨c, 4, none⟩) HLt.out).trans c3; have g3 : w1.frozen? ⟨c, 4, none⟩ = false := (HFr.out w1 hb1).free _; have e2 : w1.cell? ⟨c, 3, none⟩ = some (.bool y.shut) := (hb1.cell (p := ⟨c, 3, none⟩) HLt.out).trans c2; have g2 : w1.frozen? ⟨c, 3, none⟩ = false := (HFr.out w1 hb1).free _; clear hB1 hb1))
      all_goals
        go_wp2_with fail
        exact ⟨⟨0 + 1, by omega, rfl, by rw [← cutR_succ, ← cutR_at Y 0]; exact (HF.out w1 HB1.out).1, HT.out.trans (HF.out w1 HB1.out).2⟩, by simp [intOf]⟩
    · have hpb := HQ.out.blk
      have hf := HQ.out.fit 1 (by omega)
      have hbg := HQ.out.big 1 (by omega)
      obtain ⟨AA, C, hV, _, _, _, _⟩ := (HQ.out.own 1 (by omega)).sl
      have c0 : wr.cell? ⟨c, 5, none⟩ = some (A 1) := hpb.at (o := 5) rfl
      have c1 : wr.cell? ⟨c, 6, none⟩ = some (.int .i64 (((cutR Y 1 1).rd : Nat) : Int)) := hpb.at (o := 6) rfl
      have c2 : wr.cell? ⟨c, 7, none⟩ = some (.bool (cutR Y 1 1).shut) := hpb.at (o := 7) rfl
      have c3 : wr.cell? ⟨c, 8, none⟩ = some (.int .i64 (((cutR Y 1 1).lost : Nat) : Int)) := hpb.at (o := 8) rfl
      rw [hV] at c0
      have HWt := Lib.hid (fun W => rWaits_any AA (cutR Y 1 1).all.length C ((cutR Y 1 1).rd : Int) ((cutR Y 1 1).lost : Int) (cutR Y 1 1).shut W (by omega) (by omega) (by omega) hbg)
      obtain ⟨y, hy⟩ : ∃ y, y = cutR Y 1 1 := ⟨_, rfl⟩
      rw [← hy] at c0 c1 c2 c3 HWt hf hbg
      obtain ⟨K, hK⟩ : ∃ K, K = y.all.length := ⟨_, rfl⟩
      obtain ⟨r, hr⟩ : ∃ r : Int, r = (y.rd : Int) := ⟨_, rfl⟩
      obtain ⟨lo, hlo⟩ : ∃ r : Int, r = (y.lost : Int) := ⟨_, rfl⟩
      obtain ⟨z, hz⟩ : ∃ z : Int, z = (K : Int) - r - lo := ⟨_, rfl⟩
      have hu : lo + z = ((y.lost + y.waits : Nat) : Int) := by unfold WayR.waits; omega
      have hwr : IntKind.i64.wrap (lo + z) = lo + z := IntWalk.i64_in _ ⟨by omega, by omega⟩
      rw [← hK] at c0 HWt
      rw [← hr] at c1 HWt
      rw [← hlo] at c3 HWt
      rw [← hz] at HWt
      have Hu := Lib.hid hu
      have HY := Lib.hid hy
      have HF := Lib.hid (fun w1 (hb : Below wr.heap.size wr w1) => rCut_fin HQ.out 1 (by omega) hb (lo + z) (by rw [← HY.out]; exact Hu.out))
      have HLt := Lib.hid (show c < wr.heap.size from hpb.lt)
      have HFr := Lib.hid (fun w1 (hb : Below wr.heap.size wr w1) => (HQ.out.below hb).blk)
      clear hf hbg hy hK hr hlo hz hu hpb hV
      go_wp2_with fail
      go_region_law ((go_simp; go_at_call 29; refine (HWt.out _).mono ?_; rintro e w1 ⟨rfl, hB1⟩; have hb1 : Below wr.heap.size wr w1 := ⟨hB1.os, hB1.tape, hB1.output, hB1.size, hB1.block⟩; have HB1 := Lib.hid hb1; have e3 : w1.cell? ⟨c, 8, none⟩ = some (.int .i64 lo) := (hb1.cell (p := ⟨c, 8, none⟩) HLt.out).trans c3; have g3 : w1.frozen? ⟨c, 8, none⟩ = false := (HFr.out w1 hb1).free _; have e2 : w1.cell? ⟨c, 7, none⟩ = some (.bool y.shut) := (hb1.cell (p := ⟨c, 7, none⟩) HLt.out).trans c2; have g2 : w1.frozen? ⟨c, 7, none⟩ = false := (HFr.out w1 hb1).free _; clear hB1 hb1))
      all_goals
        go_wp2_with fail
        exact ⟨⟨1 + 1, by omega, rfl, by rw [← cutR_succ, ← cutR_at Y 1]; exact (HF.out w1 HB1.out).1, HT.out.trans (HF.out w1 HB1.out).2⟩, by simp [intOf]⟩
    · go_wp2_with fail
      go_end0
      exact ⟨rfl, HQ.out, HT.out⟩
end
end Go.Proofs.YtlobmffcnobgeaaDoor
