/- The statement PipePlays' own text, walked. -/
import Derived.Test.YtlobmffcnobgeaaDoorPdY
import Derived.Test.YtlobmffcnobgeaaDoorPnA
import Derived.Test.YtlobmffcnobgeaaDoorPsm
set_option maxRecDepth 100000
namespace Go.Proofs.YtlobmffcnobgeaaDoor
open Go.RowKit Go.Shelf
attribute [local go_sem] Oper.semAt_some
/-- Two in step, or two that are nil. -/
def Play (w0 w : World) (n : Nat) (p x : Value) : Prop :=
  Below w0.heap.size w0 w ∧ ((p = .pointer none ∧ x = .pointer none) ∨ ∃ base b c room V H X A Y, w0.heap.size ≤ base ∧ p = tP b ∧ x = tP c ∧ PB w base b c room V H X A Y ∧ RelA X Y ∧ ∀ i, i < 2 → (Y i).all.length ≤ 300 * n)
theorem Play.step {w0 w : World} {n : Nat} {p x : Value} (h : Play w0 w n p x) (hn : n ≤ 60) (dd k m st : Int) (Bv : Nat) (v : Value) (l : List UInt8) (hv : Sl w Bv v l) (hBv : Bv ≤ w0.heap.size) (hdd : 0 ≤ dd ∧ dd ≤ 255) (hst : 0 ≤ st ∧ st ≤ 255) :
    Calls Tryd.prog 8 #[p, x, .agg #[.int .u8 dd, .int .i64 k, v, .int .i64 m, .int .u8 st]] w fun e w' => e = .returned (.bool true) ∧ Play w0 w' (n + 1) p x := by
  obtain ⟨hb, ⟨rfl, rfl⟩ | ⟨base, b, c, room, V, H, X, A, Y, hge, rfl, rfl, hpb, hrel, hbig⟩⟩ := h
  · refine (nil_do dd k m st Bv v l hv (Nat.le_trans hBv hb.size) hdd hst).mono ?_
    rintro e w' ⟨rfl, hb'⟩
    exact ⟨rfl, hb.trans (hb'.mono hb.size), .inl ⟨rfl, rfl⟩⟩
  · refine (do_pb hpb hrel (fun i hi => by have := hbig i hi; omega) dd k m st Bv v l hv (Nat.le_trans hBv hge) hdd hst).mono ?_
    rintro e w' ⟨rfl, V', X', A', Y', h1, h2, h3, h4⟩
    exact ⟨rfl, hb.trans (h4.mono hge), .inr ⟨base, b, c, room, V', H, X', A', Y', hge, rfl, rfl, h1, h2, fun i hi => by have := h3 i hi; have := hbig i hi; omega⟩⟩
theorem Play.same {w0 w : World} {n : Nat} {p x : Value} (h : Play w0 w n p x) :
    Calls Tryd.prog 9 #[p, x] w fun e w' => e = .returned (.bool true) ∧ Play w0 w' n p x := by
  obtain ⟨hb, ⟨rfl, rfl⟩ | ⟨base, b, c, room, V, H, X, A, Y, hge, rfl, rfl, hpb, hrel, hbig⟩⟩ := h
  · refine (same_nil w).mono ?_
    rintro e w' ⟨rfl, hb'⟩
    exact ⟨rfl, hb.trans (hb'.mono hb.size), .inl ⟨rfl, rfl⟩⟩
  · refine (same_pb hpb hrel).mono ?_
    rintro e w' ⟨rfl, hb'⟩
    exact ⟨rfl, hb.trans (hb'.mono hb.size), .inr ⟨base, b, c, room, V, H, X, A, Y, hge, rfl, rfl, hpb.below hb', hrel, hbig⟩⟩
theorem Play.on {w0 w w' : World} {n : Nat} {p x : Value} (h : Play w0 w n p x) (hb : Below w.heap.size w w') : Play w0 w' n p x := by
  obtain ⟨hb0, h1 | ⟨base, b, c, room, V, H, X, A, Y, hge, rfl, rfl, hpb, hrel, hbig⟩⟩ := h
  · exact ⟨hb0.trans (hb.mono hb0.size), .inl h1⟩
  · exact ⟨hb0.trans (hb.mono hb0.size), .inr ⟨base, b, c, room, V, H, X, A, Y, hge, rfl, rfl, hpb.below hb, hrel, hbig⟩⟩
def rnew : WayR := ⟨[], 0, false, 0⟩
/-- The new ones. -/
theorem play_start {w0 w w' : World} {room : Nat} {b : Nat} {V : Nat → Value} {H : Nat → Nat} (hb0 : Below w0.heap.size w0 w) (base : Nat) (hge : w0.heap.size ≤ base) (hp : PP w base b room V H (fun _ => wnew)) (hw : w' = w.alloc (.cells #[.int .i64 (room : Int), .slice none 0 0, .int .i64 0, .bool false, .int .i64 0, .slice none 0 0, .int .i64 0, .bool false, .int .i64 0] 34)) :
    Play w0 w' 0 (tP b) (tP w.heap.size) := by
  have hB : Below w.heap.size w w' := by rw [hw]; exact (Below.refl _ _).alloc (Nat.le_refl _) _
  have hk : Blk w' w.heap.size (rxc room (fun _ => .slice none 0 0) (fun _ => rnew)) := by rw [hw]; exact Blk.newAt w _ _ rfl rfl
  have hS : pxS w.heap.size (fun _ => Value.slice none 0 0) = [w.heap.size] := rfl
  refine ⟨hb0.trans (hB.mono hb0.size), .inr ⟨base, b, w.heap.size, room, V, H, fun _ => wnew, fun _ => .slice none 0 0, fun _ => rnew, hge, rfl, rfl, ⟨hp.below hB, ⟨hk, fun i hi => OwnB.nil _ _, (fun i hi e => by cases e), hp.size, fun i hi => by show 0 + 0 ≤ 0; omega, fun i hi => by show 0 ≤ 400000; omega, hp.r2, fun i hi => by show 0 - 0 - 0 ≤ room; omega⟩, fun j hj hm => ?_⟩, fun i hi => rel_new, fun i hi => by show 0 ≤ _; omega⟩⟩
  rw [hS, List.mem_singleton] at hm
  have := (hp.inS j hj).2
  omega
set_option maxHeartbeats 4000000 in
theorem pipePlays_ok (B : Nat) (R : Nat) (v : Value) (ls : List OpP) (w : World) (hR1 : 1 ≤ R) (hR2 : R ≤ 4096) (hv : POps w B v ls) (hB : B ≤ w.heap.size) (hT : TabA w) :
    Calls Tryd.prog 3 #[.bool false, .int .i64 (R : Int), v] w fun e w' => e = .returned (.bool true) ∧ Below w.heap.size w w' := by
  have hG := tab_lt hT
  have HA := Lib.hid (awake22 w hT hG)
  have HV := Lib.hid hv
  have HT := Lib.hid hT; clear hT
  obtain ⟨SA, SC, rfl, hn1, hn2, _⟩ := hv
  have ho1 : 1 ≤ (R : Int) := by omega
  have ho2 : (R : Int) ≤ 4096 := by omega
  go_enter Tryd.func3, Tryd.ntmps3
  go_wp2_with fail
  refine HA.out.mono ?_
  rintro e w1 ⟨rfl, hB1⟩
  have hz1 := hB1.size
  have HB1 := Lib.hid hB1
  go_wp2_with fail
  refine (new_pp R w1 hR1 hR2 (HT.out.below hB1 hG) (by omega)).mono ?_
  rintro e w2 ⟨V, H, rfl, hP2, hB2⟩
  have HPl := Lib.hid (play_start (HB1.out.trans (hB2.mono hz1)) w1.heap.size hz1 hP2 rfl)
  clear hP2 hB2 hB1
  go_wp2_with fail
  go_loopw [11, 12, 54] (fun _ _ i wr => ∃ j : Nat, j ≤ ls.length ∧ j ≤ 50 ∧ i = .int .i64 (j : Int) ∧ Play w wr j (tP w1.heap.size) (tP w2.heap.size)) (fun _ _ i _ => ls.length - (intOf i).toNat)
  case atStart => exact ⟨0, by omega, by omega, rfl, HPl.out⟩
  case round =>
    obtain ⟨j, hj, hj5, rfl, hpl⟩ := hrel
    have HPlr := Lib.hid hpl
    have HBr := Lib.hid hpl.1
    clear hpl
    by_cases hlt : j < ls.length
    · have hlt' : (j : Int) < (ls.length : Int) := by omega
      obtain ⟨A2, C2, hv2, _, _, hx⟩ := HV.out
      injection hv2 with hv21 hv22 hv23
      subst hv21; subst hv23
      obtain ⟨sb, so, rfl, hsb, hx⟩ := hx (by omega)
      obtain ⟨hc0, hok, hsl0⟩ := hx j hlt
      have hc : ∀ k v, (opC ls[j])[k]? = some v → wr.cell? ⟨sb, so + j * 5 + k, none⟩ = some v := fun k v hv => (HBr.out.cell (p := ⟨sb, so + j * 5 + k, none⟩) (by show sb < w.heap.size; omega)).trans (hc0 k v hv)
      clear hc0
      obtain ⟨o, ho⟩ : ∃ o, o = ls[j] := ⟨_, rfl⟩
      rw [← ho] at hc hok hsl0
      clear hx ho hv22
      obtain ⟨dd, k, vv, l, m, st⟩ := o
      have hdd := hok.d
      have hst := hok.st
      simp only at hdd hst hsl0
      have k0 := hc 0 _ rfl
      have k1 := hc 1 _ rfl
      have k2 := hc 2 _ rfl
      have k3 := hc 3 _ rfl
      have k4 := hc 4 _ rfl
      rw [Nat.add_zero] at k0
      have HST := Lib.hid (fun W (h : Play w W j (tP w1.heap.size) (tP w2.heap.size)) => h.step (by omega) dd k m st B vv l (hsl0.below h.1 hB) hB hdd hst)
      obtain ⟨VA, VC, rfl, _, _, _, _⟩ := id hsl0
      clear hc hok hsl0 hdd hst
      by_cases hj50 : j < 50
      · have hlt5 : ¬ (50 : Int) ≤ (j : Int) := by omega
        go_wp2_with fail
        refine (HST.out _ (HPlr.out.on ((Below.refl _ _).alloc (Nat.le_refl _) _))).mono ?_
        rintro e w5 ⟨rfl, hpl5⟩
        have HP5 := Lib.hid hpl5
        clear hpl5
        go_wp2_with fail
        refine HP5.out.same.mono ?_
        rintro e w6 ⟨rfl, hpl6⟩
        have HP6 := Lib.hid hpl6
        clear hpl6
        go_wp2_with fail
        exact ⟨⟨j + 1, by omega, by omega, by go_num, HP6.out⟩, by simp [intOf]; omega⟩
      · have hlt5 : (50 : Int) ≤ (j : Int) := by omega
        have HBo := Lib.hid (fun (o : Obj) => HBr.out.alloc HBr.out.size o)
        go_wp2_with fail
        go_ret
        exact ⟨rfl, HBo.out _⟩
    · obtain rfl : j = ls.length := by omega
      go_wp2_with fail
      go_ret
      exact ⟨rfl, HBr.out⟩
set_option maxHeartbeats 4000000 in
theorem pipePlays_none (B : Nat) (R : Nat) (v : Value) (ls : List OpP) (w : World) (hR1 : 1 ≤ R) (hR2 : R ≤ 4096) (hv : POps w B v ls) (hB : B ≤ w.heap.size) (hT : TabA w) :
    Calls Tryd.prog 3 #[.bool true, .int .i64 (R : Int), v] w fun e w' => e = .returned (.bool true) ∧ Below w.heap.size w w' := by
  have hG := tab_lt hT
  have HA := Lib.hid (awake22 w hT hG)
  have HV := Lib.hid hv
  have HT := Lib.hid hT; clear hT
  obtain ⟨SA, SC, rfl, hn1, hn2, _⟩ := hv
  have ho1 : 1 ≤ (R : Int) := by omega
  have ho2 : (R : Int) ≤ 4096 := by omega
  go_enter Tryd.func3, Tryd.ntmps3
  go_wp2_with fail
  refine HA.out.mono ?_
  rintro e w1 ⟨rfl, hB1⟩
  have hz1 := hB1.size
  have HB1 := Lib.hid hB1
  go_wp2_with fail
  refine (new_pp R w1 hR1 hR2 (HT.out.below hB1 hG) (by omega)).mono ?_
  rintro e w2 ⟨V, H, rfl, hP2, hB2⟩
  have hbb := HB1.out.trans (hB2.mono hz1)
  have HPl0 := Lib.hid (show ∀ o, Play w (w2.alloc o) 0 (.pointer none) (.pointer none) from fun o => ⟨hbb.alloc hbb.size o, .inl ⟨rfl, rfl⟩⟩)
  clear hbb
  clear hP2 hB2 hB1
  go_wp2_with fail
  have HPl := Lib.hid (HPl0.out (.cells #[.int .i64 (R : Int), .slice none 0 0, .int .i64 0, .bool false, .int .i64 0, .slice none 0 0, .int .i64 0, .bool false, .int .i64 0] 34))
  go_loopw [11, 12, 54] (fun _ _ i wr => ∃ j : Nat, j ≤ ls.length ∧ j ≤ 50 ∧ i = .int .i64 (j : Int) ∧ Play w wr j (.pointer none) (.pointer none)) (fun _ _ i _ => ls.length - (intOf i).toNat)
  case atStart => exact ⟨0, by omega, by omega, rfl, HPl.out⟩
  case round =>
    obtain ⟨j, hj, hj5, rfl, hpl⟩ := hrel
    have HPlr := Lib.hid hpl
    have HBr := Lib.hid hpl.1
    clear hpl
    by_cases hlt : j < ls.length
    · have hlt' : (j : Int) < (ls.length : Int) := by omega
      obtain ⟨A2, C2, hv2, _, _, hx⟩ := HV.out
      injection hv2 with hv21 hv22 hv23
      subst hv21; subst hv23
      obtain ⟨sb, so, rfl, hsb, hx⟩ := hx (by omega)
      obtain ⟨hc0, hok, hsl0⟩ := hx j hlt
      have hc : ∀ k v, (opC ls[j])[k]? = some v → wr.cell? ⟨sb, so + j * 5 + k, none⟩ = some v := fun k v hv => (HBr.out.cell (p := ⟨sb, so + j * 5 + k, none⟩) (by show sb < w.heap.size; omega)).trans (hc0 k v hv)
      clear hc0
      obtain ⟨o, ho⟩ : ∃ o, o = ls[j] := ⟨_, rfl⟩
      rw [← ho] at hc hok hsl0
      clear hx ho hv22
      obtain ⟨dd, k, vv, l, m, st⟩ := o
      have hdd := hok.d
      have hst := hok.st
      simp only at hdd hst hsl0
      have k0 := hc 0 _ rfl
      have k1 := hc 1 _ rfl
      have k2 := hc 2 _ rfl
      have k3 := hc 3 _ rfl
      have k4 := hc 4 _ rfl
      rw [Nat.add_zero] at k0
      have HST := Lib.hid (fun W (h : Play w W j (.pointer none) (.pointer none)) => h.step (by omega) dd k m st B vv l (hsl0.below h.1 hB) hB hdd hst)
      obtain ⟨VA, VC, rfl, _, _, _, _⟩ := id hsl0
      clear hc hok hsl0 hdd hst
      by_cases hj50 : j < 50
      · have hlt5 : ¬ (50 : Int) ≤ (j : Int) := by omega
        go_wp2_with fail
        refine (HST.out _ (HPlr.out.on ((Below.refl _ _).alloc (Nat.le_refl _) _))).mono ?_
        rintro e w5 ⟨rfl, hpl5⟩
        have HP5 := Lib.hid hpl5
        clear hpl5
        go_wp2_with fail
        refine HP5.out.same.mono ?_
        rintro e w6 ⟨rfl, hpl6⟩
        have HP6 := Lib.hid hpl6
        clear hpl6
        go_wp2_with fail
        exact ⟨⟨j + 1, by omega, by omega, by go_num, HP6.out⟩, by simp [intOf]; omega⟩
      · have hlt5 : (50 : Int) ≤ (j : Int) := by omega
        have HBo := Lib.hid (fun (o : Obj) => HBr.out.alloc HBr.out.size o)
        go_wp2_with fail
        go_ret
        exact ⟨rfl, HBo.out _⟩
    · obtain rfl : j = ls.length := by omega
      go_wp2_with fail
      go_ret
      exact ⟨rfl, HBr.out⟩
set_option maxHeartbeats 4000000 in
theorem pipePlays_lof (B : Nat) (room : Int) (v : Value) (ls : List OpP) (w : World) (hr : room < 1) (hv : POps w B v ls) (hB : B ≤ w.heap.size) (hT : TabA w) :
    Calls Tryd.prog 3 #[.bool false, .int .i64 room, v] w fun e w' => e = .returned (.bool true) ∧ Below w.heap.size w w' := by
  have hG := tab_lt hT
  have HA := Lib.hid (awake22 w hT hG)
  have HV := Lib.hid hv
  have HNb := Lib.hid (fun W => new_bad room (by omega) W)
  clear hT
  obtain ⟨SA, SC, rfl, hn1, hn2, _⟩ := hv
  have hr0 : ¬ 1 ≤ room := by omega
  go_enter Tryd.func3, Tryd.ntmps3
  go_wp2_with fail
  refine HA.out.mono ?_
  rintro e w1 ⟨rfl, hB1⟩
  have HPl0 := Lib.hid (show ∀ o, Play w (w1.alloc o) 0 (.pointer none) (.pointer none) from fun o => ⟨hB1.alloc hB1.size o, .inl ⟨rfl, rfl⟩⟩)
  clear hB1
  go_wp2_with fail
  refine (HNb.out w1).mono ?_
  rintro e w2 ⟨rfl, rfl⟩
  go_wp2_with fail
  have HPl := Lib.hid (HPl0.out (.cells #[.int .i64 room, .slice none 0 0, .int .i64 0, .bool false, .int .i64 0, .slice none 0 0, .int .i64 0, .bool false, .int .i64 0] 34))
  go_loopw [11, 12, 54] (fun _ _ i wr => ∃ j : Nat, j ≤ ls.length ∧ j ≤ 50 ∧ i = .int .i64 (j : Int) ∧ Play w wr j (.pointer none) (.pointer none)) (fun _ _ i _ => ls.length - (intOf i).toNat)
  case atStart => exact ⟨0, by omega, by omega, rfl, HPl.out⟩
  case round =>
    obtain ⟨j, hj, hj5, rfl, hpl⟩ := hrel
    have HPlr := Lib.hid hpl
    have HBr := Lib.hid hpl.1
    clear hpl
    by_cases hlt : j < ls.length
    · have hlt' : (j : Int) < (ls.length : Int) := by omega
      obtain ⟨A2, C2, hv2, _, _, hx⟩ := HV.out
      injection hv2 with hv21 hv22 hv23
      subst hv21; subst hv23
      obtain ⟨sb, so, rfl, hsb, hx⟩ := hx (by omega)
      obtain ⟨hc0, hok, hsl0⟩ := hx j hlt
      have hc : ∀ k v, (opC ls[j])[k]? = some v → wr.cell? ⟨sb, so + j * 5 + k, none⟩ = some v := fun k v hv => (HBr.out.cell (p := ⟨sb, so + j * 5 + k, none⟩) (by show sb < w.heap.size; omega)).trans (hc0 k v hv)
      clear hc0
      obtain ⟨o, ho⟩ : ∃ o, o = ls[j] := ⟨_, rfl⟩
      rw [← ho] at hc hok hsl0
      clear hx ho hv22
      obtain ⟨dd, k, vv, l, m, st⟩ := o
      have hdd := hok.d
      have hst := hok.st
      simp only at hdd hst hsl0
      have k0 := hc 0 _ rfl
      have k1 := hc 1 _ rfl
      have k2 := hc 2 _ rfl
      have k3 := hc 3 _ rfl
      have k4 := hc 4 _ rfl
      rw [Nat.add_zero] at k0
      have HST := Lib.hid (fun W (h : Play w W j (.pointer none) (.pointer none)) => h.step (by omega) dd k m st B vv l (hsl0.below h.1 hB) hB hdd hst)
      obtain ⟨VA, VC, rfl, _, _, _, _⟩ := id hsl0
      clear hc hok hsl0 hdd hst
      by_cases hj50 : j < 50
      · have hlt5 : ¬ (50 : Int) ≤ (j : Int) := by omega
        go_wp2_with fail
        refine (HST.out _ (HPlr.out.on ((Below.refl _ _).alloc (Nat.le_refl _) _))).mono ?_
        rintro e w5 ⟨rfl, hpl5⟩
        have HP5 := Lib.hid hpl5
        clear hpl5
        go_wp2_with fail
        refine HP5.out.same.mono ?_
        rintro e w6 ⟨rfl, hpl6⟩
        have HP6 := Lib.hid hpl6
        clear hpl6
        go_wp2_with fail
        exact ⟨⟨j + 1, by omega, by omega, by go_num, HP6.out⟩, by simp [intOf]; omega⟩
      · have hlt5 : (50 : Int) ≤ (j : Int) := by omega
        have HBo := Lib.hid (fun (o : Obj) => HBr.out.alloc HBr.out.size o)
        go_wp2_with fail
        go_ret
        exact ⟨rfl, HBo.out _⟩
    · obtain rfl : j = ls.length := by omega
      go_wp2_with fail
      go_ret
      exact ⟨rfl, HBr.out⟩
set_option maxHeartbeats 4000000 in
theorem pipePlays_hif (B : Nat) (room : Int) (v : Value) (ls : List OpP) (w : World) (hr : 4096 < room) (hv : POps w B v ls) (hB : B ≤ w.heap.size) (hT : TabA w) :
    Calls Tryd.prog 3 #[.bool false, .int .i64 room, v] w fun e w' => e = .returned (.bool true) ∧ Below w.heap.size w w' := by
  have hG := tab_lt hT
  have HA := Lib.hid (awake22 w hT hG)
  have HV := Lib.hid hv
  have HNb := Lib.hid (fun W => new_bad room (by omega) W)
  clear hT
  obtain ⟨SA, SC, rfl, hn1, hn2, _⟩ := hv
  have hr0 : 1 ≤ room := by omega
  have hr1 : ¬ room ≤ 4096 := by omega
  have hd1 : decide (room ≤ 4096) = false := decide_eq_false hr1
  go_enter Tryd.func3, Tryd.ntmps3
  go_wp2_with fail
  refine HA.out.mono ?_
  rintro e w1 ⟨rfl, hB1⟩
  have HPl0 := Lib.hid (show ∀ o, Play w (w1.alloc o) 0 (.pointer none) (.pointer none) from fun o => ⟨hB1.alloc hB1.size o, .inl ⟨rfl, rfl⟩⟩)
  clear hB1
  go_wp2_with fail
  refine (HNb.out w1).mono ?_
  rintro e w2 ⟨rfl, rfl⟩
  go_wp2_with fail
  have HPl := Lib.hid (HPl0.out (.cells #[.int .i64 room, .slice none 0 0, .int .i64 0, .bool false, .int .i64 0, .slice none 0 0, .int .i64 0, .bool false, .int .i64 0] 34))
  go_loopw [11, 12, 54] (fun _ _ i wr => ∃ j : Nat, j ≤ ls.length ∧ j ≤ 50 ∧ i = .int .i64 (j : Int) ∧ Play w wr j (.pointer none) (.pointer none)) (fun _ _ i _ => ls.length - (intOf i).toNat)
  case atStart => exact ⟨0, by omega, by omega, rfl, HPl.out⟩
  case round =>
    obtain ⟨j, hj, hj5, rfl, hpl⟩ := hrel
    have HPlr := Lib.hid hpl
    have HBr := Lib.hid hpl.1
    clear hpl
    by_cases hlt : j < ls.length
    · have hlt' : (j : Int) < (ls.length : Int) := by omega
      obtain ⟨A2, C2, hv2, _, _, hx⟩ := HV.out
      injection hv2 with hv21 hv22 hv23
      subst hv21; subst hv23
      obtain ⟨sb, so, rfl, hsb, hx⟩ := hx (by omega)
      obtain ⟨hc0, hok, hsl0⟩ := hx j hlt
      have hc : ∀ k v, (opC ls[j])[k]? = some v → wr.cell? ⟨sb, so + j * 5 + k, none⟩ = some v := fun k v hv => (HBr.out.cell (p := ⟨sb, so + j * 5 + k, none⟩) (by show sb < w.heap.size; omega)).trans (hc0 k v hv)
      clear hc0
      obtain ⟨o, ho⟩ : ∃ o, o = ls[j] := ⟨_, rfl⟩
      rw [← ho] at hc hok hsl0
      clear hx ho hv22
      obtain ⟨dd, k, vv, l, m, st⟩ := o
      have hdd := hok.d
      have hst := hok.st
      simp only at hdd hst hsl0
      have k0 := hc 0 _ rfl
      have k1 := hc 1 _ rfl
      have k2 := hc 2 _ rfl
      have k3 := hc 3 _ rfl
      have k4 := hc 4 _ rfl
      rw [Nat.add_zero] at k0
      have HST := Lib.hid (fun W (h : Play w W j (.pointer none) (.pointer none)) => h.step (by omega) dd k m st B vv l (hsl0.below h.1 hB) hB hdd hst)
      obtain ⟨VA, VC, rfl, _, _, _, _⟩ := id hsl0
      clear hc hok hsl0 hdd hst
      by_cases hj50 : j < 50
      · have hlt5 : ¬ (50 : Int) ≤ (j : Int) := by omega
        go_wp2_with fail
        refine (HST.out _ (HPlr.out.on ((Below.refl _ _).alloc (Nat.le_refl _) _))).mono ?_
        rintro e w5 ⟨rfl, hpl5⟩
        have HP5 := Lib.hid hpl5
        clear hpl5
        go_wp2_with fail
        refine HP5.out.same.mono ?_
        rintro e w6 ⟨rfl, hpl6⟩
        have HP6 := Lib.hid hpl6
        clear hpl6
        go_wp2_with fail
        exact ⟨⟨j + 1, by omega, by omega, by go_num, HP6.out⟩, by simp [intOf]; omega⟩
      · have hlt5 : (50 : Int) ≤ (j : Int) := by omega
        have HBo := Lib.hid (fun (o : Obj) => HBr.out.alloc HBr.out.size o)
        go_wp2_with fail
        go_ret
        exact ⟨rfl, HBo.out _⟩
    · obtain rfl : j = ls.length := by omega
      go_wp2_with fail
      go_ret
      exact ⟨rfl, HBr.out⟩
set_option maxHeartbeats 4000000 in
theorem pipePlays_lot (B : Nat) (room : Int) (v : Value) (ls : List OpP) (w : World) (hr : room < 1) (hv : POps w B v ls) (hB : B ≤ w.heap.size) (hT : TabA w) :
    Calls Tryd.prog 3 #[.bool true, .int .i64 room, v] w fun e w' => e = .returned (.bool true) ∧ Below w.heap.size w w' := by
  have hG := tab_lt hT
  have HA := Lib.hid (awake22 w hT hG)
  have HV := Lib.hid hv
  have HNb := Lib.hid (fun W => new_bad room (by omega) W)
  clear hT
  obtain ⟨SA, SC, rfl, hn1, hn2, _⟩ := hv
  have hr0 : ¬ 1 ≤ room := by omega
  go_enter Tryd.func3, Tryd.ntmps3
  go_wp2_with fail
  refine HA.out.mono ?_
  rintro e w1 ⟨rfl, hB1⟩
  have HPl0 := Lib.hid (show ∀ o, Play w (w1.alloc o) 0 (.pointer none) (.pointer none) from fun o => ⟨hB1.alloc hB1.size o, .inl ⟨rfl, rfl⟩⟩)
  clear hB1
  go_wp2_with fail
  refine (HNb.out w1).mono ?_
  rintro e w2 ⟨rfl, rfl⟩
  go_wp2_with fail
  have HPl := Lib.hid (HPl0.out (.cells #[.int .i64 room, .slice none 0 0, .int .i64 0, .bool false, .int .i64 0, .slice none 0 0, .int .i64 0, .bool false, .int .i64 0] 34))
  go_loopw [11, 12, 54] (fun _ _ i wr => ∃ j : Nat, j ≤ ls.length ∧ j ≤ 50 ∧ i = .int .i64 (j : Int) ∧ Play w wr j (.pointer none) (.pointer none)) (fun _ _ i _ => ls.length - (intOf i).toNat)
  case atStart => exact ⟨0, by omega, by omega, rfl, HPl.out⟩
  case round =>
    obtain ⟨j, hj, hj5, rfl, hpl⟩ := hrel
    have HPlr := Lib.hid hpl
    have HBr := Lib.hid hpl.1
    clear hpl
    by_cases hlt : j < ls.length
    · have hlt' : (j : Int) < (ls.length : Int) := by omega
      obtain ⟨A2, C2, hv2, _, _, hx⟩ := HV.out
      injection hv2 with hv21 hv22 hv23
      subst hv21; subst hv23
      obtain ⟨sb, so, rfl, hsb, hx⟩ := hx (by omega)
      obtain ⟨hc0, hok, hsl0⟩ := hx j hlt
      have hc : ∀ k v, (opC ls[j])[k]? = some v → wr.cell? ⟨sb, so + j * 5 + k, none⟩ = some v := fun k v hv => (HBr.out.cell (p := ⟨sb, so + j * 5 + k, none⟩) (by show sb < w.heap.size; omega)).trans (hc0 k v hv)
      clear hc0
      obtain ⟨o, ho⟩ : ∃ o, o = ls[j] := ⟨_, rfl⟩
      rw [← ho] at hc hok hsl0
      clear hx ho hv22
      obtain ⟨dd, k, vv, l, m, st⟩ := o
      have hdd := hok.d
      have hst := hok.st
      simp only at hdd hst hsl0
      have k0 := hc 0 _ rfl
      have k1 := hc 1 _ rfl
      have k2 := hc 2 _ rfl
      have k3 := hc 3 _ rfl
      have k4 := hc 4 _ rfl
      rw [Nat.add_zero] at k0
      have HST := Lib.hid (fun W (h : Play w W j (.pointer none) (.pointer none)) => h.step (by omega) dd k m st B vv l (hsl0.below h.1 hB) hB hdd hst)
      obtain ⟨VA, VC, rfl, _, _, _, _⟩ := id hsl0
      clear hc hok hsl0 hdd hst
      by_cases hj50 : j < 50
      · have hlt5 : ¬ (50 : Int) ≤ (j : Int) := by omega
        go_wp2_with fail
        refine (HST.out _ (HPlr.out.on ((Below.refl _ _).alloc (Nat.le_refl _) _))).mono ?_
        rintro e w5 ⟨rfl, hpl5⟩
        have HP5 := Lib.hid hpl5
        clear hpl5
        go_wp2_with fail
        refine HP5.out.same.mono ?_
        rintro e w6 ⟨rfl, hpl6⟩
        have HP6 := Lib.hid hpl6
        clear hpl6
        go_wp2_with fail
        exact ⟨⟨j + 1, by omega, by omega, by go_num, HP6.out⟩, by simp [intOf]; omega⟩
      · have hlt5 : (50 : Int) ≤ (j : Int) := by omega
        have HBo := Lib.hid (fun (o : Obj) => HBr.out.alloc HBr.out.size o)
        go_wp2_with fail
        go_ret
        exact ⟨rfl, HBo.out _⟩
    · obtain rfl : j = ls.length := by omega
      go_wp2_with fail
      go_ret
      exact ⟨rfl, HBr.out⟩
set_option maxHeartbeats 4000000 in
theorem pipePlays_hit (B : Nat) (room : Int) (v : Value) (ls : List OpP) (w : World) (hr : 4096 < room) (hv : POps w B v ls) (hB : B ≤ w.heap.size) (hT : TabA w) :
    Calls Tryd.prog 3 #[.bool true, .int .i64 room, v] w fun e w' => e = .returned (.bool true) ∧ Below w.heap.size w w' := by
  have hG := tab_lt hT
  have HA := Lib.hid (awake22 w hT hG)
  have HV := Lib.hid hv
  have HNb := Lib.hid (fun W => new_bad room (by omega) W)
  clear hT
  obtain ⟨SA, SC, rfl, hn1, hn2, _⟩ := hv
  have hr0 : 1 ≤ room := by omega
  have hr1 : ¬ room ≤ 4096 := by omega
  have hd1 : decide (room ≤ 4096) = false := decide_eq_false hr1
  go_enter Tryd.func3, Tryd.ntmps3
  go_wp2_with fail
  refine HA.out.mono ?_
  rintro e w1 ⟨rfl, hB1⟩
  have HPl0 := Lib.hid (show ∀ o, Play w (w1.alloc o) 0 (.pointer none) (.pointer none) from fun o => ⟨hB1.alloc hB1.size o, .inl ⟨rfl, rfl⟩⟩)
  clear hB1
  go_wp2_with fail
  refine (HNb.out w1).mono ?_
  rintro e w2 ⟨rfl, rfl⟩
  go_wp2_with fail
  have HPl := Lib.hid (HPl0.out (.cells #[.int .i64 room, .slice none 0 0, .int .i64 0, .bool false, .int .i64 0, .slice none 0 0, .int .i64 0, .bool false, .int .i64 0] 34))
  go_loopw [11, 12, 54] (fun _ _ i wr => ∃ j : Nat, j ≤ ls.length ∧ j ≤ 50 ∧ i = .int .i64 (j : Int) ∧ Play w wr j (.pointer none) (.pointer none)) (fun _ _ i _ => ls.length - (intOf i).toNat)
  case atStart => exact ⟨0, by omega, by omega, rfl, HPl.out⟩
  case round =>
    obtain ⟨j, hj, hj5, rfl, hpl⟩ := hrel
    have HPlr := Lib.hid hpl
    have HBr := Lib.hid hpl.1
    clear hpl
    by_cases hlt : j < ls.length
    · have hlt' : (j : Int) < (ls.length : Int) := by omega
      obtain ⟨A2, C2, hv2, _, _, hx⟩ := HV.out
      injection hv2 with hv21 hv22 hv23
      subst hv21; subst hv23
      obtain ⟨sb, so, rfl, hsb, hx⟩ := hx (by omega)
      obtain ⟨hc0, hok, hsl0⟩ := hx j hlt
      have hc : ∀ k v, (opC ls[j])[k]? = some v → wr.cell? ⟨sb, so + j * 5 + k, none⟩ = some v := fun k v hv => (HBr.out.cell (p := ⟨sb, so + j * 5 + k, none⟩) (by show sb < w.heap.size; omega)).trans (hc0 k v hv)
      clear hc0
      obtain ⟨o, ho⟩ : ∃ o, o = ls[j] := ⟨_, rfl⟩
      rw [← ho] at hc hok hsl0
      clear hx ho hv22
      obtain ⟨dd, k, vv, l, m, st⟩ := o
      have hdd := hok.d
      have hst := hok.st
      simp only at hdd hst hsl0
      have k0 := hc 0 _ rfl
      have k1 := hc 1 _ rfl
      have k2 := hc 2 _ rfl
      have k3 := hc 3 _ rfl
      have k4 := hc 4 _ rfl
      rw [Nat.add_zero] at k0
      have HST := Lib.hid (fun W (h : Play w W j (.pointer none) (.pointer none)) => h.step (by omega) dd k m st B vv l (hsl0.below h.1 hB) hB hdd hst)
      obtain ⟨VA, VC, rfl, _, _, _, _⟩ := id hsl0
      clear hc hok hsl0 hdd hst
      by_cases hj50 : j < 50
      · have hlt5 : ¬ (50 : Int) ≤ (j : Int) := by omega
        go_wp2_with fail
        refine (HST.out _ (HPlr.out.on ((Below.refl _ _).alloc (Nat.le_refl _) _))).mono ?_
        rintro e w5 ⟨rfl, hpl5⟩
        have HP5 := Lib.hid hpl5
        clear hpl5
        go_wp2_with fail
        refine HP5.out.same.mono ?_
        rintro e w6 ⟨rfl, hpl6⟩
        have HP6 := Lib.hid hpl6
        clear hpl6
        go_wp2_with fail
        exact ⟨⟨j + 1, by omega, by omega, by go_num, HP6.out⟩, by simp [intOf]; omega⟩
      · have hlt5 : (50 : Int) ≤ (j : Int) := by omega
        have HBo := Lib.hid (fun (o : Obj) => HBr.out.alloc HBr.out.size o)
        go_wp2_with fail
        go_ret
        exact ⟨rfl, HBo.out _⟩
    · obtain rfl : j = ls.length := by omega
      go_wp2_with fail
      go_ret
      exact ⟨rfl, HBr.out⟩
theorem pipePlays_law (B : Nat) (none' : Bool) (room : Int) (v : Value) (ls : List OpP) (w : World) (_ : (Lit.int .i64 room).wf = true) (hv : POps w B v ls) (hB : B ≤ w.heap.size) (hT : TabA w) :
    Calls Tryd.prog 3 #[.bool none', .int .i64 room, v] w fun e w' => e = .returned (.bool true) ∧ Below w.heap.size w w' := by
  by_cases h1 : room < 1
  · cases none' with
    | false => exact pipePlays_lof B room v ls w h1 hv hB hT
    | true => exact pipePlays_lot B room v ls w h1 hv hB hT
  · by_cases h2 : 4096 < room
    · cases none' with
      | false => exact pipePlays_hif B room v ls w h2 hv hB hT
      | true => exact pipePlays_hit B room v ls w h2 hv hB hT
    · obtain ⟨R, rfl⟩ := Int.eq_ofNat_of_zero_le (show 0 ≤ room by omega)
      cases none' with
      | false => exact pipePlays_ok B R v ls w (by omega) (by omega) hv hB hT
      | true => exact pipePlays_none B R v ls w (by omega) (by omega) hv hB hT
end Go.Proofs.YtlobmffcnobgeaaDoor
