/- A policy that isn't there: Len, Idle. -/
import Derived.Test.YthpkmdojeegleaaGreatDoorRuWh
set_option maxRecDepth 100000
namespace Go.Proofs.YthpkmdojeegleaaGreatDoor
open Go.RowKit Go.Shelf
attribute [local go_sem] Oper.semAt_some
theorem lenN_any (w : World) : Calls Tryz.prog 12 #[.pointer none] w fun e w' => e = .returned (.int .i64 0) ∧ w = w' := by
  go_enter Tryz.func12, Tryz.ntmps12
  go_wp2_with fail
  go_ret
  exact ⟨rfl, rfl⟩
theorem wpIn_scopeR {n : Nat} {P : Program} {c : Code} {Q : Exit → Act → World → Prop} {a : Act} {w : World} (h : c.wpIn Fence.wide n P (Exit.noGoto Q) a w) : (Code.scope c).wpIn Fence.wide n P Q a w :=
  wpIn_wide.2 (wp_scope_straight (wpIn_wide.1 h))
/-- The walk's boxes. -/
structure IdB (w A : World) : Prop where
  b1 : Boxed A (w.heap.size + 1) 50 (.slice none 0 0)
  b2 : Boxed A (w.heap.size + 2) tPol (.pointer none)
  low : Below w.heap.size w A
  sz : w.heap.size + 3 ≤ A.heap.size
theorem IdB.below {w A B : World} (h : IdB w A) (hb : Below A.heap.size A B) : IdB w B :=
  ⟨(hb.block _ h.b1.lt).trans h.b1, (hb.block _ h.b2.lt).trans h.b2, h.low.trans (hb.mono h.low.size), Nat.le_trans h.sz hb.size⟩
theorem IdB.put {w A : World} {l : Nat} {o o' : Obj} (h : IdB w A) (hl : w.heap.size ≤ l) (ho : A.heap[l]? = some o) (hc : o.isCells = false) : IdB w (A.putObj l o') := by
  have hk := kc_putObj (b := 0) (o' := o') ho hc
  exact ⟨hk _ _ _ _ (Nat.zero_le _) h.b1, hk _ _ _ _ (Nat.zero_le _) h.b2,
    h.low.trans (below_own (B := w.heap.size) (Nat.le_refl _) (by have := h.sz; omega) (grownBy_putObj' A l o') (fun r e => by cases e; exact ⟨hl, o, ho, hc⟩)), by simpa [World.putObj] using h.sz⟩
set_option maxHeartbeats 2000000 in
theorem idleN_any (w : World) : Calls Tryz.prog 20 #[.pointer none] w fun e w' => e = .returned (.slice none 0 0) ∧ Below w.heap.size w w' := by
  refine (callsIn_wide (n := 10)).1 ?_
  refine callsIn_of_wp_marks Tryz.func20 rfl trivial ?_ rfl
  simp only [Tryz.ntmps20, List.size_toArray, List.length_cons, List.length_nil, Nat.reduceAdd, Nat.reduceSub, Array.replicate_succ, Array.replicate_zero, List.push_toArray, List.append_toArray, List.nil_append, List.cons_append]
  gi_wp2
  refine wpIn_scopeR ?_
  gi_wp2
  refine wpIn_label ?_
  gi_wp2
  refine ⟨trivial, (callsIn_wide.2 (rules_any none _)).mono ?_⟩
  rintro e W3 ⟨rfl, hW3⟩
  simp only [World.size_alloc, Nat.add_assoc, Nat.reduceAdd] at hW3 ⊢
  have q1 := (Boxed.new (w.alloc (.cells #[.pointer none] tPol)) 50 (.slice none 0 0)).alloc (.cells #[.pointer none] tPol)
  simp only [World.size_alloc] at q1
  have q2 := Boxed.new ((w.alloc (.cells #[.pointer none] tPol)).alloc (.cells #[.slice none 0 0] 50)) tPol (.pointer none)
  simp only [World.size_alloc, Nat.add_assoc, Nat.reduceAdd] at q2
  have q7 := (((Below.refl w.heap.size w).alloc (by simp; try omega) (.cells #[.pointer none] tPol)).alloc (by simp; try omega) (.cells #[.slice none 0 0] 50)).alloc (by simp; try omega) (.cells #[.pointer none] tPol)
  have hP : IdB w W3 := by
    rw [hW3]
    exact ⟨q1, q2, q7, by simp⟩
  clear hW3 q1 q2 q7
  have HSQ := Lib.hid (rules1_g (10 - 1) (by omega) (w.heap.size + 2) 0 none .nilIface [] (by decide) W3)
  unfold RuY at HSQ
  have HP := Lib.hid hP
  have hz3 := hP.sz
  clear hP
  gi_wp2
  refine wpIn_rangeFunc_ga rfl (by omega) (gf := gRu) (lb := #[.pointer (some ⟨w.heap.size + 2, 0, none⟩)]) rfl trivial (fun _ _ => rfl) (encs := fun x : RuL × Nat => #[.int .i64 (x.2 : Int), ragg x.1]) StL (fun _ _ => True) (fun _ pre x _ => pre ++ [x] <+: ([] : List RuL).zipIdx) (fun ys => ys = ([] : List RuL).zipIdx)
    (RuIn (w.heap.size + 2) 0 none .nilIface [])
    (fun pre A => IdB w A)
    (fun cd pre A => False)
    HSQ.out (fun pre A h => ⟨h.b2, .inl ⟨rfl, rfl⟩⟩) (fun _ => rfl)
    (fun _ _ _ _ h _ hk => h.block _ hk) (fun _ _ _ h => h.size) (fun _ _ _ _ _ => trivial) (fun _ _ _ _ _ _ _ => trivial)
    (fun pre A B h hst => h.below hst)
    (fun c pre A B h hst => h)
    (fun pre A l o o' h hl ho hc => h.put (by omega) ho hc)
    (fun c pre A l o o' h hl ho hc => h)
    (fun _ _ _ _ _ _ _ h _ _ _ => h)
    (fun W' hb hs => HP.out.below hb)
    (fun pre A B h _ hb => h.below hb)
    (fun _ _ _ _ _ h _ => h) (fun _ _ _ => trivial)
    (fun x A a' V => Below A.heap.size A V)
    (fun x A a' V h => h)
    ?assign ?body ?done ?stop
  case assign =>
    rintro k x A K hK
    have HK := Lib.hid hK; clear hK
    gi_wp2
    exact HK.out _ _ (((Below.refl _ A).alloc (Nat.le_refl _) _).alloc (by simp) _)
  case done =>
    rintro D ys A hD hz rfl hJ hK
    have c1 := hJ.b1.cell
    have HJ3 := Lib.hid (hJ.put (o' := .deferred none) (l := D) (by omega) hK rfl)
    have HK := Lib.hid hK
    clear hJ hK
    gi_wp2
    show LeavesInM _ _ _ _ _ _ _ _ _
    refine ⟨by simp, .inl ⟨_, _, rfl, run_takeDeferred HK.out, ?_⟩⟩
    exact ⟨.slice none 0 0, by simp [results, Tryz.results20, go_sem], rfl, HJ3.out.low⟩
  case stop =>
    rintro D c pre A hD hz h hK
    exact h.elim
  case body =>
    rintro k bb pre x a' A hbb hbz hJ hpre _
    exact absurd hpre (by simp)
end Go.Proofs.YthpkmdojeegleaaGreatDoor
