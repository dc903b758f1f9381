/- trace: slices.Collect over an iterator of a nil Trace. trace: Of over one kind: its copy of the kinds, its closure. trace: the law of a nil Trace. trace: the law of a nil Trace, for the card. -/
import Derived.Test.YtockimgedckheaaDoorTvB
import Derived.Test.YtockimgedckheaaDoorRangeOw
import Derived.Lib.Hide
import Derived.Test.YtockimgedckheaaDoorOwnT
import Derived.Test.YtockimgedckheaaDoorKc
import Derived.Test.YtockimgedckheaaDoorTvLd
set_option maxRecDepth 100000
namespace Go.Proofs.YtockimgedckheaaDoor
open Go Go.RowKit
attribute [local go_sem] Oper.semAt_some
set_option maxHeartbeats 1000000 in
theorem thSeq_nil (d : Nat) (hd : 1 ≤ d) (b : Nat) (w : World) :
    SeqOw Fence.wide d Tryd.prog 32 #[.pointer (some ⟨b, 0, none⟩), .pointer (some ⟨b + 1, 0, none⟩)] (Empty.elim : Empty → Array Value) (fun _ _ _ _ => False) (fun xs => xs = []) (fun A => A.cell? ⟨b, 0, none⟩ = some (.pointer none)) w := by
  intro l J Jx W hB hIn hJb hY hJ0
  have hc := hIn _ _ hJ0
  have HJ0 := Lib.hid hJ0
  clear hIn hJb hY hJ0 hB
  obtain ⟨d', rfl⟩ : ∃ d', d = d' + 1 := ⟨d - 1, by omega⟩
  refine callsIn_of_wp Tryd.func32 rfl trivial ?_ rfl
  simp only [Tryd.ntmps32, List.size_toArray, List.length_cons, List.length_nil, Nat.reduceAdd, Nat.reduceSub, Array.replicate_succ, Array.replicate_zero, List.push_toArray, List.append_toArray, List.nil_append, List.cons_append]
  gi_wp2
  refine bodyPost_ret (v := .tuple #[]) (by simp [results, Tryd.results32, go_sem]) rfl ?_
  exact ⟨⟨_, rfl⟩, .inl HJ0.out⟩
set_option maxHeartbeats 2000000 in
theorem appSeq_nil (b : Nat) (w : World) (hc : w.cell? ⟨b, 0, none⟩ = some (.pointer none)) :
    CallsIn Fence.wide 10 Tryd.prog 19 #[.slice none 0 0, thV b] w fun e w' => e = .returned (.slice none 0 0) ∧ Below w.heap.size w w' := by
  refine callsIn_of_wp_marks Tryd.func19 rfl trivial ?_ rfl
  simp only [Tryd.ntmps19, List.size_toArray, List.length_cons, List.length_nil, Nat.reduceAdd, Nat.reduceSub, Array.replicate_succ, Array.replicate_zero, List.push_toArray, List.append_toArray, List.nil_append, List.cons_append]
  gi_wp2
  obtain ⟨W3, hW3⟩ : ∃ W3, W3 = w.alloc (.cells #[.slice none 0 0] 34) := ⟨_, rfl⟩
  have hB3 : Below w.heap.size w W3 := by rw [hW3]; exact (Below.refl _ w).alloc (Nat.le_refl _) _
  have hz3 : W3.heap.size = w.heap.size + 1 := by rw [hW3]; simp
  have hK3 : Blk W3 w.heap.size [.slice none 0 0] := by rw [hW3]; exact Blk.new w _ _
  rw [← hW3]
  have hbw : b < w.heap.size := World.block_lt_of_cell? w ⟨b, 0, none⟩ hc
  have HB3 := Lib.hid hB3
  have HK3 := Lib.hid hK3
  have HC := Lib.hid hc
  clear hW3 hB3 hK3 hc
  refine wpIn_rangeFunc_ow rfl (by omega) (gf := 32) (lb := #[.pointer (some ⟨b, 0, none⟩), .pointer (some ⟨b + 1, 0, none⟩)]) rfl trivial (fun _ _ => rfl) (encs := (Empty.elim : Empty → Array Value)) (fun _ _ _ _ => False) (fun xs => xs = []) (fun A => A.cell? ⟨b, 0, none⟩ = some (.pointer none))
    (fun _ A => Below w.heap.size w A ∧ Blk A w.heap.size [.slice none 0 0]) (fun _ _ _ => False)
    (thSeq_nil _ (by omega) b _) (fun pre A h => by rw [h.1.cell (p := ⟨b, 0, none⟩) hbw]; exact HC.out) (fun x => x.elim)
    (fun pre A B h hz hb => ⟨h.1.trans (hb.mono (by omega)), h.2.below hb (by omega)⟩) (fun c pre A B h _ _ => h)
    (fun b pre x A B h _ => h) ⟨HB3.out, HK3.out⟩ (fun x _ => x.elim) (fun l x => x.elim) (fun l b pre x => x.elim) ?_ (fun _ _ _ _ _ _ h _ => h.elim)
  rintro D xs A hD hz rfl ⟨hB, hK⟩ hd
  have c4 := hK.at (o := 0) rfl
  have HB := Lib.hid hB
  clear hB hK
  gi_wp2
  show LeavesInM _ _ _ _ _ _ _ _ _
  refine ⟨by simp, .inl ⟨_, _, rfl, run_takeDeferred hd, ?_⟩⟩
  exact ⟨_, results_tmp (t := 4) rfl _ _ _, rfl, below_putObj HB.out (by omega) (by omega)⟩
set_option maxHeartbeats 1000000 in
theorem collect_nil (b : Nat) (w : World) (hc : w.cell? ⟨b, 0, none⟩ = some (.pointer none)) :
    Calls Tryd.prog 11 #[thV b] w fun e w' => e = .returned (.slice none 0 0) ∧ Below w.heap.size w w' := by
  refine (callsIn_wide (n := 11)).1 ?_
  refine callsIn_of_wp Tryd.func11 rfl trivial ?_ rfl
  simp only [Tryd.ntmps11, List.size_toArray, List.length_cons, List.length_nil, Nat.reduceAdd, Nat.reduceSub, Array.replicate_succ, Array.replicate_zero, List.push_toArray, List.append_toArray, List.nil_append, List.cons_append]
  gi_wp2
  refine ⟨trivial, (appSeq_nil b w hc).mono ?_⟩
  rintro e w' ⟨rfl, hb⟩
  gi_wp2
  go_ret
  exact ⟨rfl, hb⟩
end Go.Proofs.YtockimgedckheaaDoor
set_option maxRecDepth 100000
namespace Go.Proofs.YtockimgedckheaaDoor
open Go Go.RowKit
attribute [local go_sem] Oper.semAt_some
theorem ownT_empty (w : World) : OwnT (w.alloc (.cells #[] 9)) w.heap.size (.slice (some ⟨w.heap.size, 0, none⟩) 0 0) [] :=
  ⟨by simp, .inr ⟨w.heap.size, 0, #[], rfl, Nat.le_refl _, heap_alloc_new w _, by simp, by unfold maxLen; omega, by simp, by simp⟩⟩
set_option maxHeartbeats 1000000 in
theorem cloneS_one (b : Nat) (x : List UInt8) (w : World) (hk : Blk w b [str x]) :
    Calls Tryd.prog 22 #[.slice (some ⟨b, 0, none⟩) 1 1] w fun e w' => ∃ v', e = .returned v' ∧ OwnT w' w.heap.size v' [x] ∧ Below w.heap.size w w' := by
  have hc : (w.alloc (.cells #[] 9)).cell? ⟨b, 0, none⟩ = some (str x) := (hk.alloc _).at (o := 0) rfl
  have HC := Lib.hid hc
  have hnil := Lib.run_eql_slice_nil (P := Tryd.prog) w 55 9 (some ⟨b, 0, none⟩) 1 1 0 0 Tryd.underlying55
  clear hc hk
  go_enter Tryd.func22, Tryd.ntmps22
  go_wp2_with (at_builtin; ((with_reducible refine wpList_appT ?g1 (.tmp 5) (.tmp 6) ?g2 w.heap.size (.slice (some ⟨w.heap.size, 0, none⟩) 0 0) [] x ?g3 ?g4 b 1 ?g5 ?g6 ?g7 ?g8 ?_); (case g1 => rfl); (case g2 => rfl); (case g3 => rfl); (case g4 => exact ownT_empty w); (case g5 => rfl); (case g6 => exact HC.out); (case g7 => simp); (case g8 => simp); intro v' w1 hv hg; have Hg := Lib.hid (((Below.refl w.heap.size w).alloc (Nat.le_refl _) _).trans ((ownT_empty w).belowBase hg (by simp))); clear hg; rw [List.nil_append] at hv; have Hv := Lib.hid hv; clear hv))
  go_ret
  exact ⟨v', rfl, Hv.out, Hg.out⟩
def ofF (b : Nat) : Value := .func (Fn.func 23) #[] #[.pointer (some ⟨b, 0, none⟩)]
/-- Of leaves a closure of those whose boxes lie behind all that was there; its Trace is A. -/
theorem trOf_one (A : Option Addr) (b : Nat) (x : List UInt8) (w : World) (hk : Blk w b [str x]) :
    Calls Tryd.prog 13 #[.pointer A, .slice (some ⟨b, 0, none⟩) 1 1] w fun e w' => ∃ g, w.heap.size ≤ g ∧ e = .returned (thV g) ∧ w'.cell? ⟨g, 0, none⟩ = some (.pointer A) ∧ w'.cell? ⟨g + 1, 0, none⟩ = some (ofF w.heap.size) ∧ Below w.heap.size w w' := by
  obtain ⟨W1, hW1⟩ : ∃ W, W = w.alloc (.cells #[.slice (some ⟨b, 0, none⟩) 1 1] 55) := ⟨_, rfl⟩
  have hz1 : W1.heap.size = w.heap.size + 1 := by rw [hW1]; simp
  have HB1 := Lib.hid (show Below w.heap.size w W1 from by rw [hW1]; exact (Below.refl _ w).alloc (Nat.le_refl _) _)
  have HC := Lib.hid (cloneS_one b x W1 (by rw [hW1]; exact hk.alloc _))
  have hbx : Boxed W1 w.heap.size 55 (.slice (some ⟨b, 0, none⟩) 1 1) := by rw [hW1]; exact Boxed.new w _ _
  have hmf : ∀ (fn : Fn) (first cap : Array Value) (w : World), (Instr.makeFunc fn first cap).run Tryd.prog w = .ok (.func fn first cap) w := fun _ _ _ _ => rfl
  go_enter Tryd.func13, Tryd.ntmps13
  go_wp2_with fail
  rw [← hW1]
  clear hW1 hk
  refine HC.out.mono ?_
  rintro e W2 ⟨v2, rfl, hO2, hB2⟩
  have hb2 : Boxed W2 w.heap.size 55 (.slice (some ⟨b, 0, none⟩) 1 1) := hbx.kept (grown_of_below hB2 none) (by simp)
  have hc2 := hb2.cell
  have hf2 := hb2.frozen
  obtain ⟨e0, -⟩ | ⟨g2, cp2, rfl, -, -, -, -, -⟩ := hO2.form
  · subst e0; obtain ⟨-, h | ⟨g, cap, cur, h, -⟩⟩ := hO2
    · simp at h
    · cases h
  have HB2 := Lib.hid (HB1.out.trans (hB2.mono (by omega)))
  have hz2 := HB2.out.size
  clear hb2 hB2 hO2 HC hbx HB1
  go_wp2_with fail
  refine (trThose A _ _ _ _).mono ?_
  rintro e W3 ⟨rfl, rfl⟩
  go_wp2_with fail
  go_ret
  have hzz : (W2.setCell ⟨w.heap.size, 0, none⟩ (.slice (some ⟨g2, 0, none⟩) 1 cp2)).heap.size = W2.heap.size := by simp
  refine ⟨W2.heap.size, by omega, rfl, ?_, ?_, ?_⟩
  · have := ((Blk.new (W2.setCell ⟨w.heap.size, 0, none⟩ (.slice (some ⟨g2, 0, none⟩) 1 cp2)) [.pointer A] 24).alloc (.cells #[ofF w.heap.size] 54)).at (o := 0) rfl
    rw [hzz] at this
    exact this
  · have := (Blk.new ((W2.setCell ⟨w.heap.size, 0, none⟩ (.slice (some ⟨g2, 0, none⟩) 1 cp2)).alloc (.cells #[.pointer A] 24)) [ofF w.heap.size] 54).at (o := 0) rfl
    rw [World.size_alloc, hzz] at this
    exact this
  · have h1 : Below w.heap.size w (W2.setCell ⟨w.heap.size, 0, none⟩ (.slice (some ⟨g2, 0, none⟩) 1 cp2)) := HB2.out.setCell (p := ⟨w.heap.size, 0, none⟩) (Nat.le_refl _) _
    have h2 := h1.size
    exact (h1.alloc h2 _).alloc (by rw [World.size_alloc]; omega) _
end Go.Proofs.YtockimgedckheaaDoor
set_option maxRecDepth 100000
namespace Go.Proofs.YtockimgedckheaaDoor
open Go Go.RowKit Go.Shelf
attribute [local go_sem] Oper.semAt_some
theorem thW_cell (W : World) (A : Option Addr) (f : Value) : (thW W A f).cell? ⟨W.heap.size, 0, none⟩ = some (.pointer A) := by
  unfold thW; exact ((Blk.new W [.pointer A] 24).alloc _).at (o := 0) rfl
theorem thW_below (W : World) (A : Option Addr) (f : Value) : Below W.heap.size W (thW W A f) := by
  unfold thW; exact ((Below.refl _ W).alloc (Nat.le_refl _) _).alloc (by simp) _
theorem nil_since (w : World) : Calls Tryd.prog 12 #[.pointer none, .int .u64 0] w fun e w' => ∃ g, e = .returned (thV g) ∧ w'.cell? ⟨g, 0, none⟩ = some (.pointer none) ∧ Below w.heap.size w w' := by
  refine (trSince none 0 w).mono ?_
  rintro e w' ⟨rfl, rfl⟩
  refine ⟨_, rfl, ?_, ?_⟩
  · have := thW_cell (w.alloc (.cells #[.int .u64 ((0 : Nat) : Int)] 22)) none (sinceF w.heap.size)
    rw [World.size_alloc] at this
    exact this
  · exact ((Below.refl _ w).alloc (Nat.le_refl _) _).trans ((thW_below _ _ _).mono (by simp))
theorem nil_about (w : World) : Calls Tryd.prog 14 #[.pointer none, .int .i64 0] w fun e w' => ∃ g, e = .returned (thV g) ∧ w'.cell? ⟨g, 0, none⟩ = some (.pointer none) ∧ Below w.heap.size w w' := by
  refine (trAbout none 0 w).mono ?_
  rintro e w' ⟨rfl, rfl⟩
  refine ⟨_, rfl, ?_, ?_⟩
  · have := thW_cell (w.alloc (.cells #[.int .i64 0] 3)) none (aboutF w.heap.size)
    rw [World.size_alloc] at this
    exact this
  · exact ((Below.refl _ w).alloc (Nat.le_refl _) _).trans ((thW_below _ _ _).mono (by simp))
theorem nil_new (room : Int) (w : World) :
    Calls Tryd.prog 7 #[.int .i64 room] w fun e w' => (((1 ≤ room ∧ room ≤ 256) ∧ ∃ p, e = .returned (.tuple #[.pointer (some p), .int .i64 0])) ∨ (¬ (1 ≤ room ∧ room ≤ 256) ∧ e = .returned (.tuple #[.pointer none, .int .i64 1]))) ∧ Below w.heap.size w w' := by
  by_cases h : 1 ≤ room ∧ room ≤ 256
  · exact (trNew_ok room h.1 h.2 w).mono fun e w' q => ⟨.inl ⟨h, q.1⟩, q.2⟩
  · refine (trNew_bad room (by omega) w).mono ?_
    rintro e w' ⟨rfl, rfl⟩
    exact ⟨.inr ⟨h, rfl⟩, Below.refl _ _⟩
set_option maxHeartbeats 4000000 in
theorem traceNil_law (room : Int) (n : Int) (kind : List UInt8) (hk : kind.length ≤ 9223372036854775807) (w : World) (hT : TabA w) (hE : PowE w) :
    Calls Tryd.prog 3 #[.int .i64 room, .int .u64 n, str kind] w fun e w' => e = .returned (.bool true) ∧ Below w.heap.size w w' := by
  have HAW := Lib.hid (awake23 w hT hE)
  have HCT := Lib.hid (fun W => cutText_any kind 40 W hk (by omega) (by omega))
  have HNW := Lib.hid (fun W => nil_new room W)
  clear hT hE hk
  go_enter Tryd.func3, Tryd.ntmps3
  go_wp2_with fail
  refine HAW.out.mono ?_
  rintro e w1 ⟨rfl, hB1⟩
  have HB1 := Lib.hid hB1
  clear hB1 HAW
  go_wp2_with fail
  refine (HCT.out w1).mono ?_
  rintro e w1' ⟨rfl, rfl⟩
  go_wp2_with fail
  refine (trAdd_nil _ _ _ _ w1).mono ?_
  rintro e w2 ⟨rfl, hB2⟩
  have HB2 := Lib.hid (HB1.out.trans (hB2.mono HB1.out.size))
  clear hB2
  go_wp2_with fail
  refine (HNW.out w2).mono ?_
  rintro e w3 ⟨hcs, hB3⟩
  have HB3 := Lib.hid (HB2.out.trans (hB3.mono HB2.out.size))
  clear hB3
  rcases hcs with ⟨hr, p, rfl⟩ | ⟨hr, rfl⟩
  · obtain ⟨i1, i2⟩ := hr
    go_wp2_with fail
    refine (trLast_nil w3).mono ?_
    rintro e w3' ⟨rfl, rfl⟩
    go_wp2_with fail
    refine (trFirst_nil w3').mono ?_
    rintro e w3'' ⟨rfl, rfl⟩
    go_wp2_with fail
    refine (trChain_nil w3'').mono ?_
    rintro e w4 ⟨rfl, rfl⟩
    go_wp2_with fail
    refine (nil_since w4).mono ?_
    rintro e w5 ⟨g5, rfl, hc5, hB5⟩
    have HB5 := Lib.hid (HB3.out.trans (hB5.mono HB3.out.size))
    have HC5 := Lib.hid (collect_nil g5 w5 hc5)
    clear hB5 hc5
    go_wp2_with fail
    refine HC5.out.mono ?_
    rintro e w6 ⟨rfl, hB6⟩
    have HB6 := Lib.hid (HB5.out.trans (hB6.mono HB5.out.size))
    clear hB6 HC5
    go_wp2_with fail
    obtain ⟨w7, hw7⟩ : ∃ w7, w7 = w6.alloc (.cells #[str kind] 9) := ⟨_, rfl⟩
    have HB7 := Lib.hid (show Below w.heap.size w w7 from by rw [hw7]; exact HB6.out.alloc HB6.out.size _)
    have HK7 := Lib.hid (show Blk w7 w6.heap.size [str kind] from by rw [hw7]; exact Blk.new w6 _ _)
    rw [← hw7]
    clear hw7
    refine (trOf_one none w6.heap.size kind w7 HK7.out).mono ?_
    rintro e w8 ⟨g8, hg8, rfl, hc8, hd8, hB8⟩
    have HB8 := Lib.hid (HB7.out.trans (hB8.mono HB7.out.size))
    have HC8 := Lib.hid (collect_nil g8 w8 hc8)
    clear hB8 hc8 hd8 HK7
    go_wp2_with fail
    refine HC8.out.mono ?_
    rintro e w9 ⟨rfl, hB9⟩
    have HB9 := Lib.hid (HB8.out.trans (hB9.mono HB8.out.size))
    clear hB9 HC8
    go_wp2_with fail
    refine (nil_about w9).mono ?_
    rintro e w10 ⟨g10, rfl, hc10, hB10⟩
    have HB10 := Lib.hid (HB9.out.trans (hB10.mono HB9.out.size))
    have HC10 := Lib.hid (collect_nil g10 w10 hc10)
    clear hB10 hc10
    go_wp2_with fail
    refine HC10.out.mono ?_
    rintro e w11 ⟨rfl, hB11⟩
    have HB11 := Lib.hid (HB10.out.trans (hB11.mono HB10.out.size))
    clear hB11 HC10
    go_wp2_with fail
    go_ret
    exact ⟨rfl, HB11.out⟩
  · by_cases h1 : 1 ≤ room
    · have h2 : ¬ room ≤ 256 := fun h => hr ⟨h1, h⟩
      have d2 : decide (room ≤ 256) = false := decide_eq_false h2
      clear hr
      go_wp2_with fail
      refine (trLast_nil w3).mono ?_
      rintro e w3' ⟨rfl, rfl⟩
      go_wp2_with fail
      refine (trFirst_nil w3').mono ?_
      rintro e w3'' ⟨rfl, rfl⟩
      go_wp2_with fail
      refine (trChain_nil w3'').mono ?_
      rintro e w4 ⟨rfl, rfl⟩
      go_wp2_with fail
      refine (nil_since w4).mono ?_
      rintro e w5 ⟨g5, rfl, hc5, hB5⟩
      have HB5 := Lib.hid (HB3.out.trans (hB5.mono HB3.out.size))
      have HC5 := Lib.hid (collect_nil g5 w5 hc5)
      clear hB5 hc5
      go_wp2_with fail
      refine HC5.out.mono ?_
      rintro e w6 ⟨rfl, hB6⟩
      have HB6 := Lib.hid (HB5.out.trans (hB6.mono HB5.out.size))
      clear hB6 HC5
      go_wp2_with fail
      obtain ⟨w7, hw7⟩ : ∃ w7, w7 = w6.alloc (.cells #[str kind] 9) := ⟨_, rfl⟩
      have HB7 := Lib.hid (show Below w.heap.size w w7 from by rw [hw7]; exact HB6.out.alloc HB6.out.size _)
      have HK7 := Lib.hid (show Blk w7 w6.heap.size [str kind] from by rw [hw7]; exact Blk.new w6 _ _)
      rw [← hw7]
      clear hw7
      refine (trOf_one none w6.heap.size kind w7 HK7.out).mono ?_
      rintro e w8 ⟨g8, hg8, rfl, hc8, hd8, hB8⟩
      have HB8 := Lib.hid (HB7.out.trans (hB8.mono HB7.out.size))
      have HC8 := Lib.hid (collect_nil g8 w8 hc8)
      clear hB8 hc8 hd8 HK7
      go_wp2_with fail
      refine HC8.out.mono ?_
      rintro e w9 ⟨rfl, hB9⟩
      have HB9 := Lib.hid (HB8.out.trans (hB9.mono HB8.out.size))
      clear hB9 HC8
      go_wp2_with fail
      refine (nil_about w9).mono ?_
      rintro e w10 ⟨g10, rfl, hc10, hB10⟩
      have HB10 := Lib.hid (HB9.out.trans (hB10.mono HB9.out.size))
      have HC10 := Lib.hid (collect_nil g10 w10 hc10)
      clear hB10 hc10
      go_wp2_with fail
      refine HC10.out.mono ?_
      rintro e w11 ⟨rfl, hB11⟩
      have HB11 := Lib.hid (HB10.out.trans (hB11.mono HB10.out.size))
      clear hB11 HC10
      go_wp2_with fail
      go_ret
      exact ⟨rfl, HB11.out⟩
    · have d1 : decide (1 ≤ room) = false := decide_eq_false h1
      clear hr
      go_wp2_with fail
      refine (trLast_nil w3).mono ?_
      rintro e w3' ⟨rfl, rfl⟩
      go_wp2_with fail
      refine (trFirst_nil w3').mono ?_
      rintro e w3'' ⟨rfl, rfl⟩
      go_wp2_with fail
      refine (trChain_nil w3'').mono ?_
      rintro e w4 ⟨rfl, rfl⟩
      go_wp2_with fail
      refine (nil_since w4).mono ?_
      rintro e w5 ⟨g5, rfl, hc5, hB5⟩
      have HB5 := Lib.hid (HB3.out.trans (hB5.mono HB3.out.size))
      have HC5 := Lib.hid (collect_nil g5 w5 hc5)
      clear hB5 hc5
      go_wp2_with fail
      refine HC5.out.mono ?_
      rintro e w6 ⟨rfl, hB6⟩
      have HB6 := Lib.hid (HB5.out.trans (hB6.mono HB5.out.size))
      clear hB6 HC5
      go_wp2_with fail
      obtain ⟨w7, hw7⟩ : ∃ w7, w7 = w6.alloc (.cells #[str kind] 9) := ⟨_, rfl⟩
      have HB7 := Lib.hid (show Below w.heap.size w w7 from by rw [hw7]; exact HB6.out.alloc HB6.out.size _)
      have HK7 := Lib.hid (show Blk w7 w6.heap.size [str kind] from by rw [hw7]; exact Blk.new w6 _ _)
      rw [← hw7]
      clear hw7
      refine (trOf_one none w6.heap.size kind w7 HK7.out).mono ?_
      rintro e w8 ⟨g8, hg8, rfl, hc8, hd8, hB8⟩
      have HB8 := Lib.hid (HB7.out.trans (hB8.mono HB7.out.size))
      have HC8 := Lib.hid (collect_nil g8 w8 hc8)
      clear hB8 hc8 hd8 HK7
      go_wp2_with fail
      refine HC8.out.mono ?_
      rintro e w9 ⟨rfl, hB9⟩
      have HB9 := Lib.hid (HB8.out.trans (hB9.mono HB8.out.size))
      clear hB9 HC8
      go_wp2_with fail
      refine (nil_about w9).mono ?_
      rintro e w10 ⟨g10, rfl, hc10, hB10⟩
      have HB10 := Lib.hid (HB9.out.trans (hB10.mono HB9.out.size))
      have HC10 := Lib.hid (collect_nil g10 w10 hc10)
      clear hB10 hc10
      go_wp2_with fail
      refine HC10.out.mono ?_
      rintro e w11 ⟨rfl, hB11⟩
      have HB11 := Lib.hid (HB10.out.trans (hB11.mono HB10.out.size))
      clear hB11 HC10
      go_wp2_with fail
      go_ret
      exact ⟨rfl, HB11.out⟩
end Go.Proofs.YtockimgedckheaaDoor
set_option maxRecDepth 100000
namespace Go.Proofs.YtockimgedckheaaDoor
open Go Go.RowKit Go.Shelf
theorem traceNil_w (n0 n1 : Int) (l2 : List UInt8) (w : World) (_h0 : (Lit.int .i64 n0).wf = true) (_h1 : (Lit.int .u64 n1).wf = true) (h2 : l2.length ≤ 9223372036854775807) (hT : TabA w) (hE : PowE w) :
    Calls Tryd.prog 3 #[.int .i64 n0, .int .u64 n1, str l2] w fun e w' => e = .returned (.bool true) ∧ Below w.heap.size w w' := traceNil_law n0 n1 l2 h2 w hT hE
end Go.Proofs.YtockimgedckheaaDoor
