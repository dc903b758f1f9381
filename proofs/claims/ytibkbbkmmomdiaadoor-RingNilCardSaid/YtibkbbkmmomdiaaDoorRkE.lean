/- ring: Epochs; slices.Collect over a nil Ring's; a nil Ring's other methods. -/
import Derived.Test.YtibkbbkmmomdiaaDoorRkN
import Derived.Test.YtibkbbkmmomdiaaDoorRangeG
import Derived.Test.YtibkbbkmmomdiaaDoorRangeOw
set_option maxRecDepth 100000
namespace Go.Proofs.YtibkbbkmmomdiaaDoor
open Go Go.RowKit
attribute [local go_sem] Oper.semAt_some
def epV (b : Nat) : Value := .func (Fn.func 21) #[] #[.pointer (some ⟨b, 0, none⟩)]
theorem epochs_any (A : Option Addr) (w : World) : Calls Tryd.prog 11 #[.pointer A] w fun e w' => e = .returned (epV w.heap.size) ∧ w' = w.alloc (.cells #[.pointer A] 25) := by
  have hmf : ∀ (fn : Fn) (first cap : Array Value) (w : World), (Instr.makeFunc fn first cap).run Tryd.prog w = .ok (.func fn first cap) w := fun _ _ _ _ => rfl
  go_enter Tryd.func11, Tryd.ntmps11
  go_wp2_with fail
  go_ret
  exact ⟨rfl, rfl⟩
def StE (_ : Nat) (A B : World) : Prop := Below A.heap.size A B
set_option maxHeartbeats 2000000 in
theorem epochs1_g {w : World} {base r bx room last : Nat} {V MV : Value} {L : List KyL} {key : List UInt8} (d : Nat) (hd0 : 1 ≤ d) (Bt : Nat) (h : RG w base r bx V MV room last L key) (hbx : Boxed w Bt 25 (.pointer (some ⟨r, 0, none⟩))) :
    SeqG Fence.wide d Tryd.prog 21 #[.pointer (some ⟨Bt, 0, none⟩)] (fun x : KyL => #[.int .u64 x.n]) StE (KC w.heap.size) (fun _ pre x _ => pre ++ [x] <+: L) (fun ys => ys = L) (fun _ => True) w := by
  intro l J Jx W hW hIn hJ hJx hY h0
  clear hIn hJx
  have hT := h.below hW
  have hn4 : L.length ≤ 100 := h.len
  have hB : Boxed W Bt 25 (.pointer (some ⟨r, 0, none⟩)) := (hW.block _ hbx.lt).trans hbx
  have hc := hB.cell
  have k4 := hT.blk.at (o := 4) (v := V) rfl
  have hwz := hW.size
  have HY := Lib.hid hY; clear hY
  have hct := (callsIn_wide (n := d - 1)).2 (clone_ky V L W hT.own.kyIn (by omega))
  refine callsIn_of_wp Tryd.func21 rfl trivial ?_ rfl
  simp only [Tryd.ntmps21, List.size_toArray, List.length_cons, List.length_nil, Nat.reduceAdd, Nat.reduceSub, Array.replicate_succ, Array.replicate_zero, List.push_toArray, List.append_toArray, List.nil_append, List.cons_append]
  gi_wp2
  refine ⟨trivial, hct.mono ?_⟩
  rintro e w2 ⟨v, rfl, hrow, hb2⟩
  obtain ⟨As, cs, rfl, _, _⟩ := hrow.form
  have hJ2 : J [] w2 := hJ [] W w2 h0 hb2
  have hz2 := hb2.size
  have HR := Lib.hid hrow
  clear hrow hct hB hc hT h0 hb2 k4
  gi_wp2
  gi_loopw [13] (fun i wr => ∃ (j : Nat), j ≤ L.length ∧ i = .int .i64 (j : Int) ∧ J (L.take j) wr ∧ W.heap.size ≤ wr.heap.size ∧ OwnY tKy wr W.heap.size (.slice As L.length cs) L)
    (fun i _ => L.length - (intOf i).toNat)
  case atStart => exact ⟨0, by omega, rfl, hJ2, hz2, HR.out⟩
  case round =>
    obtain ⟨j, hj, rfl, hJs, hzr, hrow⟩ := hrel
    have HJ := Lib.hid hJs; clear hJs
    by_cases hlt : j < L.length
    · obtain ⟨g, hAs⟩ : ∃ g, As = some ⟨g, 0, none⟩ := by
        rcases hrow.2 with ⟨e, _⟩ | ⟨g, cap', cur, e, _⟩
        · injection e with _ e2 _; omega
        · injection e with e1 _ _; exact ⟨g, e1⟩
      subst hAs
      obtain ⟨y, hy⟩ : ∃ y, y = L[j] := ⟨_, rfl⟩
      obtain ⟨g2, o2, e2, _, c0, c1⟩ := hrow.kyIn.pair j hlt
      cases e2
      simp only [Nat.zero_add] at c0 c1
      rw [← hy] at c0 c1
      have htk : L.take (j + 1) = L.take j ++ [y] := by rw [List.take_succ_eq_append_getElem hlt, ← hy]
      have hpre : L.take j ++ [y] <+: L := by rw [← htk]; exact List.take_prefix _ _
      obtain ⟨A2, hA2⟩ : ∃ A2, A2 = wr.alloc (.cells #[.int .u64 y.n, .slice y.A y.m y.c] tKy) := ⟨_, rfl⟩
      have hBA : Below wr.heap.size wr A2 := by rw [hA2]; exact (Below.refl _ wr).alloc (Nat.le_refl _) _
      have hkA : Blk A2 wr.heap.size [.int .u64 y.n, .slice y.A y.m y.c] := by rw [hA2]; exact Blk.new wr _ _
      have hrowA := hrow.below hBA
      have hzA := hBA.size
      obtain ⟨fn, tmps, assign, body, hyl, hR⟩ := HY.out (L.take j) y A2 (hJ _ wr A2 HJ.out hBA) (by omega) hpre
      have e0 : A2.cell? ⟨wr.heap.size, 0, none⟩ = some (.int .u64 y.n) := hkA.at (o := 0) rfl
      rw [hA2] at hyl e0
      have HRA := Lib.hid hrowA
      have HTK := Lib.hid htk
      clear hy hpre hrow htk hrowA hBA hkA
      gi_wp2
      rw [hA2] at hR
      refine hR.mono ?_
      rw [← hA2]
      rintro e W3 (⟨rfl, hJ3, hz3, hk3, _⟩ | ⟨rfl, hJx3, _, _⟩)
      · have hr3 : OwnY tKy W3 W.heap.size (.slice (some ⟨g, 0, none⟩) L.length cs) L := ownsRow_kc HRA.out hwz hk3
        gi_wp2
        go_roundw
        case rel => exact ⟨j + 1, by omega, by go_num, by rw [HTK.out]; exact hJ3, by omega, hr3⟩
        case measure => simp [intOf]; omega
      · gi_wp2
        refine bodyPost_ret (results_none rfl _ _ _) rfl ?_
        exact ⟨⟨_, rfl⟩, .inr ⟨_, hJx3⟩⟩
    · have hjx : j = L.length := by omega
      have hall : L.take j = L := List.take_of_length_le (by omega)
      rw [hall] at HJ
      gi_wp2
      go_end0
      exact ⟨⟨_, rfl⟩, .inl ⟨_, rfl, HJ.out⟩⟩
set_option maxHeartbeats 1000000 in
theorem epSeq_nil (d : Nat) (hd : 1 ≤ d) (b : Nat) (w : World) :
    SeqOw Fence.wide d Tryd.prog 21 #[.pointer (some ⟨b, 0, none⟩)] (Empty.elim : Empty → Array Value) (fun _ _ _ _ => False) (fun xs => xs = []) (fun A => A.cell? ⟨b, 0, none⟩ = some (.pointer none)) w := by
  intro l J Jx W hB hIn hJb hY hJ0
  have hc := hIn _ _ hJ0
  have HJ0 := Lib.hid hJ0
  clear hIn hJb hY hJ0 hB
  obtain ⟨d', rfl⟩ : ∃ d', d = d' + 1 := ⟨d - 1, by omega⟩
  refine callsIn_of_wp Tryd.func21 rfl trivial ?_ rfl
  simp only [Tryd.ntmps21, List.size_toArray, List.length_cons, List.length_nil, Nat.reduceAdd, Nat.reduceSub, Array.replicate_succ, Array.replicate_zero, List.push_toArray, List.append_toArray, List.nil_append, List.cons_append]
  gi_wp2
  refine bodyPost_ret (v := .tuple #[]) (by simp [results, Tryd.results21, go_sem]) rfl ?_
  exact ⟨⟨_, rfl⟩, .inl HJ0.out⟩
set_option maxHeartbeats 2000000 in
theorem appSeq_nilE (b : Nat) (w : World) (hc : w.cell? ⟨b, 0, none⟩ = some (.pointer none)) :
    CallsIn Fence.wide 10 Tryd.prog 24 #[.slice none 0 0, epV b] w fun e w' => e = .returned (.slice none 0 0) ∧ Below w.heap.size w w' := by
  refine callsIn_of_wp_marks Tryd.func24 rfl trivial ?_ rfl
  simp only [Tryd.ntmps24, List.size_toArray, List.length_cons, List.length_nil, Nat.reduceAdd, Nat.reduceSub, Array.replicate_succ, Array.replicate_zero, List.push_toArray, List.append_toArray, List.nil_append, List.cons_append]
  gi_wp2
  obtain ⟨W3, hW3⟩ : ∃ W3, W3 = w.alloc (.cells #[.slice none 0 0] 45) := ⟨_, rfl⟩
  have hB3 : Below w.heap.size w W3 := by rw [hW3]; exact (Below.refl _ w).alloc (Nat.le_refl _) _
  have hz3 : W3.heap.size = w.heap.size + 1 := by rw [hW3]; simp
  have hK3 : Blk W3 w.heap.size [.slice none 0 0] := by rw [hW3]; exact Blk.new w _ _
  rw [← hW3]
  have hbw : b < w.heap.size := World.block_lt_of_cell? w ⟨b, 0, none⟩ hc
  have HB3 := Lib.hid hB3
  have HK3 := Lib.hid hK3
  have HC := Lib.hid hc
  clear hW3 hB3 hK3 hc
  refine wpIn_rangeFunc_ow rfl (by omega) (gf := 21) (lb := #[.pointer (some ⟨b, 0, none⟩)]) rfl trivial (fun _ _ => rfl) (encs := (Empty.elim : Empty → Array Value)) (fun _ _ _ _ => False) (fun xs => xs = []) (fun A => A.cell? ⟨b, 0, none⟩ = some (.pointer none))
    (fun _ A => Below w.heap.size w A ∧ Blk A w.heap.size [.slice none 0 0]) (fun _ _ _ => False)
    (epSeq_nil _ (by omega) b _) (fun pre A h => by rw [h.1.cell (p := ⟨b, 0, none⟩) hbw]; exact HC.out) (fun x => x.elim)
    (fun pre A B h hz hb => ⟨h.1.trans (hb.mono (by omega)), h.2.below hb (by omega)⟩) (fun c pre A B h _ _ => h)
    (fun b pre x A B h _ => h) ⟨HB3.out, HK3.out⟩ (fun x _ => x.elim) (fun l x => x.elim) (fun l b pre x => x.elim) ?_ (fun _ _ _ _ _ _ h _ => h.elim)
  rintro D xs A hD hz rfl ⟨hB, hK⟩ hd
  have c4 := hK.at (o := 0) rfl
  have HB := Lib.hid hB
  clear hB hK
  gi_wp2
  show LeavesInM _ _ _ _ _ _ _ _ _
  refine ⟨by simp, .inl ⟨_, _, rfl, run_takeDeferred hd, ?_⟩⟩
  exact ⟨_, results_tmp (t := 4) rfl _ _ _, rfl, below_putObj HB.out (by omega) (by omega)⟩
set_option maxHeartbeats 1000000 in
theorem collect_nilE (b : Nat) (w : World) (hc : w.cell? ⟨b, 0, none⟩ = some (.pointer none)) :
    Calls Tryd.prog 15 #[epV b] w fun e w' => e = .returned (.slice none 0 0) ∧ Below w.heap.size w w' := by
  refine (callsIn_wide (n := 11)).1 ?_
  refine callsIn_of_wp Tryd.func15 rfl trivial ?_ rfl
  simp only [Tryd.ntmps15, List.size_toArray, List.length_cons, List.length_nil, Nat.reduceAdd, Nat.reduceSub, Array.replicate_succ, Array.replicate_zero, List.push_toArray, List.append_toArray, List.nil_append, List.cons_append]
  gi_wp2
  refine ⟨trivial, (appSeq_nilE b w hc).mono ?_⟩
  rintro e w' ⟨rfl, hb⟩
  gi_wp2
  go_ret
  exact ⟨rfl, hb⟩
section
variable (w : World)
theorem nil_rotate : Calls Tryd.prog 5 #[.pointer none] w fun e w' => e = .returned (.tuple #[.int .u64 0, .int .i64 6]) ∧ w' = w := by
  go_enter Tryd.func5, Tryd.ntmps5
  go_wp2_with fail
  go_ret2
  exact ⟨rfl, rfl⟩
theorem nil_newest : Calls Tryd.prog 6 #[.pointer none] w fun e w' => e = .returned (.tuple #[.int .u64 0, .slice none 0 0, .bool false]) ∧ w' = w := by
  go_enter Tryd.func6, Tryd.ntmps6
  go_wp2_with fail
  go_ret3
  exact ⟨rfl, rfl⟩
theorem nil_key (v : Value) : Calls Tryd.prog 7 #[.pointer none, v] w fun e w' => e = .returned (.tuple #[.slice none 0 0, .int .i64 6]) ∧ w' = w := by
  go_enter Tryd.func7, Tryd.ntmps7
  go_wp2_with fail
  go_ret2
  exact ⟨rfl, rfl⟩
theorem nil_sign (v : Value) : Calls Tryd.prog 8 #[.pointer none, v] w fun e w' => e = .returned (.tuple #[.int .u64 0, .slice none 0 0, .int .i64 6]) ∧ w' = w := by
  go_enter Tryd.func8, Tryd.ntmps8
  go_wp2_with fail
  go_ret3
  exact ⟨rfl, rfl⟩
theorem nil_retire (v : Value) : Calls Tryd.prog 12 #[.pointer none, v] w fun e w' => e = .returned (.int .i64 6) ∧ w' = w := by
  go_enter Tryd.func12, Tryd.ntmps12
  go_wp2_with fail
  go_ret
  exact ⟨rfl, rfl⟩
theorem nil_verify (a b c : Value) : Calls Tryd.prog 13 #[.pointer none, a, b, c] w fun e w' => e = .returned (.int .i64 6) ∧ w' = w := by
  go_enter Tryd.func13, Tryd.ntmps13
  go_wp2_with fail
  refine (nil_key w a).mono ?_
  rintro e w1 ⟨rfl, rfl⟩
  go_wp2_with fail
  go_ret
  exact ⟨rfl, rfl⟩
theorem nil_len : Calls Tryd.prog 14 #[.pointer none] w fun e w' => e = .returned (.int .i64 0) ∧ w' = w := by
  go_enter Tryd.func14, Tryd.ntmps14
  go_wp2_with fail
  go_ret
  exact ⟨rfl, rfl⟩
theorem nil_newRing (v n : Value) : Calls Tryd.prog 9 #[.pointer none, v, n] w fun e w' => e = .returned (.tuple #[.pointer none, .int .i64 6]) ∧ w' = w := by
  go_enter Tryd.func9, Tryd.ntmps9
  go_wp2_with fail
  go_ret2
  exact ⟨rfl, rfl⟩
end
end Go.Proofs.YtibkbbkmmomdiaaDoor
