/- The statement SpanWaits, walked. -/
import Derived.Test.YtjdadhmdgddpcaaSpWf
import Derived.Sort.CutIn
namespace Go.Proofs.Ytjdadhmdgddpcaa
open Go.RowKit Go.Shelf
attribute [local go_sem] Oper.semAt_some
/-- What lies in memory between two rounds: the arguments, the result, the rounds so far; the iterator's two. -/
structure Wd (w : World) (g : Nat) (b mo m st : Int) (j : Nat) (W : World) : Prop where
  bb : Boxed W w.heap.size 22 (u64v b)
  bm : Boxed W (w.heap.size + 1) 22 (u64v mo)
  bs : Boxed W (w.heap.size + 2) 5 (.int .u8 st)
  br : Boxed W (w.heap.size + 3) 4 (.bool false)
  bn : Boxed W g 3 (.int .i64 (j : Int))
  wb : Boxed W (g + 1) 22 (u64v b)
  wm : Boxed W (g + 1 + 1) 22 (u64v m)
  low : Below w.heap.size w W
theorem Wd.kc {w A B : World} {g : Nat} {b mo m st : Int} {j : Nat} (hg : w.heap.size + 4 ≤ g) (h : Wd w g b mo m st j A) (hk : KC w.heap.size A B) (hb : Below w.heap.size A B) : Wd w g b mo m st j B :=
  ⟨hk _ _ _ _ (Nat.le_refl _) h.bb, hk _ _ _ _ (by omega) h.bm, hk _ _ _ _ (by omega) h.bs, hk _ _ _ _ (by omega) h.br, hk _ _ _ _ (by omega) h.bn, hk _ _ _ _ (by omega) h.wb, hk _ _ _ _ (by omega) h.wm, h.low.trans hb⟩
/-- The rounds left. -/
def wms (g : Nat) (W : World) : Nat := match W.cell? ⟨g, 0, none⟩ with
  | some (.int _ n) => (60 - n).toNat
  | _ => 0
theorem Wd.ms {w A : World} {g : Nat} {b mo m st : Int} {j : Nat} (h : Wd w g b mo m st j A) (hj : j ≤ 50) : wms g A + j = 60 := by
  unfold wms; rw [h.bn.cell]; simp only; omega
theorem Wd.set {w A : World} {g : Nat} {b mo m st : Int} {j : Nat} (hg : w.heap.size + 4 ≤ g) (h : Wd w g b mo m st j A) : Wd w g b mo m st (j + 1) (A.setCell ⟨g, 0, none⟩ (.int .i64 ((j : Int) + 1))) :=
  ⟨h.bb.other (by omega) _, h.bm.other (by omega) _, h.bs.other (by omega) _, h.br.other (by omega) _, h.bn.set _, h.wb.other (by omega) _, h.wm.other (by omega) _, h.low.setCell (p := ⟨g, 0, none⟩) (by show w.heap.size ≤ g; omega) _⟩
set_option maxRecDepth 100000 in
set_option maxHeartbeats 4000000 in
theorem spanWaits_law (b mo k st : Int) (w : World) (b0 : 0 ≤ b) (b1 : b < 18446744073709551616) (m0 : 0 ≤ mo) (m1 : mo < 18446744073709551616) (k0 : -9223372036854775808 ≤ k) (k1 : k ≤ 9223372036854775807) (s0 : 0 ≤ st) (s1 : st < 256) :
    Calls Try.prog 4 #[u64v b, u64v mo, .int .i64 k, .int .u8 st] w fun e w' => e = .returned (.bool true) ∧ Below w.heap.size w w' := by
  obtain ⟨m, hm⟩ : ∃ m, m = tI mo := ⟨_, rfl⟩
  have hm2 : 0 ≤ m ∧ m ≤ 1099511627776 := by rw [hm, tI_def]; omega
  obtain ⟨x, hx⟩ : ∃ x, x = wI b m (exN k) := ⟨_, rfl⟩
  have hx0 : 0 ≤ x := by rw [hx]; exact wI_nonneg b0 hm2.1 _
  have hxm : x ≤ m := by rw [hx]; exact wI_le _
  have rW := fun W => wait_any b mo k W b0 b1 m0 m1 k0 k1
  have rR := fun W => refWait_any b mo k W b0 b1 m0 m1 k0 k1
  have rT := fun W => refTick_any mo W m0 m1
  rw [← hm, ← hx] at rW rR
  rw [← hm] at rT
  have RW := Lib.hid rW; clear rW
  have RR := Lib.hid rR; clear rR
  have RT := Lib.hid rT; clear rT
  have HX := Lib.hid hx; clear hx
  have HM := Lib.hid hm; clear hm
  obtain ⟨S, hS⟩ : ∃ S : Int, S = 1 + st % 50 := ⟨_, rfl⟩
  have hS0 : 1 ≤ S ∧ S ≤ 50 := by omega
  refine (callsIn_wide (n := 8)).1 ?_
  refine callsIn_of_wp_marks Try.func4 rfl trivial ?_ rfl
  simp only [Try.ntmps4, List.size_toArray, List.length_cons, List.length_nil, Nat.reduceAdd, Nat.reduceSub, Array.replicate_succ, Array.replicate_zero, List.push_toArray, List.append_toArray, List.nil_append, List.cons_append]
  gi_wp2
  refine ⟨trivial, (callsIn_wide.2 (awake_any _)).mono ?_⟩
  rintro e w1 ⟨rfl, hB⟩
  have bb := (((Boxed.new w 22 (u64v b)).alloc (.cells #[u64v mo] 22)).alloc (.cells #[.int .u8 st] 5)).alloc (.cells #[.bool false] 4)
  have bm := ((Boxed.new (w.alloc (.cells #[u64v b] 22)) 22 (u64v mo)).alloc (.cells #[.int .u8 st] 5)).alloc (.cells #[.bool false] 4)
  have bs := (Boxed.new ((w.alloc (.cells #[u64v b] 22)).alloc (.cells #[u64v mo] 22)) 5 (.int .u8 st)).alloc (.cells #[.bool false] 4)
  have br := Boxed.new (((w.alloc (.cells #[u64v b] 22)).alloc (.cells #[u64v mo] 22)).alloc (.cells #[.int .u8 st] 5)) 4 (.bool false)
  have hlow : Below w.heap.size w ((((w.alloc (.cells #[u64v b] 22)).alloc (.cells #[u64v mo] 22)).alloc (.cells #[.int .u8 st] 5)).alloc (.cells #[.bool false] 4)) :=
    ((((Below.refl _ w).alloc (Nat.le_refl _) _).alloc (by simp) _).alloc (by simp; omega) _).alloc (by simp; omega) _
  generalize hW0 : World.alloc _ _ = W0 at hB bb bm bs br hlow
  have hsz0 : W0.heap.size = w.heap.size + 4 := by rw [← hW0]; simp
  clear hW0
  simp only [World.size_alloc] at bm bs br
  replace bb := bb.kept (grown_of_below hB none) (by simp)
  replace bm := bm.kept (grown_of_below hB none) (by simp)
  replace bs := bs.kept (grown_of_below hB none) (by simp)
  replace br := br.kept (grown_of_below hB none) (by simp)
  have hsz1 := hB.size
  replace hlow := hlow.trans (hB.mono (by omega))
  clear hB
  have c4 := bb.cell
  have c5 := bm.cell
  have c7 := bs.cell
  have c8 := br.cell
  have f8 := br.frozen
  have BB := Lib.hid bb; clear bb
  have BM := Lib.hid bm; clear bm
  have BS := Lib.hid bs; clear bs
  have BR := Lib.hid br; clear br
  have HL := Lib.hid hlow; clear hlow
  have hdx : decide (m < x) = false := by simp; omega
  have rN : ∀ j : Nat, j ≤ 50 → ∀ W, Calls Try.prog 14 #[u64v b, u64v mo, .int .i64 (j : Int)] W fun e w' => e = .returned (u64v (wI b m j)) ∧ w' = W := fun j hj W => by
    have := refWait_any b mo (j : Int) W b0 b1 m0 m1 (by omega) (by omega)
    rwa [show exN (j : Int) = j from Int.toNat_natCast j, ← HM.out] at this
  have RN := Lib.hid rN; clear rN
  have rK : k < 1073741824 → ∃ y, x ≤ y ∧ ∀ W, Calls Try.prog 13 #[u64v b, u64v mo, .int .i64 (max k 0 + 1)] W fun e w' => e = .returned (u64v y) ∧ w' = W := fun hk => by
    refine ⟨wI b m (exN k + 1), by rw [HX.out]; exact wI_mono1 b0 hm2.1 _, fun W => ?_⟩
    have := wait_any b mo (max k 0 + 1) W b0 b1 m0 m1 (by omega) (by omega)
    rwa [show exN (max k 0 + 1) = exN k + 1 by unfold exN; omega, ← HM.out] at this
  have RK := Lib.hid rK; clear rK
  gi_wp2
  refine ⟨trivial, (callsIn_wide.2 (RW.out _)).mono ?_⟩
  rintro e w2 ⟨rfl, rfl⟩
  gi_upto_region 4 with fail
  gi_cut [43] from 68 (fun s43 wx => w2 = wx ∧ s43 = .bool false)
  case first =>
    gi_wp2
    refine ⟨trivial, (callsIn_wide.2 (RR.out _)).mono ?_⟩
    rintro e w3 ⟨rfl, rfl⟩
    gi_wp2
    refine ⟨trivial, (callsIn_wide.2 (RT.out _)).mono ?_⟩
    rintro e w4 ⟨rfl, rfl⟩
    by_cases h1 : k < 1073741824
    · obtain ⟨y, hy, hy2⟩ := RK.out h1
      have hdy : decide (y < x) = false := by simp; omega
      have HY := Lib.hid hy2; clear hy2
      have hmx : (0 ≤ k ∧ max k 0 = k) ∨ (k < 0 ∧ max k 0 = 0) := by omega
      rcases hmx with ⟨h2, h3⟩ | ⟨h2, h3⟩
      all_goals
        rw [h3] at HY
        clear h3
        gi_wp2
        refine ⟨trivial, (callsIn_wide.2 (HY.out _)).mono ?_⟩
        rintro e w5 ⟨rfl, rfl⟩
        gi_wp2
        gi_meet
        case rel => exact ⟨rfl, rfl⟩
    · gi_wp2
      refine ⟨trivial, ?_⟩
      gi_wp2
      gi_meet
      case rel => exact ⟨rfl, rfl⟩
  case rest =>
  obtain ⟨rfl, rfl⟩ := hcut
  clear RK c4 c5 c7 c8 f8
  gi_upto_region 7 with fail
  have B4 := BB.out.alloc (.cells #[.int .i64 0] 3)
  have B5 := BM.out.alloc (.cells #[.int .i64 0] 3)
  have B7 := BS.out.alloc (.cells #[.int .i64 0] 3)
  have B8 := BR.out.alloc (.cells #[.int .i64 0] 3)
  have B10 := Boxed.new w2 3 (.int .i64 0)
  have HL2 := HL.out.alloc (by omega) (.cells #[.int .i64 0] 3)
  have hg : w.heap.size + 4 ≤ w2.heap.size := by omega
  obtain ⟨g, hgg⟩ : ∃ g, g = w2.heap.size := ⟨_, rfl⟩
  rw [← hgg] at B10 hg ⊢
  have hsz2 : (w2.alloc (.cells #[.int .i64 0] 3)).heap.size = g + 1 := by rw [hgg]; simp
  clear hgg BB BM BS BR HL hsz1
  generalize hW3 : w2.alloc _ = W3 at B4 B5 B7 B8 B10 HL2 hsz2 ⊢
  clear hW3 hsz0
  have c4 := B4.cell
  have c5 := B5.cell
  have H4 := Lib.hid B4; clear B4
  have H5 := Lib.hid B5; clear B5
  have H7 := Lib.hid B7; clear B7
  have H8 := Lib.hid B8; clear B8
  have H10 := Lib.hid B10; clear B10
  have HLL := Lib.hid HL2; clear HL2
  gi_wp2
  refine ⟨trivial, (callsIn_wide.2 (waits_any b mo _ (by omega) (by omega))).mono ?_⟩
  rintro e w4 ⟨rfl, wb, wm, hB, hsz⟩
  rw [← HM.out] at wm
  rw [hsz2] at wb wm hsz
  have h0 : Wd w g b mo m st 0 w4 :=
    ⟨H4.out.kept (grown_of_below hB none) (by simp), H5.out.kept (grown_of_below hB none) (by simp), H7.out.kept (grown_of_below hB none) (by simp), H8.out.kept (grown_of_below hB none) (by simp), H10.out.kept (grown_of_below hB none) (by simp), wb, wm, HLL.out.trans (hB.mono (by omega))⟩
  have H0 := Lib.hid h0; clear h0
  clear wb wm hB c4 c5 H4 H5 H7 H8 H10 HLL
  rw [hsz2]
  gi_wp2
  refine wpIn_rangeFunc_st rfl (by omega) (gf := gW) (lb := #[.pointer (some ⟨g + 1, 0, none⟩), .pointer (some ⟨g + 1 + 1, 0, none⟩)]) rfl trivial (enters_of Try.func25 (by kernel_rfl) rfl) (encs := fun x : Int => #[u64v x])
    (fun pre W => Wd w g b mo m st pre.length W ∧ (pre.length : Int) < S)
    (fun pre x W => (Wd w g b mo m st pre.length W ∧ (pre.length : Int) < S) ∧ x = wI b m (pre.length + 1))
    (fun _ _ => False)
    (fun c pre W => Wd w g b mo m st pre.length W ∧ (c = .exit 0 ∧ (pre.length : Int) = S))
    ?seq (fun _ => rfl)
    (fun pre A B row hs hg' hr => ⟨hs.1.kc hg (kc_own hg' hr) (below_own (by omega) hs.1.low.size hg' hr), hs.2⟩)
    (fun pre x _ A B row hs hg' hr => ⟨⟨hs.1.1.kc hg (kc_own hg' hr) (below_own (by omega) hs.1.1.low.size hg' hr), hs.1.2⟩, hs.2⟩)
    (fun pre A B row hs hg' hr => hs)
    (fun c pre A B row hs hg' hr => ⟨hs.1.kc hg (kc_own hg' hr) (below_own (by omega) hs.1.low.size hg' hr), hs.2⟩)
    ⟨H0.out, by show (0 : Int) < S; omega⟩
    (fun x' a' _ => a' = { tmps := #[u64v b, u64v mo, Value.int IntKind.i64 k, Value.int IntKind.u8 st, Value.pointer (some { block := w.heap.size, off := 0 }),
          Value.pointer (some { block := w.heap.size + 1, off := 0 }), undef, Value.pointer (some { block := w.heap.size + 1 + 1, off := 0 }),
          Value.pointer (some { block := w.heap.size + 1 + 1 + 1, off := 0 }), u64v x, Value.pointer (some { block := g, off := 0 }), u64v x', Value.bool true, Value.bool false, u64v b,
          u64v mo, Value.int IntKind.i64 k, u64v x, u18, u19, u20, u21, u22, u23, u24, u25, u26, u27, u28, u29, u30,
          u31, u32, u33, u34, u35, u36, u37, u38, u39, u40, u41, u42, Value.bool false, u64v b, u64v mo, Value.func (Fn.func gW) #[] #[.pointer (some ⟨g + 1, 0, none⟩), .pointer (some ⟨g + 1 + 1, 0, none⟩)], u64v x', undef, undef, undef, undef, undef, undef, undef, undef, undef, undef, undef, undef, undef, undef, undef, undef, undef, undef, undef, undef], defers := [] })
    (fun x a' _ A B row hs hg hr => hs)
    ?assign ?body ?done ?stop
  case seq =>
    intro l R Jx W hRk hY hI hR hsW
    exact waits_in _ (by omega) l (g + 1) (g + 1 + 1) b m (by omega) b1 (by omega) hm2.2 60 (fun pre W => Wd w g b mo m st pre.length W ∧ (pre.length : Int) < S) (wms g) R Jx
      (fun pre W h => ⟨h.1.wb.cell, h.1.wm.cell⟩) (fun pre W h => h.1.ms (by have := h.2; omega)) hY W hI hR
  case assign =>
    rintro l pre x W K h hK
    have H := Lib.hid h; clear h
    gi_wp2
    exact hK _ _ (KeepsFrom.refl _ _) H.out rfl
  case body =>
    rintro l pre x a' W ⟨⟨h, hp⟩, hx⟩ rfl
    have hwx := RN.out (pre.length + 1) (by omega)
    rw [← hx] at hwx
    have h' := h.set hg
    have c10 := h.bn.cell
    have f10 := h.bn.frozen
    have hks : KeepsFrom w4.heap.size W (W.setCell ⟨g, 0, none⟩ (.int .i64 ((pre.length : Int) + 1))) := KeepsFrom.of_grownBy (grown_set _ _ _) (by rintro j e; cases e; show g < _; omega)
    obtain ⟨J, hJ⟩ : ∃ J : Int, J = (pre.length : Int) := ⟨_, rfl⟩
    have hJ0 : 0 ≤ J := by omega
    rw [← hJ] at c10 hp h' hks
    have HX := Lib.hid hwx; clear hwx
    have HJ := Lib.hid hJ; clear hJ
    have H' := Lib.hid h'; clear h'
    have HK := Lib.hid hks; clear hks
    have H := Lib.hid h; clear h
    clear hx
    gi_upto_region 10 with fail
    obtain ⟨W', hW'⟩ : ∃ W', W' = W.setCell ⟨g, 0, none⟩ (.int .i64 (J + 1)) := ⟨_, rfl⟩
    rw [← hW'] at H' HK ⊢
    clear hW' c10 f10 H
    have hJ1 : ((pre.length + 1 : Nat) : Int) = J + 1 := by have := HJ.out; omega
    rw [hJ1] at HX
    have c4 := H'.out.bb.cell
    have c5 := H'.out.bm.cell
    have c7 := H'.out.bs.cell
    have c10 := H'.out.bn.cell
    rw [hJ1] at c10
    have HJ1 := Lib.hid hJ1; clear hJ1
    gi_wp2
    refine ⟨trivial, CallsIn.inRound l (callsIn_wide.2 ((HX.out _).mono ?_))⟩
    rintro e w5 ⟨rfl, rfl⟩
    by_cases hl : J + 1 = S
    · have hd : decide (J + 1 = 1 + st % 50) = true := by simp; omega
      gi_wp2
      refine ⟨HK.out, ?_⟩
      refine ⟨?_, rfl, by rw [List.length_append, List.length_singleton, HJ1.out]; exact hl⟩
      show Wd w g b mo m st (pre ++ [x]).length _
      rw [List.length_append, List.length_singleton]
      exact H'.out
    · have hd : decide (J + 1 = 1 + st % 50) = false := by simp; omega
      gi_wp2
      refine ⟨HK.out, ?_, by rw [List.length_append, List.length_singleton, HJ1.out]; omega⟩
      show Wd w g b mo m st (pre ++ [x]).length _
      rw [List.length_append, List.length_singleton]
      exact H'.out
  case done =>
    rintro D xs W hD h hK
    exact h.elim
  case stop =>
    rintro D c pre W hD ⟨h, rfl, hc⟩ hK
    have c7 := h.bs.cell
    have c8 := h.br.cell
    have f8 := h.br.frozen
    have c10 := h.bn.cell
    have h8 := h.br.set (.bool true)
    have hlw := h.low.setCell (p := ⟨w.heap.size + 3, 0, none⟩) (by show w.heap.size ≤ w.heap.size + 3; omega) (.bool true)
    have hKs : (W.setCell ⟨w.heap.size + 3, 0, none⟩ (.bool true)).heap[D]? = some (.deferred (some [])) := (Below.heap_setCell W _ _ D (by show D ≠ w.heap.size + 3; omega)).trans hK
    obtain ⟨J, hJ⟩ : ∃ J : Int, J = (pre.length : Int) := ⟨_, rfl⟩
    rw [← hJ] at c10 hc
    have hd : decide (J = 1 + st % 50) = true := by simp; omega
    clear hJ h
    have H8 := Lib.hid h8; clear h8
    have HLW := Lib.hid hlw; clear hlw
    gi_wp2
    refine ⟨by simp, .inl ⟨_, _, rfl, run_takeDeferred hKs, ?_⟩⟩
    have h3 := H8.out.kept (grownBy_putObj' _ D (.deferred none)) (fun e => by cases e; omega)
    exact ⟨_, results_cell rfl _ _ _ _ _ rfl (fun w => rfl) h3.cell, rfl, HLW.out.trans (below_own (B := w4.heap.size) (by omega) HLW.out.size (grownBy_putObj' _ D _) (fun r e => by cases e; exact ⟨hD, _, hKs, rfl⟩))⟩
theorem spanWaits_wf (b m k st : Int) (w : World) (h1 : (Lit.int .u64 b).wf = true) (h2 : (Lit.int .u64 m).wf = true) (h3 : (Lit.int .i64 k).wf = true) (h4 : (Lit.int .u8 st).wf = true) :
    Calls Try.prog 4 #[u64v b, u64v m, .int .i64 k, .int .u8 st] w fun e w' => e = .returned (.bool true) ∧ Below w.heap.size w w' :=
  spanWaits_law b m k st w (wfq h1).1 (wfq h1).2 (wfq h2).1 (wfq h2).2 (wfi h3).1 (wfi h3).2 (wfu h4).1 (wfu h4).2
end Go.Proofs.Ytjdadhmdgddpcaa
