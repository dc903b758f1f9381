/- ring: the law RingNil. -/
import Derived.Test.YtibkbbkmmomdiaaDoorRkW
import Derived.Test.YtibkbbkmmomdiaaDoorRkE
set_option maxRecDepth 100000
namespace Go.Proofs.YtibkbbkmmomdiaaDoor
open Go Go.RowKit
attribute [local go_sem] Oper.semAt_some
/-- What the law keeps: its result's box, and the tables. -/
structure Lw (w W : World) : Prop where
  low : Below w.heap.size w W
  res : Boxed W w.heap.size 4 (.bool false)
  tab : TabA W
  pow : PowE W
theorem Lw.step {w W W' : World} (h : Lw w W) (hb : Below W.heap.size W W') : Lw w W' :=
  ⟨h.low.trans (hb.mono h.low.size), (hb.block _ h.res.lt).trans h.res, h.tab.below hb (tab_lt h.tab), h.pow.below hb⟩
theorem keepN_id (room : Nat) (xs : List Nat) (h : xs.length ≤ room) : keepN room xs = xs := by unfold keepN; rw [if_neg (by omega)]
/-- The law's loop over the epochs under way: m of them told. -/
structure Ei (w : World) (b K m : Nat) (A : World) : Prop where
  low : Below w.heap.size w A
  res : Boxed A w.heap.size 4 (.bool false)
  bk : Boxed A b 3 (.int .i64 (K : Int))
  bn : Boxed A (b + 1) 22 (.int .u64 (m : Int))
  lo : w.heap.size < b
  sz : b + 3 ≤ A.heap.size
section
variable {w A B : World} {b K m : Nat}
theorem Ei.kc (h : Ei w b K m A) (hk : KC 0 A B) (hl : Below w.heap.size A B) : Ei w b K m B :=
  ⟨h.low.trans hl, hk _ _ _ _ (Nat.zero_le _) h.res, hk _ _ _ _ (Nat.zero_le _) h.bk, hk _ _ _ _ (Nat.zero_le _) h.bn, h.lo, Nat.le_trans h.sz hl.size⟩
theorem Ei.below (h : Ei w b K m A) (hb : Below A.heap.size A B) : Ei w b K m B :=
  h.kc (fun k c t f _ ho => (hb.block k (Array.getElem?_eq_some_iff.1 ho).1).trans ho) (hb.mono (by have := h.sz; have := h.lo; omega))
theorem Ei.put {l : Nat} {o o' : Obj} (h : Ei w b K m A) (hl : w.heap.size ≤ l) (ho : A.heap[l]? = some o) (hc : o.isCells = false) : Ei w b K m (A.putObj l o') :=
  h.kc (kc_putObj ho hc) (below_own (B := w.heap.size) (Nat.le_refl _) (by have := h.sz; have := h.lo; omega) (grownBy_putObj' A l o') (fun r e => by cases e; exact ⟨hl, o, ho, hc⟩))
theorem Ei.next (h : Ei w b K m A) : Ei w b K (m + 1) (A.setCell ⟨b + 1, 0, none⟩ (.int .u64 ((m + 1 : Nat) : Int))) ∧ KC (b + 3) A (A.setCell ⟨b + 1, 0, none⟩ (.int .u64 ((m + 1 : Nat) : Int))) ∧ KeepsFrom (b + 3) A (A.setCell ⟨b + 1, 0, none⟩ (.int .u64 ((m + 1 : Nat) : Int))) := by
  have g1 := grown_set A ⟨b + 1, 0, none⟩ (.int .u64 ((m + 1 : Nat) : Int))
  have hlo := h.lo
  have hsz := h.sz
  have hz := g1.size
  refine ⟨⟨h.low.setCell (p := ⟨b + 1, 0, none⟩) (by show w.heap.size ≤ b + 1; omega) _, h.res.kept g1 (by simp; omega), h.bk.kept g1 (by simp), h.bn.set _, h.lo, by omega⟩, fun k c t f hk ho => ?_, by omega, fun k o hk ho hc => ?_⟩
  · exact (g1.block k (Array.getElem?_eq_some_iff.1 ho).1 (by simp; omega)).trans ho
  · exact (g1.block k (Array.getElem?_eq_some_iff.1 ho).1 (by simp; omega)).trans ho
end
theorem pre_n {L pre : List KyL} {x : KyL} (h : pre ++ [x] <+: L) (hm : L.map KyL.n = List.range' 1 6) : x.n = pre.length + 1 ∧ pre.length < 6 := by
  have hl : L.length = 6 := by have := congrArg List.length hm; simpa using this
  have h1 := h.length_le
  rw [List.length_append, List.length_singleton] at h1
  have h2 : L[pre.length]'(by omega) = x := by
    have := h.getElem (i := pre.length) (by simp)
    rw [← this]; simp
  have h3 : (L.map KyL.n)[pre.length]'(by rw [List.length_map]; omega) = x.n := by rw [List.getElem_map, h2]
  simp only [hm, List.getElem_range'] at h3
  omega
set_option maxHeartbeats 8000000 in
theorem ringNil_law (n : Int) (TA : Option Addr) (tl tc : Nat) (X : Nat) (hX : X < 256) (w : World) (hT : TabA w) (hP : PowE w) :
    Calls Tryd.prog 3 #[.int .u64 n, .slice TA tl tc, .int .u8 (X : Int)] w fun e w' => e = .returned (.bool true) ∧ Below w.heap.size w w' := by
  obtain ⟨W0, hW0⟩ : ∃ W0, W0 = w.alloc (.cells #[.bool false] 4) := ⟨_, rfl⟩
  have hb0 : Below w.heap.size w W0 := by rw [hW0]; exact (Below.refl _ _).alloc (Nat.le_refl _) _
  have H0 := Lib.hid (show Lw w W0 from ⟨hb0, by rw [hW0]; exact Boxed.new w _ _, hT.below hb0 (tab_lt hT), hP.below hb0⟩)
  have HAW := Lib.hid (awake17 W0 H0.out.tab H0.out.pow)
  have HTP := Lib.hid (And.intro (tab_lt hT) hP.low)
  clear hb0 hT hP
  refine (callsIn_wide (n := 14)).1 ?_
  refine callsIn_of_wp_marks Tryd.func3 rfl trivial ?_ rfl
  simp only [Tryd.ntmps3, List.size_toArray, List.length_cons, List.length_nil, Nat.reduceAdd, Nat.reduceSub, Array.replicate_succ, Array.replicate_zero, List.push_toArray, List.append_toArray, List.nil_append, List.cons_append]
  gi_wp2
  rw [← hW0]
  refine ⟨trivial, (callsIn_wide.2 HAW.out).mono ?_⟩
  rintro e w1 ⟨rfl, hb1⟩
  have H1 := Lib.hid (H0.out.step hb1)
  clear hb1 HAW H0 hW0
  gi_wp2
  refine ⟨trivial, (callsIn_wide.2 (nil_rotate _)).mono ?_⟩
  rintro e wa ⟨rfl, rfl⟩
  gi_wp2
  refine ⟨trivial, (callsIn_wide.2 (nil_newest _)).mono ?_⟩
  rintro e wb ⟨rfl, rfl⟩
  gi_wp2
  refine ⟨trivial, (callsIn_wide.2 (nil_key _ _)).mono ?_⟩
  rintro e wc ⟨rfl, rfl⟩
  gi_wp2
  obtain ⟨W2, hW2⟩ : ∃ W2, W2 = wc.alloc (.cells #[.slice TA tl tc] 23) := ⟨_, rfl⟩
  have H2 := Lib.hid (show Lw w W2 from H1.out.step (by rw [hW2]; exact (Below.refl _ _).alloc (Nat.le_refl _) _))
  rw [← hW2]
  clear hW2 H1
  refine ⟨trivial, (callsIn_wide.2 (nil_sign _ _)).mono ?_⟩
  rintro e Wd ⟨rfl, rfl⟩
  have hcv := Lib.run_convert_bytes_const (P := Tryd.prog) Wd 23 5 #[.int .u8 109] 1 1 Tryd.underlying23 Tryd.underlying5
  gi_wp2
  clear hcv
  obtain ⟨W3, hW3⟩ : ∃ W3, W3 = Wd.alloc (.cells #[.int .u8 109] 5 (1, 2)) := ⟨_, rfl⟩
  have H3 := Lib.hid (show Lw w W3 from H2.out.step (by rw [hW3]; exact (Below.refl _ _).alloc (Nat.le_refl _) _))
  rw [← hW3]
  clear hW3 H2
  refine ⟨trivial, (callsIn_wide.2 (nil_newRing _ _ _)).mono ?_⟩
  rintro e We ⟨rfl, rfl⟩
  gi_wp2
  refine ⟨trivial, (callsIn_wide.2 (newBox_any _)).mono ?_⟩
  rintro e W4 ⟨bx, rfl, ⟨cs, hbx⟩, hbb, hb4⟩
  have H4 := Lib.hid (H3.out.step hb4)
  have HBX := Lib.hid hbx
  have HBB := Lib.hid hbb
  have HZ3 := Lib.hid (And.intro H3.out.res.lt hb4.size)
  clear hb4 hbx hbb H3
  have hcv := Lib.run_convert_bytes_const (P := Tryd.prog) W4 23 5 #[.int .u8 109] 1 1 Tryd.underlying23 Tryd.underlying5
  gi_wp2
  clear hcv
  obtain ⟨W5, hW5⟩ : ∃ W5, W5 = W4.alloc (.cells #[.int .u8 109] 5 (1, 2)) := ⟨_, rfl⟩
  have hb5 : Below W4.heap.size W4 W5 := by rw [hW5]; exact (Below.refl _ _).alloc (Nat.le_refl _) _
  have H5 := Lib.hid (H4.out.step hb5)
  have HNR := Lib.hid (newRing_any W5 We.heap.size bx 8 (W4.heap.size + 1) 1 1 ⟨W4.heap.size, 0, none⟩ cs [109] (HBX.out.below hb5 HBX.out.lt) HBB.out (by rw [hW5]; exact sl_lit 109 W4) (by rw [hW5]; simp) rfl (by simp) (by simp) (by omega) (by omega) H5.out.tab H5.out.pow (by have := HTP.out.1; have := HZ3.out.1; omega) (by have := HTP.out.2; have := HZ3.out.1; omega))
  have hcast : ((8 : Nat) : Int) = 8 := rfl
  rw [hcast] at HNR
  rw [← hW5]
  clear hW5 hb5 hcast H4 HBX HBB
  refine ⟨trivial, (callsIn_wide.2 HNR.out).mono ?_⟩
  rintro e W6 ⟨r, V, MV, L, rfl, h6, hm6, -, hb6⟩
  have HG6 := Lib.hid h6
  have HM6 := Lib.hid hm6
  have H6 := Lib.hid (H5.out.step hb6)
  clear h6 hm6 hb6 HNR H5
  gi_wp2
  gi_loopw [65] (fun i wr => ∃ (j : Nat) (V : Value) (L : List KyL), j ≤ 5 ∧ i = .int .i64 (j : Int) ∧ RG wr We.heap.size r bx V MV 8 (1 + j) L [109] ∧ L.map KyL.n = List.range' 1 (1 + j) ∧ Below w.heap.size w wr ∧ Boxed wr w.heap.size 4 (.bool false))
    (fun i _ => 5 - (intOf i).toNat)
  case atStart => exact ⟨0, V, L, by omega, rfl, HG6.out, HM6.out, H6.out.low, H6.out.res⟩
  case round =>
    obtain ⟨j, VJ, LJ, hj, rfl, hg, hm, hlw, hrs⟩ := hrel
    have HG := Lib.hid hg
    have HM := Lib.hid hm
    have HLW := Lib.hid hlw
    have HRS := Lib.hid hrs
    have hll : LJ.length = 1 + j := by have := congrArg List.length hm; simpa using this
    clear hg hm hlw hrs HG6 HM6 H6
    by_cases hlt : j < 5
    · gi_wp2
      refine ⟨trivial, (callsIn_wide.2 (rotate_any HG.out (by omega) (by omega))).mono ?_⟩
      rintro e W7 ⟨rfl, V7, L7, h7, hm7, ht7, -⟩
      have hb7 := HG.out.low ht7
      have HG7 := Lib.hid h7
      have HM7 := Lib.hid (show L7.map KyL.n = List.range' 1 (1 + (j + 1)) from by
        rw [hm7, HM.out, keepN_id _ _ (by simp; omega), show 1 + (j + 1) = (1 + j) + 1 by omega, List.range'_1_concat, show 1 + j + 1 = 1 + (1 + j) by omega])
      have HLW7 := Lib.hid (show Below w.heap.size w W7 from HLW.out.trans (hb7.mono (by have := HZ3.out.1; omega)))
      have HRS7 := Lib.hid (show Boxed W7 w.heap.size 4 (.bool false) from (hb7.block _ HZ3.out.1).trans HRS.out)
      clear h7 hm7 ht7 hb7 HG HM HLW HRS
      gi_wp2
      go_roundw
      case rel => exact ⟨j + 1, V7, L7, by omega, by go_num, by rw [show 1 + (j + 1) = 1 + j + 1 by omega]; exact HG7.out, HM7.out, HLW7.out, HRS7.out⟩
      case measure => simp [intOf]; omega
    · obtain rfl : j = 5 := by omega
      obtain ⟨K, hK⟩ : ∃ K, K = 1 + X % 8 := ⟨_, rfl⟩
      have hKc : (1 : Int) + (X : Int) % 8 = (K : Int) := by rw [hK]; omega
      have HKR := Lib.hid (show 1 ≤ K ∧ K ≤ 8 from by omega)
      clear hK
      gi_wp2
      obtain ⟨W8, hW8⟩ : ∃ W8, W8 = (wr.alloc (.cells #[.int .i64 (K : Int)] 3)).alloc (.cells #[.int .u64 0] 22) := ⟨_, rfl⟩
      rw [← hW8]
      refine ⟨trivial, (callsIn_wide.2 (epochs_any (some ⟨r, 0, none⟩) W8)).mono ?_⟩
      rintro e W9 ⟨rfl, hW9⟩
      gi_wp2
      have hz9 : W9.heap.size = wr.heap.size + 3 := by rw [hW9, hW8]; simp
      have HLZ := Lib.hid (show w.heap.size < wr.heap.size from HRS.out.lt)
      have H9 := Lib.hid (show Ei w wr.heap.size K 0 W9 from by
        have q1 := Boxed.new wr 3 (.int .i64 (K : Int))
        have q2 := Boxed.new (wr.alloc (.cells #[.int .i64 (K : Int)] 3)) 22 (.int .u64 0)
        simp only [World.size_alloc] at q2
        refine ⟨?_, ?_, ?_, ?_, HLZ.out, by omega⟩
        · rw [hW9, hW8]; exact ((HLW.out.alloc HLW.out.size _).alloc (by simp; have := HLW.out.size; omega) _).alloc (by simp; have := HLW.out.size; omega) _
        · rw [hW9, hW8]; exact ((HRS.out.alloc _).alloc _).alloc _
        · rw [hW9, hW8]; exact (q1.alloc _).alloc _
        · rw [hW9, hW8]; exact q2.alloc _)
      have HG9 := Lib.hid (show RG W9 We.heap.size r bx VJ MV 8 (1 + 5) LJ [109] from HG.out.below (by rw [hW9, hW8]; exact (((Below.refl _ wr).alloc (Nat.le_refl _) _).alloc (by simp) _).alloc (by simp; omega) _))
      have HBX9 := Lib.hid (show Boxed W9 (wr.heap.size + 2) 25 (.pointer (some ⟨r, 0, none⟩)) from by
        have q3 := Boxed.new W8 25 (.pointer (some ⟨r, 0, none⟩))
        rw [show W8.heap.size = wr.heap.size + 2 by rw [hW8]; simp] at q3
        rw [hW9]; exact q3)
      have HSQ := Lib.hid (epochs1_g (14 - 1) (by omega) (wr.heap.size + 2) HG9.out HBX9.out)
      have HMJ := Lib.hid (show LJ.map KyL.n = List.range' 1 6 from HM.out)
      rw [← hW8, ← hW9]
      clear hW8 hW9 HG HM HLW HRS HG9 HBX9 hll hj
      refine wpIn_rangeFunc_g rfl (by omega) (gf := 21) (lb := #[.pointer (some ⟨wr.heap.size + 2, 0, none⟩)]) rfl trivial (fun _ _ => rfl) (encs := fun x : KyL => #[.int .u64 (x.n : Int)]) StE (KC W9.heap.size) (fun _ pre x _ => pre ++ [x] <+: LJ) (fun ys => ys = LJ)
        (fun _ => True)
        (fun pre A => Ei w wr.heap.size K pre.length A ∧ pre.length < K)
        (fun c pre A => c = .exit 2 ∧ Ei w wr.heap.size K pre.length A ∧ pre.length = K ∧ pre.length ≤ 6)
        HSQ.out (fun _ _ _ => trivial) (fun _ => rfl)
        (fun _ _ _ _ h _ hk => h.block _ hk) (fun _ _ _ h => h.size) (fun A B C h1 h2 k c t f hk ho => h2 k c t f hk (h1 k c t f hk ho)) (fun W l o o' hl ho hc => kc_putObj ho hc)
        (fun pre A B h hst => ⟨h.1.below hst, h.2⟩)
        (fun c pre A B h hst => ⟨h.1, h.2.1.below hst, h.2.2⟩)
        (fun pre A l o o' h hl ho hc => ⟨h.1.put (by have := HLZ.out; omega) ho hc, h.2⟩)
        (fun c pre A l o o' h hl ho hc => ⟨h.1, h.2.1.put (by have := HLZ.out; omega) ho hc, h.2.2⟩)
        (fun _ _ _ _ _ _ _ h _ _ _ => h)
        (fun W' hb hs => ⟨H9.out.below hb, by have := HKR.out.1; simp; omega⟩)
        (fun x a' => a' = { tmps := #[.int .u64 n, .slice TA tl tc, .int .u8 (X : Int), undef, undef, undef, .pointer (some ⟨w.heap.size, 0, none⟩), .pointer none, .int .u64 0, .int .i64 6, .int .u64 0, .slice none 0 0, .bool false, .slice none 0 0, .int .i64 6, .int .u64 0, .slice none 0 0, .int .i64 6, .pointer none, .int .i64 6, .pointer (some ⟨r, 0, none⟩), .int .i64 0, .pointer (some ⟨wr.heap.size, 0, none⟩), .pointer (some ⟨wr.heap.size + 1, 0, none⟩), .int .u64 (x.n : Int), .bool true, .bool false, .tuple #[.int .u64 0, .int .i64 6], .pointer none, .tuple #[.int .u64 0, .int .i64 6], .int .u64 0, .int .i64 6, .tuple #[.int .u64 0, .slice none 0 0, .bool false], .pointer none, .tuple #[.int .u64 0, .slice none 0 0, .bool false], .int .u64 0, .slice none 0 0, .bool false, .tuple #[.slice none 0 0, .int .i64 6], .pointer none, .int .u64 n, .tuple #[.slice none 0 0, .int .i64 6], .slice none 0 0, .int .i64 6, .tuple #[.int .u64 0, .slice none 0 0, .int .i64 6], .pointer none, .slice TA tl tc, .slice (some ⟨wc.heap.size, 0, none⟩) 1 1, .tuple #[.int .u64 0, .slice none 0 0, .int .i64 6], .int .u64 0, .slice none 0 0, .int .i64 6, .tuple #[.pointer none, .int .i64 6], .slice (some ⟨Wd.heap.size, 0, none⟩) 1 1, .slice (some ⟨Wd.heap.size, 0, none⟩) 1 1, .tuple #[.pointer none, .int .i64 6], .pointer none, .int .i64 6, .tuple #[.pointer (some ⟨r, 0, none⟩), .int .i64 0], .pointer (some ⟨bx, 0, none⟩), .slice (some ⟨W4.heap.size, 0, none⟩) 1 1, .slice (some ⟨W4.heap.size, 0, none⟩) 1 1, .tuple #[.pointer (some ⟨r, 0, none⟩), .int .i64 0], .pointer (some ⟨r, 0, none⟩), .int .i64 0, .int .i64 5, .bool false, u67, u68, u69, .int .u8 (X : Int), .int .u8 ((X : Int) % 8), .int .i64 ((X : Int) % 8), .int .i64 (K : Int), .pointer (some ⟨r, 0, none⟩), epV (wr.heap.size + 1 + 1), .int .u64 (x.n : Int), undef, undef, undef, undef, undef, undef, undef, undef, undef, undef, undef, undef, undef, undef, undef, undef, undef, undef, undef, undef, undef, undef, undef, undef, undef, undef, undef, undef, undef, undef, undef, undef, undef, undef, undef, undef, undef, undef, undef, undef, undef, undef, undef, undef, undef, undef, undef, undef, undef, undef, undef, undef, undef, undef, undef, undef, undef, undef, undef], defers := [] })
        ?assign ?body ?done ?stop
      case assign =>
        rintro k x A K' hK'
        have HK' := Lib.hid hK'; clear hK'
        gi_wp2
        exact HK'.out _ rfl
      case done =>
        rintro D xs A hD hz rfl ⟨hJ, hn⟩ hKD
        have hl6 : xs.length = 6 := by have := congrArg List.length HMJ.out; simpa using this
        obtain ⟨m, hm⟩ : ∃ m, m = xs.length := ⟨_, rfl⟩
        rw [← hm] at hJ hn
        have hkr := HKR.out
        have hmi : IntKind.i64.wrap (m : Int) = (m : Int) := IntWalk.i64_in _ (by omega)
        have HJ := Lib.hid hJ
        have HMK := Lib.hid (show (m : Int) = min (K : Int) 6 ∧ m ≤ 8 from by omega)
        clear hm hn
        gi_wp2
        refine ⟨trivial, (callsIn_wide.2 (nil_retire _ _)).mono ?_⟩
        rintro e y1 ⟨rfl, rfl⟩
        gi_wp2
        refine ⟨trivial, (callsIn_wide.2 (nil_verify _ _ _ _)).mono ?_⟩
        rintro e y2 ⟨rfl, rfl⟩
        gi_wp2
        refine ⟨trivial, (callsIn_wide.2 (nil_len _)).mono ?_⟩
        rintro e y3 ⟨rfl, rfl⟩
        gi_wp2
        refine ⟨trivial, (callsIn_wide.2 (epochs_any none _)).mono ?_⟩
        rintro e y4 ⟨rfl, hy4⟩
        have hby4 : Below y3.heap.size y3 y4 := by rw [hy4]; exact (Below.refl _ _).alloc (Nat.le_refl _) _
        have hc4 : y4.cell? ⟨y3.heap.size, 0, none⟩ = some (.pointer none) := by rw [hy4]; exact (Blk.new y3 [.pointer none] _).at (o := 0) rfl
        clear hy4
        gi_wp2
        refine ⟨trivial, (callsIn_wide.2 (collect_nilE _ y4 hc4)).mono ?_⟩
        rintro e y5 ⟨rfl, hby5⟩
        have hb35 : Below y3.heap.size y3 y5 := hby4.trans (hby5.mono hby4.size)
        have HJ5 := Lib.hid (HJ.out.below hb35)
        have HK5 := Lib.hid (show y5.heap[D]? = some (.deferred (some [])) from (hb35.block D (Array.getElem?_eq_some_iff.1 hKD).1).trans hKD)
        have c2 := HJ5.out.bk.cell
        have c3 := HJ5.out.bn.cell
        have c6 := HJ5.out.res.cell
        have f6 := HJ5.out.res.frozen
        have hmin : min (K : Int) 6 = (m : Int) := HMK.out.1.symm
        clear hb35 hby4 hby5 hc4 hKD HJ hJ
        gi_wp2
        have hne : D ≠ w.heap.size := fun e => by
          have h1 := HJ5.out.res
          unfold Boxed at h1
          rw [← e, HK5.out] at h1
          cases h1
        obtain ⟨y6, hy6⟩ : ∃ y6, y6 = y5.setCell ⟨w.heap.size, 0, none⟩ (.bool true) := ⟨_, rfl⟩
        have hK6 : y6.heap[D]? = some (.deferred (some [])) := by rw [hy6]; exact (Below.heap_setCell y5 ⟨w.heap.size, 0, none⟩ _ D hne).trans HK5.out
        have hB6 : Boxed y6 w.heap.size 4 (.bool true) := by rw [hy6]; exact HJ5.out.res.set _
        have hL6 : Below w.heap.size w y6 := by rw [hy6]; exact HJ5.out.low.setCell (p := ⟨w.heap.size, 0, none⟩) (Nat.le_refl _) _
        have hDw : w.heap.size ≤ D := by have := HLZ.out; omega
        have hc7 : (y6.putObj D (.deferred none)).cell? ⟨w.heap.size, 0, none⟩ = some (.bool true) := (Boxed.cell (kc_putObj (b := 0) (o' := .deferred none) hK6 rfl _ _ _ _ (Nat.zero_le _) hB6))
        rw [← hy6]
        show LeavesInM _ _ _ _ _ _ _ _ _
        refine ⟨by simp, .inl ⟨_, _, rfl, run_takeDeferred hK6, ?_⟩⟩
        exact ⟨.bool true, by simp [results, Tryd.results3, go_sem, hc7], rfl, below_putObj hL6 hL6.size hDw⟩
      case stop =>
        rintro D c pre A hD hz ⟨rfl, hJ, hn, hpre⟩ hKD
        obtain ⟨m, hm⟩ : ∃ m, m = pre.length := ⟨_, rfl⟩
        rw [← hm] at hJ hn hpre
        have hkr := HKR.out
        have hmi : IntKind.i64.wrap (m : Int) = (m : Int) := IntWalk.i64_in _ (by omega)
        have HJ := Lib.hid hJ
        have HMK := Lib.hid (show (m : Int) = min (K : Int) 6 ∧ m ≤ 8 from by omega)
        clear hm hn
        gi_wp2
        refine ⟨trivial, (callsIn_wide.2 (nil_retire _ _)).mono ?_⟩
        rintro e y1 ⟨rfl, rfl⟩
        gi_wp2
        refine ⟨trivial, (callsIn_wide.2 (nil_verify _ _ _ _)).mono ?_⟩
        rintro e y2 ⟨rfl, rfl⟩
        gi_wp2
        refine ⟨trivial, (callsIn_wide.2 (nil_len _)).mono ?_⟩
        rintro e y3 ⟨rfl, rfl⟩
        gi_wp2
        refine ⟨trivial, (callsIn_wide.2 (epochs_any none _)).mono ?_⟩
        rintro e y4 ⟨rfl, hy4⟩
        have hby4 : Below y3.heap.size y3 y4 := by rw [hy4]; exact (Below.refl _ _).alloc (Nat.le_refl _) _
        have hc4 : y4.cell? ⟨y3.heap.size, 0, none⟩ = some (.pointer none) := by rw [hy4]; exact (Blk.new y3 [.pointer none] _).at (o := 0) rfl
        clear hy4
        gi_wp2
        refine ⟨trivial, (callsIn_wide.2 (collect_nilE _ y4 hc4)).mono ?_⟩
        rintro e y5 ⟨rfl, hby5⟩
        have hb35 : Below y3.heap.size y3 y5 := hby4.trans (hby5.mono hby4.size)
        have HJ5 := Lib.hid (HJ.out.below hb35)
        have HK5 := Lib.hid (show y5.heap[D]? = some (.deferred (some [])) from (hb35.block D (Array.getElem?_eq_some_iff.1 hKD).1).trans hKD)
        have c2 := HJ5.out.bk.cell
        have c3 := HJ5.out.bn.cell
        have c6 := HJ5.out.res.cell
        have f6 := HJ5.out.res.frozen
        have hmin : min (K : Int) 6 = (m : Int) := HMK.out.1.symm
        clear hb35 hby4 hby5 hc4 hKD HJ hJ
        gi_wp2
        have hne : D ≠ w.heap.size := fun e => by
          have h1 := HJ5.out.res
          unfold Boxed at h1
          rw [← e, HK5.out] at h1
          cases h1
        obtain ⟨y6, hy6⟩ : ∃ y6, y6 = y5.setCell ⟨w.heap.size, 0, none⟩ (.bool true) := ⟨_, rfl⟩
        have hK6 : y6.heap[D]? = some (.deferred (some [])) := by rw [hy6]; exact (Below.heap_setCell y5 ⟨w.heap.size, 0, none⟩ _ D hne).trans HK5.out
        have hB6 : Boxed y6 w.heap.size 4 (.bool true) := by rw [hy6]; exact HJ5.out.res.set _
        have hL6 : Below w.heap.size w y6 := by rw [hy6]; exact HJ5.out.low.setCell (p := ⟨w.heap.size, 0, none⟩) (Nat.le_refl _) _
        have hDw : w.heap.size ≤ D := by have := HLZ.out; omega
        have hc7 : (y6.putObj D (.deferred none)).cell? ⟨w.heap.size, 0, none⟩ = some (.bool true) := (Boxed.cell (kc_putObj (b := 0) (o' := .deferred none) hK6 rfl _ _ _ _ (Nat.zero_le _) hB6))
        rw [← hy6]
        show LeavesInM _ _ _ _ _ _ _ _ _
        refine ⟨by simp, .inl ⟨_, _, rfl, run_takeDeferred hK6, ?_⟩⟩
        exact ⟨.bool true, by simp [results, Tryd.results3, go_sem, hc7], rfl, below_putObj hL6 hL6.size hDw⟩
      case body =>
        rintro k bb pre x a' A hbb hbz ⟨hJ, hn⟩ hpre rfl
        obtain ⟨hx, hx6⟩ := pre_n hpre HMJ.out
        obtain ⟨m, hm⟩ : ∃ m, m = pre.length := ⟨_, rfl⟩
        rw [← hm] at hJ hn hx hx6
        have hpl : (pre ++ [x]).length = m + 1 := by rw [hm]; simp
        obtain ⟨hE, hKC, hKF⟩ := hJ.next
        rw [← hz9] at hKC hKF
        have c3 := hJ.bn.cell
        have f3 := hJ.bn.frozen
        have c2 := hJ.bk.cell
        have HPL := Lib.hid hpl
        have HKC := Lib.hid hKC
        have HKF := Lib.hid hKF
        have HE := Lib.hid hE
        obtain ⟨M, hM⟩ : ∃ M, M = m + 1 := ⟨_, rfl⟩
        have hMw : IntKind.u64.wrap ((m : Int) + 1) = (M : Int) := by rw [hM, IntWalk.u64_in _ (by omega)]; omega
        have hMi : IntKind.i64.wrap (M : Int) = (M : Int) := IntWalk.i64_in _ (by omega)
        have hM2 : (m : Int) + 1 = (M : Int) := by omega
        have hMw2 : IntKind.u64.wrap (M : Int) = (M : Int) := IntWalk.u64_in _ (by omega)
        have hxM : (x.n : Int) = (M : Int) := by omega
        rw [← hM] at HE HKC HKF
        rw [← hM] at HPL
        have HM6 := Lib.hid (show M ≤ 6 from by omega)
        simp only [hxM]
        clear hE hKC hKF hpl hJ hx hx6 hm hpre
        by_cases hMK : M = K
        · have e1 : ((M : Int) == (K : Int)) = true := by rw [hMK]; simp
          subst hMK
          clear hn hM hxM e1
          gi_wp2
          exact ⟨HKF.out, rfl, by rw [HPL.out]; exact HE.out, HPL.out, by rw [HPL.out]; exact HM6.out⟩
        · have e1 : ((M : Int) == (K : Int)) = false := beq_eq_false_iff_ne.2 (by omega)
          have HLT := Lib.hid (show M < K from by omega)
          clear hn hM hxM
          gi_wp2
          exact ⟨HKF.out, HKC.out, by rw [HPL.out]; exact HE.out, by rw [HPL.out]; exact HLT.out⟩
end Go.Proofs.YtibkbbkmmomdiaaDoor
