/- (*Box).sumOf: what a tag is composed of. -/
import Derived.Test.YtlnjpmpddomjiaaGreatDoorGmBeSo
import Derived.Test.YtlnjpmpddomjiaaGreatDoorGmBxLooks
import Derived.Lib.SlBytesConst
set_option maxRecDepth 100000
namespace Go.Proofs.YtlnjpmpddomjiaaGreatDoor
open Go.RowKit
attribute [local go_sem] Oper.semAt_some
/-- The numbers that bytes bear, four by four. -/
def numsL : List UInt8 → List Nat
  | a :: b :: c :: d :: r => num4 a b c d :: numsL r
  | _ => []
def suL (es : List EnL) (l : List UInt8) : List Nat × List UInt8 :=
  match tagN l with
  | 0 => ([], l)
  | n + 1 => match es[n]? with
    | some e => if e.kind = 4 then (numsL e.lst, e.mask) else ([n + 1], noughtsL)
    | none => ([], [])
/-- What sumOf leaves. -/
def SuR (w : World) (ns : List Nat) (mk : List UInt8) (r : Ending) (w' : World) : Prop :=
  ∃ vl vm, r = .returned (.agg #[vl, vm]) ∧ JS w' w'.heap.size vl ns ∧ Sl w' w'.heap.size vm mk ∧ Below w.heap.size w w'
theorem info_sum : (Tryz.prog.info? 82).map (·.size) = some 2 := by kernel_rfl
theorem JS.nil (w : World) (B : Nat) : JS w B (.slice none 0 0) [] := ⟨none, 0, rfl, fun _ => rfl, by simp, by omega, fun h => by simp at h⟩
set_option maxHeartbeats 4000000 in
theorem sumOf_mask {w : World} {b : Nat} {v : Value} {l : List UInt8} (hv : Sl w w.heap.size v l) (ht : tagN l = 0) :
    Calls Tryz.prog 38 #[tP b, v] w (SuR w [] l) := by
  have HV := Lib.hid hv
  obtain ⟨A, c, rfl, _⟩ := hv
  obtain ⟨W1, hW1⟩ : ∃ W, W = w.alloc (.cells #[.slice none 0 0, .slice none 0 0] 82) := ⟨_, rfl⟩
  have HB1 := Lib.hid (show Below w.heap.size w W1 from by rw [hW1]; exact (Below.refl _ _).alloc (Nat.le_refl _) _)
  have HK1 := Lib.hid (show Blk W1 w.heap.size [.slice none 0 0, .slice none 0 0] from by rw [hW1]; exact Blk.new w _ _)
  have hn := number_all w.heap.size _ l W1 (HV.out.below HB1.out (Nat.le_refl _))
  rw [ht] at hn
  have HN := Lib.hid hn; clear hn
  go_enter Tryz.func38, Tryz.ntmps38
  go_wp2_with fail
  rw [← hW1]
  clear hW1
  refine HN.out.mono ?_
  rintro e W2 ⟨rfl, q, hq⟩
  have HB2 := Lib.hid (show Below W1.heap.size W1 W2 from by rw [hq]; exact ⟨rfl, rfl, rfl, Nat.le_refl _, fun _ _ => rfl⟩)
  have HK2 := Lib.hid (HK1.out.below HB2.out HK1.out.lt)
  clear hq
  have hdec : decide (0 < 0) = false := rfl
  rw [hdec]
  have k0 := HK2.out.at (o := 0) rfl
  have k1 := HK2.out.at (o := 1) rfl
  have f0 := HK2.out.free 0
  have f1 := HK2.out.free 1
  go_wp2_with fail
  have hlow := ((HB1.out.trans (HB2.out.mono HB1.out.size)).setCell (p := ⟨w.heap.size, 0, none⟩) (Nat.le_refl _) (.slice none 0 0)).setCell (p := ⟨w.heap.size, 1, none⟩) (Nat.le_refl _) (.slice A l.length c)
  obtain ⟨t, ht⟩ := (HK2.out.set 0 (.slice none 0 0)).set 1 (.slice A l.length c)
  refine bodyPost_ret (v := .agg #[.slice none 0 0, .slice A l.length c]) ?_ rfl ?_
  · exact results_cell_row rfl _ _ w.heap.size t _ _ _ rfl ht Tryz.underlying82 rfl info_sum
  · exact ⟨_, _, rfl, JS.nil _ _, (HV.out.below hlow (Nat.le_refl _)).more hlow.size, hlow⟩
theorem info_en6 : (Tryz.prog.info? 78).map (·.size) = some 6 := by kernel_rfl
set_option maxHeartbeats 4000000 in
theorem sumOf_one {w : World} {base b m k : Nat} {rv v : Value} {sym full : Bool} {es : List EnL} {l : List UInt8} (h : BX w base b m rv sym full es) (hv : Sl w w.heap.size v l) (ht : tagN l = k + 1) (hk : k < es.length) (hkd : (es[k]'hk).kind ≠ 4) :
    Calls Tryz.prog 38 #[tP b, v] w (SuR w [k + 1] noughtsL) := by
  have HV := Lib.hid hv
  have HX := Lib.hid h
  have hle := h.le
  obtain ⟨A, c, rfl, _⟩ := hv
  have hel := OwnE.elIn h.row
  obtain ⟨RA, rc, rfl, hrc1, hrc2⟩ := h.row.form
  obtain ⟨g, o, rfl, hgl, e0, e1, e2, e3, e4, e5⟩ := hel.six k hk
  have HEL := Lib.hid hel
  clear hel e0 e1 e2 e3 e4 e5 h
  obtain ⟨W1, hW1⟩ : ∃ W, W = w.alloc (.cells #[.slice none 0 0, .slice none 0 0] 82) := ⟨_, rfl⟩
  have HB1 := Lib.hid (show Below w.heap.size w W1 from by rw [hW1]; exact (Below.refl _ _).alloc (Nat.le_refl _) _)
  have HK1 := Lib.hid (show Blk W1 w.heap.size [.slice none 0 0, .slice none 0 0] from by rw [hW1]; exact Blk.new w _ _)
  have hz1 : W1.heap.size = w.heap.size + 1 := by rw [hW1]; simp
  have hn := number_all w.heap.size _ l W1 (HV.out.below HB1.out (Nat.le_refl _))
  rw [ht] at hn
  have HN := Lib.hid hn; clear hn
  go_enter Tryz.func38, Tryz.ntmps38
  go_wp2_with fail
  rw [← hW1]
  clear hW1
  refine HN.out.mono ?_
  rintro e W2 ⟨rfl, q, hq⟩
  have HB2 := Lib.hid (show Below W1.heap.size W1 W2 from by rw [hq]; exact ⟨rfl, rfl, rfl, Nat.le_refl _, fun _ _ => rfl⟩)
  have hz2 : W2.heap.size = w.heap.size + 1 := by rw [hq]; exact hz1
  have HB12 := Lib.hid (HB1.out.trans (HB2.out.mono HB1.out.size))
  have HK2 := Lib.hid (HK1.out.below HB2.out HK1.out.lt)
  clear hq
  have hdec : decide (0 < k + 1) = true := rfl
  rw [hdec]
  have HX2 := Lib.hid (HX.out.below HB12.out)
  have k2 := HX2.out.blk.at (o := 2) rfl
  obtain ⟨g', o', eg, hgl', e0, e1, e2, e3, e4, e5⟩ := (HEL.out.below HB12.out (Nat.le_refl _)).six k hk
  injection eg with eg
  injection eg with eg1 eg2
  subst eg1 eg2
  obtain ⟨E, hE⟩ : ∃ E, E = es[k] := ⟨_, rfl⟩
  rw [← hE] at e0 e1 e2 e3 e4 e5 hkd
  have hlt : (k : Int) < (es.length : Int) := by omega
  have hcast : ((k + 1 : Nat) : Int) - 1 = (k : Int) := by omega
  have HZ := Lib.hid hE
  clear hE
  obtain ⟨kd, ky, tx, ro, ls, mk⟩ := E
  simp only at e0 e1 e2 e3 e4 e5 hkd
  have r0 := HK2.out.at (o := 0) rfl
  have r1 := HK2.out.at (o := 1) rfl
  have f0 := HK2.out.free 0
  have f1 := HK2.out.free 1
  have hkz : o + 6 * k = o + k * 6 := by omega
  have hkb : (kd == (4 : Int)) = false := by rw [beq_eq_false_iff_ne]; exact hkd
  obtain ⟨C, hC⟩ : ∃ C : Array Value, C = #[.int .u8 0, .int .u8 0, .int .u8 0, .int .u8 0, .int .u8 0, .int .u8 0, .int .u8 0, .int .u8 0, .int .u8 0, .int .u8 0, .int .u8 0, .int .u8 0, .int .u8 0, .int .u8 0, .int .u8 0, .int .u8 0, .int .u8 0, .int .u8 0, .int .u8 0, .int .u8 0, .int .u8 0, .int .u8 0, .int .u8 0, .int .u8 0, .int .u8 0, .int .u8 0, .int .u8 0, .int .u8 0, .int .u8 0, .int .u8 0, .int .u8 0, .int .u8 0] := ⟨_, rfl⟩
  have hCs : C.size = 32 := by rw [hC]; rfl
  have hCv : ∀ j, j < 32 → C[j]? = some (vb 0) := by
    intro j hj
    rw [hC]
    match j, hj with
    | 0, _ => rfl
    | 1, _ => rfl
    | 2, _ => rfl
    | 3, _ => rfl
    | 4, _ => rfl
    | 5, _ => rfl
    | 6, _ => rfl
    | 7, _ => rfl
    | 8, _ => rfl
    | 9, _ => rfl
    | 10, _ => rfl
    | 11, _ => rfl
    | 12, _ => rfl
    | 13, _ => rfl
    | 14, _ => rfl
    | 15, _ => rfl
    | 16, _ => rfl
    | 17, _ => rfl
    | 18, _ => rfl
    | 19, _ => rfl
    | 20, _ => rfl
    | 21, _ => rfl
    | 22, _ => rfl
    | 23, _ => rfl
    | 24, _ => rfl
    | 25, _ => rfl
    | 26, _ => rfl
    | 27, _ => rfl
    | 28, _ => rfl
    | 29, _ => rfl
    | 30, _ => rfl
    | 31, _ => rfl
    | j + 32, hj => omega
  obtain ⟨W5, hW5⟩ : ∃ W, W = (W2.alloc (.cells #[.int .i64 kd, str ky, str tx, .int .i64 ro, str ls, str mk] 78)).alloc (.cells #[.int .i64 ((k : Int) + 1)] 3) := ⟨_, rfl⟩
  have hz5 : W5.heap.size = w.heap.size + 1 + 1 + 1 := by rw [hW5]; simp [hz2]
  obtain ⟨W6, hW6⟩ : ∃ W, W = W5.alloc (.cells C 5 (C.size, C.size + 1)) := ⟨_, rfl⟩
  have hcv := Lib.run_convert_bytes_const (P := Tryz.prog) W5 34 5 C 32 32 Tryz.underlying34 Tryz.underlying5
  rw [← hW6, hz5] at hcv
  have HB25 := Lib.hid (show Below W2.heap.size W2 W5 from by rw [hW5]; exact ((Below.refl _ _).alloc (Nat.le_refl _) _).alloc (by simp) _)
  have HB56 := Lib.hid (show Below W5.heap.size W5 W6 from by rw [hW6]; exact (Below.refl _ _).alloc (Nat.le_refl _) _)
  have hz25 := HB25.out.size
  have hz56 := HB56.out.size
  have HK6 := Lib.hid ((HK2.out.below HB25.out (by omega)).below HB56.out (by omega))
  have hn5 : W5.heap[w.heap.size + 2]? = some (.cells #[jv (k + 1)] 3 (0, 0)) := by
    have := heap_alloc_new (W2.alloc (.cells #[.int .i64 kd, str ky, str tx, .int .i64 ro, str ls, str mk] 78)) (.cells #[jv (k + 1)] 3)
    rw [World.size_alloc, hz2] at this
    rw [hW5]
    exact this
  have HN6 := Lib.hid ((HB56.out.block _ (by omega)).trans hn5)
  have HC6 := Lib.hid (show W6.heap[w.heap.size + 3]? = some (.cells C 5 (C.size, C.size + 1)) from by
    have := heap_alloc_new W5 (.cells C 5 (C.size, C.size + 1))
    rw [hz5] at this
    rw [hW6]
    exact this)
  have HCv := Lib.hid hCv
  have hz6 : W6.heap.size = w.heap.size + 4 := by rw [hW6]; simp [hz5]
  have r06 := HK6.out.at (o := 0) rfl
  have r16 := HK6.out.at (o := 1) rfl
  have f06 := HK6.out.free 0
  have f16 := HK6.out.free 1
  rw [hC, hW5] at hcv
  clear hW6 hn5 hCv
  clear r0 r1 f0 f1
  go_wp2_with fail
  have hlow := ((HB12.out.trans ((HB25.out.mono (by omega)).trans (HB56.out.mono (by omega)))).setCell (p := ⟨w.heap.size, 0, none⟩) (Nat.le_refl _) (.slice (some ⟨w.heap.size + 2, 0, none⟩) 1 1)).setCell (p := ⟨w.heap.size, 1, none⟩) (Nat.le_refl _) (.slice (some ⟨w.heap.size + 3, 0, none⟩) 32 32)
  obtain ⟨t, htt⟩ := (HK6.out.set 0 (.slice (some ⟨w.heap.size + 2, 0, none⟩) 1 1)).set 1 (.slice (some ⟨w.heap.size + 3, 0, none⟩) 32 32)
  have hblk : ∀ j, j ≠ w.heap.size → ((W6.setCell ⟨w.heap.size, 0, none⟩ (.slice (some ⟨w.heap.size + 2, 0, none⟩) 1 1)).setCell ⟨w.heap.size, 1, none⟩ (.slice (some ⟨w.heap.size + 3, 0, none⟩) 32 32)).heap[j]? = W6.heap[j]? := by
    intro j hj
    simp only [World.setCell]
    rw [Array.getElem?_modify, if_neg (by simpa using Ne.symm hj), Array.getElem?_modify, if_neg (by simpa using Ne.symm hj)]
  have hb2 := (hblk (w.heap.size + 2) (by omega)).trans HN6.out
  have hb3 := (hblk (w.heap.size + 3) (by omega)).trans HC6.out
  have hzf : ((W6.setCell ⟨w.heap.size, 0, none⟩ (.slice (some ⟨w.heap.size + 2, 0, none⟩) 1 1)).setCell ⟨w.heap.size, 1, none⟩ (.slice (some ⟨w.heap.size + 3, 0, none⟩) 32 32)).heap.size = w.heap.size + 4 := by simp [hz6]
  refine bodyPost_ret (v := .agg #[.slice (some ⟨w.heap.size + 2, 0, none⟩) 1 1, .slice (some ⟨w.heap.size + 3, 0, none⟩) 32 32]) ?_ rfl ?_
  · exact results_cell_row rfl _ _ w.heap.size t _ _ _ rfl htt Tryz.underlying82 rfl info_sum
  · refine ⟨_, _, rfl, ?_, ?_, hlow⟩
    · refine ⟨_, 1, rfl, (fun e => by cases e), by simp, by omega, fun _ => ⟨w.heap.size + 2, 0, rfl, Nat.lt_of_lt_of_eq (show w.heap.size + 2 < w.heap.size + 4 by omega) hzf.symm, fun j hj => ?_⟩⟩
      obtain rfl : j = 0 := by simpa using hj
      simp [World.cell?, hb2]
    · refine ⟨_, 32, rfl, (fun e => by cases e), by decide, by omega, fun _ => ⟨w.heap.size + 3, 0, rfl, Nat.lt_of_lt_of_eq (show w.heap.size + 3 < w.heap.size + 4 by omega) hzf.symm, fun j hj => ?_⟩⟩
      have hj' : j < 32 := by simpa [noughtsL] using hj
      rw [Nat.zero_add]
      have e0 : noughtsL[j]'hj = 0 := List.getElem_replicate _
      rw [e0]
      simp [World.cell?, hb3, HCv.out j hj']
theorem su_fin {Y : World} {B n gm cm : Nat} {vl vm : Value} {ns : List Nat} {mk : List UInt8} {p0 p1 : Value} (ho : OwnJ Y B vl ns) (hB : n < B) (hb : Bk Y gm mk) (hg : n < gm) (hvm : vm = .slice (some ⟨gm, 0, none⟩) mk.length cm) (h1 : mk.length ≤ cm) (h2 : cm ≤ 9223372036854775807) :
    JS ((Y.setCell ⟨n, 0, none⟩ p0).setCell ⟨n, 1, none⟩ p1) ((Y.setCell ⟨n, 0, none⟩ p0).setCell ⟨n, 1, none⟩ p1).heap.size vl ns ∧ Sl ((Y.setCell ⟨n, 0, none⟩ p0).setCell ⟨n, 1, none⟩ p1) ((Y.setCell ⟨n, 0, none⟩ p0).setCell ⟨n, 1, none⟩ p1).heap.size vm mk := by
  have g1 := grown_set Y ⟨n, 0, none⟩ p0
  have g2 := grown_set (Y.setCell ⟨n, 0, none⟩ p0) ⟨n, 1, none⟩ p1
  have hne : vl.ownBlock ≠ some n := fun e => by have := (OwnJ.lt ho n e).1; omega
  have o2 : OwnJ ((Y.setCell ⟨n, 0, none⟩ p0).setCell ⟨n, 1, none⟩ p1) B vl ns := World.ownsRow.kept (World.ownsRow.kept ho g1 (.inr hne)) g2 (.inr hne)
  have hs1 := g1.size
  have hs2 := g2.size
  have b1 := hb.at (g1.block gm hb.lt (fun e => by have h : gm = n := Option.some.inj e; omega))
  have b2 := b1.at (g2.block gm b1.lt (fun e => by have h : gm = n := Option.some.inj e; omega))
  refine ⟨o2.js, some ⟨gm, 0, none⟩, cm, hvm, (fun e => by cases e), h1, h2, fun _ => ⟨gm, 0, rfl, b2.lt, b2.bs⟩⟩
set_option maxHeartbeats 8000000 in
theorem sumOf_turn {w : World} {base b m k : Nat} {rv v : Value} {sym full : Bool} {es : List EnL} {l : List UInt8} (h : BX w base b m rv sym full es) (hv : Sl w w.heap.size v l) (ht : tagN l = k + 1) (hk : k < es.length) (hkd : (es[k]'hk).kind = 4) (ns : List Nat) (hns : ns.length ≤ 5000) (hls : (es[k]'hk).lst = (ns.map len4).flatten) (hn32 : ∀ x ∈ ns, x < 4294967296) (hmk : (es[k]'hk).mask.length ≤ 100000) (M : List UInt8) (hM : (es[k]'hk).mask = M) :
    Calls Tryz.prog 38 #[tP b, v] w (SuR w ns M) := by
  have HV := Lib.hid hv
  have HX := Lib.hid h
  have hle := h.le
  obtain ⟨A, c, rfl, _⟩ := hv
  have hel := OwnE.elIn h.row
  obtain ⟨RA, rc, rfl, hrc1, hrc2⟩ := h.row.form
  obtain ⟨g, o, rfl, hgl, e0, e1, e2, e3, e4, e5⟩ := hel.six k hk
  have HEL := Lib.hid hel
  clear hel e0 e1 e2 e3 e4 e5 h
  obtain ⟨W1, hW1⟩ : ∃ W, W = w.alloc (.cells #[.slice none 0 0, .slice none 0 0] 82) := ⟨_, rfl⟩
  have HB1 := Lib.hid (show Below w.heap.size w W1 from by rw [hW1]; exact (Below.refl _ _).alloc (Nat.le_refl _) _)
  have HK1 := Lib.hid (show Blk W1 w.heap.size [.slice none 0 0, .slice none 0 0] from by rw [hW1]; exact Blk.new w _ _)
  have hz1 : W1.heap.size = w.heap.size + 1 := by rw [hW1]; simp
  have hn := number_all w.heap.size _ l W1 (HV.out.below HB1.out (Nat.le_refl _))
  rw [ht] at hn
  have HN := Lib.hid hn; clear hn
  go_enter Tryz.func38, Tryz.ntmps38
  go_wp2_with fail
  rw [← hW1]
  clear hW1
  refine HN.out.mono ?_
  rintro e W2 ⟨rfl, q, hq⟩
  have HB2 := Lib.hid (show Below W1.heap.size W1 W2 from by rw [hq]; exact ⟨rfl, rfl, rfl, Nat.le_refl _, fun _ _ => rfl⟩)
  have hz2 : W2.heap.size = w.heap.size + 1 := by rw [hq]; exact hz1
  have HB12 := Lib.hid (HB1.out.trans (HB2.out.mono HB1.out.size))
  have HK2 := Lib.hid (HK1.out.below HB2.out HK1.out.lt)
  clear hq
  have hdec : decide (0 < k + 1) = true := rfl
  rw [hdec]
  have HX2 := Lib.hid (HX.out.below HB12.out)
  have k2 := HX2.out.blk.at (o := 2) rfl
  obtain ⟨g', o', eg, hgl', e0, e1, e2, e3, e4, e5⟩ := (HEL.out.below HB12.out (Nat.le_refl _)).six k hk
  injection eg with eg
  injection eg with eg1 eg2
  subst eg1 eg2
  obtain ⟨E, hE⟩ : ∃ E, E = es[k] := ⟨_, rfl⟩
  rw [← hE] at e0 e1 e2 e3 e4 e5 hkd hls hmk hM
  have hlt : (k : Int) < (es.length : Int) := by omega
  have hcast : ((k + 1 : Nat) : Int) - 1 = (k : Int) := by omega
  have HZ := Lib.hid hE
  clear hE
  obtain ⟨kd, ky, tx, ro, ls, mk⟩ := E
  simp only at e0 e1 e2 e3 e4 e5 hkd hls hmk hM
  have r0 := HK2.out.at (o := 0) rfl
  have r1 := HK2.out.at (o := 1) rfl
  have f0 := HK2.out.free 0
  have f1 := HK2.out.free 1
  have hkz : o + 6 * k = o + k * 6 := by omega
  subst hkd
  subst hM
  have HNU := Lib.hid (fun X => numbers_any ⟨(4 : Int), ky, tx, ro, ls, mk⟩ ns X hns hls hn32)
  have HCV := Lib.hid (fun X => conv_bk mk X hmk)
  clear hls hn32 hns
  go_wp2_with fail
  obtain ⟨W3, hW3⟩ : ∃ W, W = (W2.alloc (.cells #[.int .i64 4, str ky, str tx, .int .i64 ro, str ls, str mk] 78)).drew := ⟨_, rfl⟩
  have HB3 := Lib.hid (show Below W2.heap.size W2 W3 from by rw [hW3]; exact ((Below.refl _ _).alloc (Nat.le_refl _) _).drew)
  have hz3 : W3.heap.size = w.heap.size + 2 := by rw [hW3]; simp [hz2]
  have HE3 := Lib.hid (show Blk W3 (w.heap.size + 1) (ecl ⟨(4 : Int), ky, tx, ro, ls, mk⟩) from by rw [hW3, ← hz2]; exact (Blk.new W2 (ecl ⟨(4 : Int), ky, tx, ro, ls, mk⟩) _).drew)
  have HK3 := Lib.hid (HK2.out.below HB3.out (by omega))
  refine wp_region_noPanic ?_
  refine wp_region_held (S := fun W => W.cell? ⟨w.heap.size + 1, 0, none⟩ = some (.int .i64 4) ∧ W.cell? ⟨w.heap.size + 1, 1, none⟩ = some (str ky) ∧ W.cell? ⟨w.heap.size + 1, 2, none⟩ = some (str tx) ∧ W.cell? ⟨w.heap.size + 1, 3, none⟩ = some (.int .i64 ro) ∧ W.cell? ⟨w.heap.size + 1, 4, none⟩ = some (str ls) ∧ W.cell? ⟨w.heap.size + 1, 5, none⟩ = some (str mk)) (by kernel_rfl) ?_
  change wpAnyH _ _ _ _ _ _ _ _ (W2.alloc (.cells #[.int .i64 4, str ky, str tx, .int .i64 ro, str ls, str mk] 78)).drew
  rw [← hW3]
  clear hW3 r0 r1 f0 f1
  refine takeH 0 33 (.agg #[.int .i64 4, str ky, str tx, .int .i64 ro, str ls, str mk]) rfl rfl (by kernel_rfl) (by kernel_rfl) (by kernel_rfl) (fun _ _ _ h => h) rfl (fun w' h => by obtain ⟨h0, h1, h2, h3, h4, h5⟩ := h; go_simp) ⟨HE3.out.at (o := 0) rfl, HE3.out.at (o := 1) rfl, HE3.out.at (o := 2) rfl, HE3.out.at (o := 3) rfl, HE3.out.at (o := 4) rfl, HE3.out.at (o := 5) rfl⟩ ?_
  go_frame
  refine takeH 2 35 (.pointer (some ⟨w.heap.size + 1, 5, none⟩)) rfl rfl (by kernel_rfl) (by kernel_rfl) (by kernel_rfl) (fun _ _ _ h => h) rfl (fun w' h => by obtain ⟨h0, h1, h2, h3, h4, h5⟩ := h; go_simp) ⟨HE3.out.at (o := 0) rfl, HE3.out.at (o := 1) rfl, HE3.out.at (o := 2) rfl, HE3.out.at (o := 3) rfl, HE3.out.at (o := 4) rfl, HE3.out.at (o := 5) rfl⟩ ?_
  go_frame
  refine takeH 3 36 (str mk) rfl rfl (by kernel_rfl) (by kernel_rfl) (by kernel_rfl) (fun _ _ _ h => h) rfl (fun w' h => by obtain ⟨h0, h1, h2, h3, h4, h5⟩ := h; go_simp) ⟨HE3.out.at (o := 0) rfl, HE3.out.at (o := 1) rfl, HE3.out.at (o := 2) rfl, HE3.out.at (o := 3) rfl, HE3.out.at (o := 4) rfl, HE3.out.at (o := 5) rfl⟩ ?_
  go_frame
  refine wpAnyH_all (rs := [1, 4]) (by kernel_rfl) (by simp) ?_
  simp only [List.mem_cons, List.not_mem_nil, or_false, forall_eq_or_imp, forall_eq]
  refine ⟨?_, ?_⟩
  · refine wpOp_callD 34 rfl rfl rfl 61 #[eagg ⟨(4 : Int), ky, tx, ro, ls, mk⟩] (by unfold eagg; go_simp) ?_
    refine (HNU.out W3).mono ?_
    rintro e Y1 ⟨vn, rfl, hOn, hBn⟩
    have HON := Lib.hid hOn
    have HBN := Lib.hid hBn
    clear hOn hBn
    refine ⟨_, rfl, ⟨(HE3.out.below HBN.out (by omega)).at (o := 0) rfl, (HE3.out.below HBN.out (by omega)).at (o := 1) rfl, (HE3.out.below HBN.out (by omega)).at (o := 2) rfl, (HE3.out.below HBN.out (by omega)).at (o := 3) rfl, (HE3.out.below HBN.out (by omega)).at (o := 4) rfl, (HE3.out.below HBN.out (by omega)).at (o := 5) rfl⟩, ?_⟩
    go_frame
    refine wpAnyH_all (rs := [4]) (by kernel_rfl) (by simp) ?_
    simp only [List.mem_singleton, forall_eq]
    obtain ⟨cm, Y2, hcv, hbc, hbk, hcm1, hcm2, _⟩ := HCV.out Y1
    have HY2 := Lib.hid (HBN.out.trans (hbc.mono HBN.out.size))
    obtain ⟨gm, hgm⟩ : ∃ g, g = Y1.heap.size := ⟨_, rfl⟩
    rw [← hgm] at hcv hbk
    have HOJ := Lib.hid (HON.out.below hbc)
    have hgz : w.heap.size < gm := by have := HBN.out.size; omega
    have HBK := Lib.hid hbk
    refine wpOp_valueE 37 rfl rfl rfl (.slice (some ⟨gm, 0, none⟩) mk.length cm) Y2 (by go_simp) ⟨⟨(HE3.out.below HY2.out (by omega)).at (o := 0) rfl, (HE3.out.below HY2.out (by omega)).at (o := 1) rfl, (HE3.out.below HY2.out (by omega)).at (o := 2) rfl, (HE3.out.below HY2.out (by omega)).at (o := 3) rfl, (HE3.out.below HY2.out (by omega)).at (o := 4) rfl, (HE3.out.below HY2.out (by omega)).at (o := 5) rfl⟩, ?_⟩
    clear hcv hbc hbk
    go_frame
    have HY := Lib.hid (show Below W3.heap.size W3 Y2 from HY2.out)
    have hzY := HY.out.size
    have HK5 := Lib.hid (HK3.out.below HY.out (by omega))
    have HE5 := Lib.hid (HE3.out.below HY.out (by omega))
    obtain ⟨An, cn, rfl, _⟩ := HOJ.out.jIn
    refine takeH 5 38 (.agg #[.slice An ns.length cn, .slice (some ⟨gm, 0, none⟩) mk.length cm]) rfl rfl (by kernel_rfl) (by kernel_rfl) (by kernel_rfl) (fun _ _ _ h => h) rfl (fun w' h => by obtain ⟨h0, h1, h2, h3, h4, h5⟩ := h; go_simp) ⟨HE5.out.at (o := 0) rfl, HE5.out.at (o := 1) rfl, HE5.out.at (o := 2) rfl, HE5.out.at (o := 3) rfl, HE5.out.at (o := 4) rfl, HE5.out.at (o := 5) rfl⟩ ?_
    go_frame
    refine wpAnyH_all (rs := [6]) (by kernel_rfl) (by simp) ?_
    simp only [List.mem_singleton, forall_eq]
    have r06 := HK5.out.at (o := 0) rfl
    have r16 := HK5.out.at (o := 1) rfl
    have f06 := HK5.out.free 0
    have f16 := HK5.out.free 1
    obtain ⟨tt, htt⟩ := (HK5.out.set 0 (.slice An ns.length cn)).set 1 (.slice (some ⟨gm, 0, none⟩) mk.length cm)
    have hlow := ((HB12.out.trans ((HB3.out.mono (by omega)).trans (HY.out.mono (by omega)))).setCell (p := ⟨w.heap.size, 0, none⟩) (Nat.le_refl _) (.slice An ns.length cn)).setCell (p := ⟨w.heap.size, 1, none⟩) (Nat.le_refl _) (.slice (some ⟨gm, 0, none⟩) mk.length cm)
    have HEF := Lib.hid ((HE5.out.setOther (a := ⟨w.heap.size, 0, none⟩) (by simp) (.slice An ns.length cn)).setOther (a := ⟨w.heap.size, 1, none⟩) (by simp) (.slice (some ⟨gm, 0, none⟩) mk.length cm))
    have HSF := Lib.hid (su_fin (n := w.heap.size) (p0 := .slice An ns.length cn) (p1 := .slice (some ⟨gm, 0, none⟩) mk.length cm) HOJ.out (by omega) HBK.out hgz rfl hcm1 hcm2)
    have HTT := Lib.hid htt
    have HLOW := Lib.hid hlow
    clear htt hlow
    refine wpOp_storeE rfl rfl rfl (w' := (Y2.setCell ⟨w.heap.size, 0, none⟩ (.slice An ns.length cn)).setCell ⟨w.heap.size, 1, none⟩ (.slice (some ⟨gm, 0, none⟩) mk.length cm)) (by go_simp) ⟨⟨HEF.out.at (o := 0) rfl, HEF.out.at (o := 1) rfl, HEF.out.at (o := 2) rfl, HEF.out.at (o := 3) rfl, HEF.out.at (o := 4) rfl, HEF.out.at (o := 5) rfl⟩, ?_⟩
    refine wpAnyH_done (by kernel_rfl) ?_ _
    refine NoPanic.normal ?_
    clear r06 r16 f06 f16
    go_wp2_with fail
    refine bodyPost_ret (v := .agg #[.slice An ns.length cn, .slice (some ⟨gm, 0, none⟩) mk.length cm]) ?_ rfl ?_
    · exact results_cell_row rfl _ _ w.heap.size tt _ _ _ rfl HTT.out Tryz.underlying82 rfl info_sum
    · exact ⟨_, _, rfl, HSF.out.1, HSF.out.2, HLOW.out⟩
  · obtain ⟨cm, Y1, hcv, hbc, hbk, hcm1, hcm2, _⟩ := HCV.out W3
    have HBC := Lib.hid hbc
    obtain ⟨gm, hgm⟩ : ∃ g, g = W3.heap.size := ⟨_, rfl⟩
    rw [← hgm] at hcv hbk
    have hgz : w.heap.size < gm := by omega
    refine wpOp_valueE 37 rfl rfl rfl (.slice (some ⟨gm, 0, none⟩) mk.length cm) Y1 (by go_simp) ⟨⟨(HE3.out.below HBC.out (by omega)).at (o := 0) rfl, (HE3.out.below HBC.out (by omega)).at (o := 1) rfl, (HE3.out.below HBC.out (by omega)).at (o := 2) rfl, (HE3.out.below HBC.out (by omega)).at (o := 3) rfl, (HE3.out.below HBC.out (by omega)).at (o := 4) rfl, (HE3.out.below HBC.out (by omega)).at (o := 5) rfl⟩, ?_⟩
    clear hcv hbc
    go_frame
    refine wpAnyH_all (rs := [1]) (by kernel_rfl) (by simp) ?_
    simp only [List.mem_singleton, forall_eq]
    refine wpOp_callD 34 rfl rfl rfl 61 #[eagg ⟨(4 : Int), ky, tx, ro, ls, mk⟩] (by unfold eagg; go_simp) ?_
    refine (HNU.out Y1).mono ?_
    rintro e Y2 ⟨vn, rfl, hOn, hBn⟩
    have HON := Lib.hid hOn
    have HBN := Lib.hid hBn
    clear hOn hBn
    have HY2 := Lib.hid (HBC.out.trans (HBN.out.mono HBC.out.size))
    have HOJ := Lib.hid (HON.out.le HBC.out.size)
    have HBK := Lib.hid (hbk.at (HBN.out.block gm hbk.lt))
    clear hbk
    refine ⟨_, rfl, ⟨(HE3.out.below HY2.out (by omega)).at (o := 0) rfl, (HE3.out.below HY2.out (by omega)).at (o := 1) rfl, (HE3.out.below HY2.out (by omega)).at (o := 2) rfl, (HE3.out.below HY2.out (by omega)).at (o := 3) rfl, (HE3.out.below HY2.out (by omega)).at (o := 4) rfl, (HE3.out.below HY2.out (by omega)).at (o := 5) rfl⟩, ?_⟩
    go_frame
    have HY := Lib.hid (show Below W3.heap.size W3 Y2 from HY2.out)
    have hzY := HY.out.size
    have HK5 := Lib.hid (HK3.out.below HY.out (by omega))
    have HE5 := Lib.hid (HE3.out.below HY.out (by omega))
    obtain ⟨An, cn, rfl, _⟩ := HOJ.out.jIn
    refine takeH 5 38 (.agg #[.slice An ns.length cn, .slice (some ⟨gm, 0, none⟩) mk.length cm]) rfl rfl (by kernel_rfl) (by kernel_rfl) (by kernel_rfl) (fun _ _ _ h => h) rfl (fun w' h => by obtain ⟨h0, h1, h2, h3, h4, h5⟩ := h; go_simp) ⟨HE5.out.at (o := 0) rfl, HE5.out.at (o := 1) rfl, HE5.out.at (o := 2) rfl, HE5.out.at (o := 3) rfl, HE5.out.at (o := 4) rfl, HE5.out.at (o := 5) rfl⟩ ?_
    go_frame
    refine wpAnyH_all (rs := [6]) (by kernel_rfl) (by simp) ?_
    simp only [List.mem_singleton, forall_eq]
    have r06 := HK5.out.at (o := 0) rfl
    have r16 := HK5.out.at (o := 1) rfl
    have f06 := HK5.out.free 0
    have f16 := HK5.out.free 1
    obtain ⟨tt, htt⟩ := (HK5.out.set 0 (.slice An ns.length cn)).set 1 (.slice (some ⟨gm, 0, none⟩) mk.length cm)
    have hlow := ((HB12.out.trans ((HB3.out.mono (by omega)).trans (HY.out.mono (by omega)))).setCell (p := ⟨w.heap.size, 0, none⟩) (Nat.le_refl _) (.slice An ns.length cn)).setCell (p := ⟨w.heap.size, 1, none⟩) (Nat.le_refl _) (.slice (some ⟨gm, 0, none⟩) mk.length cm)
    have HEF := Lib.hid ((HE5.out.setOther (a := ⟨w.heap.size, 0, none⟩) (by simp) (.slice An ns.length cn)).setOther (a := ⟨w.heap.size, 1, none⟩) (by simp) (.slice (some ⟨gm, 0, none⟩) mk.length cm))
    have HSF := Lib.hid (su_fin (n := w.heap.size) (p0 := .slice An ns.length cn) (p1 := .slice (some ⟨gm, 0, none⟩) mk.length cm) HOJ.out (by omega) HBK.out hgz rfl hcm1 hcm2)
    have HTT := Lib.hid htt
    have HLOW := Lib.hid hlow
    clear htt hlow
    refine wpOp_storeE rfl rfl rfl (w' := (Y2.setCell ⟨w.heap.size, 0, none⟩ (.slice An ns.length cn)).setCell ⟨w.heap.size, 1, none⟩ (.slice (some ⟨gm, 0, none⟩) mk.length cm)) (by go_simp) ⟨⟨HEF.out.at (o := 0) rfl, HEF.out.at (o := 1) rfl, HEF.out.at (o := 2) rfl, HEF.out.at (o := 3) rfl, HEF.out.at (o := 4) rfl, HEF.out.at (o := 5) rfl⟩, ?_⟩
    refine wpAnyH_done (by kernel_rfl) ?_ _
    refine NoPanic.normal ?_
    clear r06 r16 f06 f16
    go_wp2_with fail
    refine bodyPost_ret (v := .agg #[.slice An ns.length cn, .slice (some ⟨gm, 0, none⟩) mk.length cm]) ?_ rfl ?_
    · exact results_cell_row rfl _ _ w.heap.size tt _ _ _ rfl HTT.out Tryz.underlying82 rfl info_sum
    · exact ⟨_, _, rfl, HSF.out.1, HSF.out.2, HLOW.out⟩
theorem numsL_flat : ∀ (ns : List Nat) (_ : ∀ x ∈ ns, x < 4294967296), numsL (ns.map len4).flatten = ns
  | [], _ => rfl
  | x :: t, h => by
    have hx := num4_len4 x (h x (by simp))
    have ht := numsL_flat t (fun y hy => h y (by simp [hy]))
    show num4 (UInt8.ofNat (x / 16777216)) (UInt8.ofNat (x / 65536)) (UInt8.ofNat (x / 256)) (UInt8.ofNat x) :: numsL (t.map len4).flatten = x :: t
    rw [hx, ht]
/-- The turned ones among the entries bear their numbers four by four. -/
def OkT (es : List EnL) : Prop := ∀ e ∈ es, e.kind = 4 → (∃ ns : List Nat, e.lst = (ns.map len4).flatten ∧ ns.length ≤ 5000 ∧ ∀ x ∈ ns, x < 4294967296) ∧ e.mask.length ≤ 100000
theorem sumOf_any {w : World} {base b m : Nat} {rv v : Value} {sym full : Bool} {es : List EnL} {l : List UInt8} (h : BX w base b m rv sym full es) (hT : OkT es) (hv : Sl w w.heap.size v l) (hl : tagN l ≤ es.length) :
    Calls Tryz.prog 38 #[tP b, v] w (SuR w (suL es l).1 (suL es l).2) := by
  unfold suL
  cases ht : tagN l with
  | zero => exact sumOf_mask hv ht
  | succ k =>
    have hk : k < es.length := by omega
    simp only [List.getElem?_eq_getElem hk]
    by_cases hkd : (es[k]'hk).kind = 4
    · rw [if_pos hkd]
      obtain ⟨⟨ns, h1, h2, h3⟩, h4⟩ := hT _ (List.getElem_mem hk) hkd
      have he : numsL (es[k]'hk).lst = ns := by rw [h1]; exact numsL_flat ns h3
      rw [he]
      exact sumOf_turn h hv ht hk hkd ns h2 h1 h3 h4 _ rfl
    · rw [if_neg hkd]
      exact sumOf_one h hv ht hk hkd
end Go.Proofs.YtlnjpmpddomjiaaGreatDoor
