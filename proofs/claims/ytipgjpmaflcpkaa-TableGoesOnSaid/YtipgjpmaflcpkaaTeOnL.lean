/- The statement TableGoesOn's own text, walked. -/
import Derived.Test.YtipgjpmaflcpkaaTeOn
set_option maxRecDepth 100000
namespace Go.Proofs.Ytipgjpmaflcpkaa
open Go.RowKit Go.Shelf
attribute [local go_sem] Oper.semAt_some
set_option maxHeartbeats 2000000 in
theorem tableGoesOn_law (B B2 : Nat) (v vd : Value) (ls ld : List (Int × List UInt8 × Int)) (u : Int) (w : World) (hs : TOps w B v ls) (hB : B ≤ w.heap.size) (hd : TOps w B2 vd ld) (hB2 : B2 ≤ w.heap.size) (hu : 0 ≤ u ∧ u ≤ 255) :
    Calls Try.prog 4 #[v, vd, .int .u8 u] w fun e w' => e = .returned (.bool true) ∧ Below w.heap.size w w' := by
  have HS := Lib.hid hs
  have HD := Lib.hid hd
  obtain ⟨Av, cv, rfl, l1, l2, _⟩ := hs
  obtain ⟨Ad, cd, rfl, d1, d2, _⟩ := hd
  refine (callsIn_wide (n := 30)).1 ?_
  refine callsIn_of_wp_marks Try.func4 rfl trivial ?_ rfl
  simp only [Try.ntmps4, List.size_toArray, List.length_cons, List.length_nil, Nat.reduceAdd, Nat.reduceSub, Array.replicate_succ, Array.replicate_zero, List.push_toArray, List.append_toArray, List.nil_append, List.cons_append]
  gi_wp2
  refine ⟨trivial, (callsIn_wide.2 (awakeT _)).mono ?_⟩
  rintro e w1 ⟨rfl, hb1⟩
  have hd0 : BlkT w1 w.heap.size tOs [.slice Ad ld.length cd] := (BlkT.alloc (heap_alloc_new w (.cells #[.slice Ad ld.length cd] tOs)) _).below hb1 (by simp; omega)
  have hr0 : BlkT w1 (w.heap.size + 1) 4 [.bool false] := by
    have := heap_alloc_new (w.alloc (.cells #[.slice Ad ld.length cd] tOs)) (.cells #[.bool false] 4)
    rw [World.size_alloc] at this
    exact BlkT.below this hb1 (by simp)
  have hB1 : Below w.heap.size w w1 := ((((Below.refl _ w).alloc (Nat.le_refl _) _).alloc (by simp) _)).trans (hb1.mono (by simp; omega))
  have HB1 := Lib.hid hB1
  have HD0 := Lib.hid hd0
  have HR0 := Lib.hid hr0
  clear hb1 hB1 hd0 hr0
  gi_wp2
  refine ⟨trivial, (callsIn_wide.2 (new_tb 20 w1 (by omega) (by omega))).mono ?_⟩
  rintro e w2 ⟨T, rfl, ⟨m, h2⟩, hb2⟩
  obtain ⟨W, hW⟩ : ∃ W, W = ((w2.alloc (.cells #[tP T] tPT)).alloc (.cells #[.int .i64 20, .slice none 0 0] tX)).alloc (.cells #[tP (w2.heap.size + 1)] tPX) := ⟨_, rfl⟩
  obtain ⟨tb, htb⟩ : ∃ tb, tb = w2.heap.size := ⟨_, rfl⟩
  have hsz2 := hb2.size
  have hsz1 := HB1.out.size
  have hBW : Below w2.heap.size w2 W := by rw [hW]; exact (((Below.refl _ w2).alloc (Nat.le_refl _) _).alloc (by simp) _).alloc (by simp; omega) _
  have hX : BlkT W (tb + 1) tX [.int .i64 20, .slice none 0 0] := by
    rw [hW, htb]
    have := heap_alloc_new (w2.alloc (.cells #[tP T] tPT)) (.cells #[.int .i64 20, .slice none 0 0] tX)
    rw [World.size_alloc] at this
    exact BlkT.alloc this _
  have hgs : GS w W T m (tb + 1) tb (tb + 1 + 1) (.slice Ad ld.length cd) [] := by
    refine ⟨?_, ?_, ?_, ?_, DX.new h2 hsz1 hBW hX (by omega), ?_⟩
    · exact (HD0.out.below hb2 HD0.out.lt).below hBW (by have := HD0.out.lt; omega)
    · exact (HR0.out.below hb2 HR0.out.lt).below hBW (by have := HR0.out.lt; omega)
    · rw [hW, htb]; exact BlkT.alloc (BlkT.alloc (heap_alloc_new w2 _) _) _
    · rw [hW, htb]
      have := heap_alloc_new ((w2.alloc (.cells #[tP T] tPT)).alloc (.cells #[.int .i64 20, .slice none 0 0] tX)) (.cells #[tP (w2.heap.size + 1)] tPX)
      rw [World.size_alloc, World.size_alloc] at this
      exact this
    · exact HB1.out.trans ((hb2.mono hsz1).trans (hBW.mono (by omega)))
  have HGS := Lib.hid hgs
  gi_wp2
  rw [← hW, ← htb]
  clear hgs hX hBW hb2 h2 hW htb hsz2 hsz1
  gi_loopw [27] (fun i wr => ∃ j : Nat, j ≤ ls.length ∧ i = .int .i64 (j : Int) ∧ ∃ xs, GS w wr T m (tb + 1) tb (tb + 1 + 1) (.slice Ad ld.length cd) xs) (fun i _ => ls.length - (intOf i).toNat)
  case atStart => exact ⟨0, by omega, rfl, [], HGS.out⟩
  case round =>
    obtain ⟨j, hj, rfl, xs, hg⟩ := hrel
    have HG := Lib.hid hg
    by_cases hlt : j < ls.length
    · obtain ⟨g, o, c', ec, a1, a2, e1, e2, e3, k1, k3⟩ := HS.out.at' hB hg.low j hlt
      injection ec with ec1 ec2 ec3
      subst ec1; subst ec3
      obtain ⟨⟨d, s, v⟩, hq⟩ : ∃ q, q = ls[j] := ⟨_, rfl⟩
      rw [← hq] at e1 e2 e3 k1 k3
      simp only at e1 e2 e3 k1 k3
      clear hq hg
      obtain ⟨V, hV⟩ : ∃ V, V = wr.alloc (.cells #[.int .u8 d, strT s, .int .i64 v] tO) := ⟨_, rfl⟩
      have hgV : GS w V T m (tb + 1) tb (tb + 1 + 1) (.slice Ad ld.length cd) xs := by rw [hV]; exact HG.out.below ((Below.refl _ _).alloc (Nat.le_refl _) _)
      have f1 : (wr.alloc (.cells #[.int .u8 d, strT s, .int .i64 v] tO)).cell? ⟨tb, 0, none⟩ = some (tP T) := by rw [← hV]; exact hgV.bt.at rfl
      have f2 : (wr.alloc (.cells #[.int .u8 d, strT s, .int .i64 v] tO)).cell? ⟨tb + 1 + 1, 0, none⟩ = some (tP (tb + 1)) := by rw [← hV]; exact hgV.bx.at rfl
      have HGV := Lib.hid hgV
      clear hgV
      by_cases h40 : j < 40
      · have h4 : (j : Int) < 40 := by omega
        gi_wp2
        rw [← hV]
        refine ⟨trivial, (callsIn_wide.2 (do_any HGV.out.dx d s v k1.1 k1.2 k3)).mono ?_⟩
        rintro e V2 ⟨rfl, xs', hst⟩
        have HG2 := Lib.hid (HGV.out.step hst)
        clear hst f1 f2 hV
        gi_wp2
        go_roundw
        case rel => exact ⟨j + 1, by omega, by go_num, xs', HG2.out⟩
        case measure => simp [intOf]; omega
      · have h4 : ¬ (j : Int) < 40 := by omega
        gi_wp2
        refine ⟨trivial, ?_⟩
        gi_wp2
        rw [← hV]
        go_roundw
        case rel => exact ⟨j + 1, by omega, by go_num, xs, HGV.out⟩
        case measure => simp [intOf]; omega
    · have f2 : wr.cell? ⟨tb + 1 + 1, 0, none⟩ = some (tP (tb + 1)) := hg.bx.at rfl
      obtain ⟨v0, hX, hE⟩ := hg.dx.xr
      have hps := hE.parts
      have HES := Lib.hid hE.es
      obtain ⟨Ax, cx, rfl, x1, x2, _, _, _⟩ := hps
      obtain ⟨nx, hnx⟩ : ∃ nx, nx = (tbs xs).length := ⟨_, rfl⟩
      have hn20 : nx ≤ 20 := by rw [hnx]; exact hg.dx.cnt.1
      rw [← hnx] at hX x1 HES
      have hBA : Below wr.heap.size wr (wr.alloc (.cells #[] tR)) := (Below.refl _ _).alloc (Nat.le_refl _) _
      have f3 : (wr.alloc (.cells #[] tR)).cell? ⟨tb + 1 + 1, 0, none⟩ = some (tP (tb + 1)) := (hg.bx.below hBA hg.bx.lt).at rfl
      have f4 : (wr.alloc (.cells #[] tR)).cell? ⟨tb + 1, 1, none⟩ = some (.slice Ax nx cx) := (hX.below hBA hX.lt).at rfl
      have HNX := Lib.hid hnx
      have HBA := Lib.hid hBA
      clear hg hX hE hnx hBA f2
      gi_wp2_with (gi_at_builtin; go_loud (refine wpListIn_app_esn rfl (.tmp 42) (.tmp 46) rfl wr.heap.size (.slice (some ⟨wr.heap.size, 0, none⟩) 0 0) [] (tbs xs) rfl (ER.empty wr) wr.heap.size (.slice Ax nx cx) rfl (HES.out.below HBA.out (Nat.le_refl _)) (by rw [← HNX.out]; simp; omega) (by simp) ?_; intro v5 w5 hv5 hg5; rw [List.nil_append] at hv5; have hps5 := hv5.parts; have HV5 := Lib.hid hv5; have HG5 := Lib.hid (HG.out.below (HBA.out.trans ((ER.empty wr).belowBase hg5 (by simp)))); clear hv5 hg5 f3 f4; obtain ⟨A5, c5, rfl, y1, y2, _, _, _⟩ := hps5; rw [← HNX.out] at HV5 y1 ⊢; have hmo : 1 ≤ 1 + u % 20 ∧ 1 + u % 20 ≤ 20 := (by omega); obtain ⟨W6, hW6⟩ : ∃ W6, W6 = ((w5.alloc (.cells #[.slice A5 nx c5] tRs)).alloc (.cells #[.int .i64 (1 + u % 20)] 3)).alloc (.cells #[.int .i64 0] 3) := ⟨_, rfl⟩; have hB6 : Below w5.heap.size w5 W6 := (by rw [hW6]; exact (((Below.refl _ w5).alloc (Nat.le_refl _) _).alloc (by simp) _).alloc (by simp; omega) _); have f7 : (((w5.alloc (.cells #[.slice A5 nx c5] tRs)).alloc (.cells #[.int .i64 (1 + u % 20)] 3)).alloc (.cells #[.int .i64 0] 3)).cell? ⟨tb, 0, none⟩ = some (tP T) := (by rw [← hW6]; exact (HG5.out.bt.below hB6 HG5.out.bt.lt).at rfl)))
      rw [← hW6]
      obtain ⟨wb, hwb⟩ : ∃ wb, wb = w5.heap.size := ⟨_, rfl⟩
      have hwbl : w.heap.size ≤ wb := by rw [hwb]; exact HG5.out.low.size
      have hGL : GL w W6 T m (tb + 1) tb (tb + 1 + 1) (.slice Ad ld.length cd) wb (.slice A5 nx c5) (tbs xs) (1 + u % 20) 0 := by
        refine ⟨⟨xs, HG5.out.below hB6⟩, ?_, ?_, ?_, ?_⟩
        · rw [hW6, hwb]; exact BlkT.alloc (BlkT.alloc (heap_alloc_new w5 _) _) _
        · exact (HV5.out.lower HG.out.low.size).below hB6
        · rw [hW6, hwb]
          have := heap_alloc_new (w5.alloc (.cells #[.slice A5 nx c5] tRs)) (.cells #[.int .i64 (1 + u % 20)] 3)
          rw [World.size_alloc] at this
          exact BlkT.alloc this _
        · rw [hW6, hwb]
          have := heap_alloc_new ((w5.alloc (.cells #[.slice A5 nx c5] tRs)).alloc (.cells #[.int .i64 (1 + u % 20)] 3)) (.cells #[.int .i64 0] 3)
          rw [World.size_alloc, World.size_alloc] at this
          exact this
      have HGL := Lib.hid hGL
      have HG6 := Lib.hid (HG5.out.below hB6)
      rw [← hwb]
      clear hGL hB6 f7 hW6 hwb
      refine ⟨trivial, (callsIn_wide.2 (all_any T _)).mono ?_⟩
      rintro e w7 ⟨rfl, hw7⟩
      have hB7 : Below W6.heap.size W6 w7 := by rw [hw7]; exact (Below.refl _ W6).alloc (Nat.le_refl _) _
      have hb7 : Boxed w7 W6.heap.size 24 (tP T) := by rw [hw7]; exact Boxed.new _ _ _
      have HGL7 := Lib.hid (HGL.out.below hB7)
      have hg7 := HG6.out.below hB7
      have HWZ := Lib.hid hg7.low.size
      have hTl : T < w7.heap.size := hg7.dx.tb.tbl.lt
      have hml : m < w7.heap.size := by obtain ⟨D, hD, _⟩ := hg7.dx.tb.map; exact hD.lt
      have hxl := hg7.dx.tb.xlt
      have HSQ := Lib.hid (all1_r (30 - 1) (by omega) W6.heap.size T m 20 xs w7 hg7.dx.tb hb7 (GK T m) (fun A g => ∃ ys, Tb A T m 20 ys ∧ g ∉ ys.map (·.b))
        (fun W W2 g c f hW hW2 hg _ => ⟨xs, (hg7.dx.tb.keep hW).keep hW2, fun hm => by
          obtain ⟨y, hy, e⟩ := List.mem_map.1 hm
          have h1 := hxl y hy
          have h2 := hW.size
          omega⟩)
        (fun A B g c f ⟨ys, hy, hn⟩ hgc hk => by
          obtain ⟨zs, b2, b3, b4, b5⟩ := hk ys hy
          refine ⟨(b4 g c f hgc hn).trans hgc.symm, zs, b2, fun hm => ?_⟩
          obtain ⟨y, hy, e⟩ := List.mem_map.1 hm
          have hlt := (Array.getElem?_eq_some_iff.1 hgc).1
          rcases b5 y hy with h | h
          · exact hn (by rw [← e]; exact h)
          · omega)
        (fun A B g ⟨ys, hy, hn⟩ _ hb => ⟨ys, hy.keep hb, hn⟩))
      clear hxl hg7 hb7 hw7
      gi_wp2
      refine wpIn_rangeFunc_g rfl (by omega) (gf := aF) (lb := #[.pointer (some ⟨W6.heap.size, 0, none⟩)]) rfl trivial (fun _ _ => rfl) (encs := fun x : List UInt8 × VT => #[strT x.1, vv x.2]) StR (GK T m) (fun _ pre x _ => pre ++ [x] <+: tbs xs) (fun ys => ys = tbs xs) (fun _ => True)
        (fun pre A => GL w A T m (tb + 1) tb (tb + 1 + 1) (.slice Ad ld.length cd) wb (.slice A5 nx c5) (tbs xs) (1 + u % 20) pre.length ∧ (pre.length : Int) < 1 + u % 20) (fun c pre A => c = .exit 2 ∧ GL w A T m (tb + 1) tb (tb + 1 + 1) (.slice Ad ld.length cd) wb (.slice A5 nx c5) (tbs xs) (1 + u % 20) pre.length ∧ (pre.length : Int) = 1 + u % 20 ∧ pre.length ≤ nx)
        HSQ.out (fun _ _ _ => trivial) (fun _ => rfl)
        (fun _ _ _ _ h _ hk => h.block _ hk) (fun _ _ _ h => h.size) (fun _ _ _ h k => h.trans k) (fun W l o o' hl h hc => GK.of_put hTl hml hl h hc)
        (fun pre A B h hst => ⟨h.1.below hst, h.2⟩) (fun _ pre A B h hst => ⟨h.1, h.2.1.below hst, h.2.2⟩)
        (fun pre A l o o' h hl ho hc => ⟨h.1.put hTl hml HWZ.out hl ho hc, h.2⟩) (fun _ pre A l o o' h hl ho hc => ⟨h.1, h.2.1.put hTl hml HWZ.out hl ho hc, h.2.2⟩)
        (fun _ _ _ _ _ _ _ h _ _ _ => h)
        (fun W' hb hs => ⟨HGL7.out.below hb, by show (0 : Int) < 1 + u % 20; omega⟩)
        (fun x a' => a' = { tmps := #[.slice Av ls.length cv, .slice Ad ld.length cd, .int .u8 u, undef, .pointer (some ⟨w.heap.size, 0, none⟩), undef, .pointer (some ⟨w.heap.size + 1, 0, none⟩), .pointer (some ⟨tb, 0, none⟩), .int .i64 0, .pointer (some ⟨tb + 1 + 1, 0, none⟩), u10, u11, .pointer (some ⟨wb, 0, none⟩), .pointer (some ⟨wb + 1, 0, none⟩), .pointer (some ⟨wb + 1 + 1, 0, none⟩), strT x.1, vv x.2, .bool true, .bool false, .tuple #[tP T, .int .i64 0], .tuple #[tP T, .int .i64 0], tP T, .int .i64 0, .agg #[.int .i64 20, .slice none 0 0], .pointer (some ⟨tb + 1, 0, none⟩), .slice Av ls.length cv, .int .i64 (ls.length : Int), .int .i64 (j : Int), .bool false, u29, u30, u31, u32, u33, u34, u35, u36, u37, u38, u39, u40, u41, .slice (some ⟨wr.heap.size, 0, none⟩) 0 0, tP (tb + 1), .pointer (some ⟨tb + 1, 0, none⟩), .pointer (some ⟨tb + 1, 1, none⟩), .slice Ax nx cx, .slice A5 nx c5, .int .u8 u, .int .u8 (u % 20), .int .i64 (u % 20), .int .i64 (1 + u % 20), tP T, .func (.func aF) #[] #[.pointer (some ⟨W6.heap.size, 0, none⟩)], strT x.1, vv x.2, undef, undef, undef, undef, undef, undef, undef, undef, undef, undef, undef, undef, undef, undef, undef, undef, undef, undef, undef, undef, undef, undef, undef, undef, undef, undef, undef, undef, undef, undef, undef, undef, undef, undef, undef, undef, undef, undef, undef, undef, undef, undef, undef, undef, undef, undef, undef, undef], defers := [] })
        ?assign ?body ?done ?stop
      case assign =>
        rintro k x A K hK
        have HK := Lib.hid hK; clear hK
        unfold vv
        gi_wp2
        exact HK.out _ rfl
      case stop =>
        rintro D c pre A hD hz ⟨rfl, hgl, hm1, hm2⟩ hK
        obtain ⟨xsA, hgA⟩ := hgl.gs
        have hmin : min (1 + u % 20) (nx : Int) = (pre.length : Int) := by omega
        have cn := hgl.bn.at (o := 0) rfl
        have cw := hgl.bw.at (o := 0) rfl
        have cm := hgl.bm.at (o := 0) rfl
        have ct := hgA.bt.at (o := 0) rfl
        have cx' := hgA.bx.at (o := 0) rfl
        have HSM := Lib.hid (same_any hgA.dx [] (by simp))
        have HGA := Lib.hid hgA
        clear hgl hgA
        gi_wp2
        refine ⟨trivial, (callsIn_wide.2 HSM.out).mono ?_⟩
        rintro e A2 ⟨rfl, hb2⟩
        have HG2 := Lib.hid (HGA.out.below hb2)
        have cr := HG2.out.br.at (o := 0) rfl
        have fr := HG2.out.br.free 0
        have hK2 : A2.heap[D]? = some (.deferred (some [])) := (hb2.block D (Array.getElem?_eq_some_iff.1 hK).1).trans hK
        clear hb2 cn cw cm ct cx' hmin
        gi_wp2
        have hrb := HG2.out.br
        have hDn : D ≠ w.heap.size + 1 := by
          rintro rfl
          unfold BlkT at hrb
          rw [hK2] at hrb
          cases hrb
        have hK3 : (A2.setCell ⟨w.heap.size + 1, 0, none⟩ (.bool true)).heap[D]? = some (.deferred (some [])) := (Below.heap_setCell A2 _ _ D hDn).trans hK2
        have hrb2 := hrb.set 0 (.bool true)
        have hrb3 : BlkT ((A2.setCell ⟨w.heap.size + 1, 0, none⟩ (.bool true)).putObj D (.deferred none)) (w.heap.size + 1) 4 [.bool true] := kc_putObj (b := 0) hK3 rfl _ _ _ _ (Nat.zero_le _) hrb2
        have hlow := HG2.out.low.setCell (p := ⟨w.heap.size + 1, 0, none⟩) (by show w.heap.size ≤ w.heap.size + 1; omega) (.bool true)
        refine ⟨by simp, .inl ⟨_, _, rfl, run_takeDeferred hK3, ?_⟩⟩
        exact ⟨_, results_cell rfl _ _ _ _ _ rfl (fun w => rfl) (hrb3.at rfl), rfl, below_putObj hlow hlow.size (by have := HWZ.out; omega)⟩
      case done =>
        rintro D ys A hD hz rfl ⟨hgl, hm1⟩ hK
        obtain ⟨xsA, hgA⟩ := hgl.gs
        rw [← HNX.out] at hgl hm1
        have hmin : min (1 + u % 20) (nx : Int) = (nx : Int) := by omega
        have cn := hgl.bn.at (o := 0) rfl
        have cw := hgl.bw.at (o := 0) rfl
        have cm := hgl.bm.at (o := 0) rfl
        have ct := hgA.bt.at (o := 0) rfl
        have cx' := hgA.bx.at (o := 0) rfl
        have HSM := Lib.hid (same_any hgA.dx [] (by simp))
        have HGA := Lib.hid hgA
        clear hgl hgA
        gi_wp2
        refine ⟨trivial, (callsIn_wide.2 HSM.out).mono ?_⟩
        rintro e A2 ⟨rfl, hb2⟩
        have HG2 := Lib.hid (HGA.out.below hb2)
        have cr := HG2.out.br.at (o := 0) rfl
        have fr := HG2.out.br.free 0
        have hK2 : A2.heap[D]? = some (.deferred (some [])) := (hb2.block D (Array.getElem?_eq_some_iff.1 hK).1).trans hK
        clear hb2 cn cw cm ct cx' hmin
        gi_wp2
        have hrb := HG2.out.br
        have hDn : D ≠ w.heap.size + 1 := by
          rintro rfl
          unfold BlkT at hrb
          rw [hK2] at hrb
          cases hrb
        have hK3 : (A2.setCell ⟨w.heap.size + 1, 0, none⟩ (.bool true)).heap[D]? = some (.deferred (some [])) := (Below.heap_setCell A2 _ _ D hDn).trans hK2
        have hrb2 := hrb.set 0 (.bool true)
        have hrb3 : BlkT ((A2.setCell ⟨w.heap.size + 1, 0, none⟩ (.bool true)).putObj D (.deferred none)) (w.heap.size + 1) 4 [.bool true] := kc_putObj (b := 0) hK3 rfl _ _ _ _ (Nat.zero_le _) hrb2
        have hlow := HG2.out.low.setCell (p := ⟨w.heap.size + 1, 0, none⟩) (by show w.heap.size ≤ w.heap.size + 1; omega) (.bool true)
        refine ⟨by simp, .inl ⟨_, _, rfl, run_takeDeferred hK3, ?_⟩⟩
        exact ⟨_, results_cell rfl _ _ _ _ _ rfl (fun w => rfl) (hrb3.at rfl), rfl, below_putObj hlow hlow.size (by have := HWZ.out; omega)⟩
      case body =>
        rintro lp bb pre x a' A hbb hbz hJ hpre rfl
        obtain ⟨hgl, hlm⟩ := hJ
        have hpl : pre.length < nx := by have := hpre.length_le; rw [List.length_append, List.length_singleton, ← HNX.out] at this; omega
        have hxq : ∃ h : pre.length < (tbs xs).length, (tbs xs)[pre.length] = x := by
          refine ⟨by rw [← HNX.out]; exact hpl, ?_⟩
          obtain ⟨t, ht⟩ := hpre
          have h1 : (tbs xs)[pre.length]? = some x := by rw [← ht, List.append_assoc, List.getElem?_append_right (by omega)]; simp
          exact (List.getElem?_eq_some_iff.1 h1).2
        obtain ⟨hpl2, hxq⟩ := hxq
        obtain ⟨g5, rfl⟩ : ∃ g5, A5 = some ⟨g5, 0, none⟩ := by
          obtain ⟨Aq, cq, e, _, _, _, _, hfm⟩ := hgl.ew.parts
          obtain ⟨g5, h5⟩ := hfm (by omega)
          injection e with e1 _ _
          exact ⟨g5, e1.trans h5⟩
        obtain ⟨c1, c2, _⟩ := (show ES A A.heap.size (.slice (some ⟨g5, 0, none⟩) nx c5) (tbs xs) from hgl.ew.es).cell pre.length hpl2
        rw [hxq, Nat.zero_add] at c1 c2
        obtain ⟨k, hk⟩ : ∃ k, k = pre.length := ⟨_, rfl⟩
        have hls : (pre ++ [x]).length = k + 1 := by rw [List.length_append, hk]; rfl
        have HLS := Lib.hid hls
        rw [← hk] at c1 c2 hgl hlm hpl
        obtain ⟨xk, xv⟩ := x
        simp only at c1 c2
        have cn := hgl.bn.at (o := 0) rfl
        have cw := hgl.bw.at (o := 0) rfl
        have hkn : ¬ (nx : Int) ≤ (k : Int) := by omega
        have hk0 : (0 : Int) ≤ (k : Int) := by omega
        have hk1 : (k : Int) < (nx : Int) := by omega
        have HGLA := Lib.hid hgl
        clear hgl hpre hxq hpl2 hk hls
        unfold vv
        gi_wp2
        clear c1 c2 cn cw
        obtain ⟨xsA, hgA⟩ := HGLA.out.gs
        have hgD := hgA.below (Below.refl _ A).drew
        have hnD := (HGLA.out.bn.drew).at (o := 0) rfl
        by_cases hkd : k < ld.length
        · by_cases h30 : k < 30
          · obtain ⟨g, o, c', ec, a1, a2, e1, e2, e3, k1, k3⟩ := HD.out.at' hB2 hgA.low k hkd
            injection ec with ec1 ec2 ec3
            subst ec1; subst ec3
            obtain ⟨⟨d, s, v⟩, hq⟩ : ∃ q, ld[k] = q := ⟨_, rfl⟩
            rw [hq] at e1 e2 e3 k1 k3
            simp only at e1 e2 e3 k1 k3
            have HQD := Lib.hid hq
            clear hq
            have hkd1 : (k : Int) < (ld.length : Int) := by omega
            have h301 : (k : Int) < 30 := by omega
            have hgl := World.block_lt_of_cell? A _ e1
            refine wpIn_region_held_round (S := fun w' => w'.cell? ⟨wb + 1 + 1, 0, none⟩ = some (.int .i64 (k : Int)) ∧ w'.cell? ⟨w.heap.size, 0, none⟩ = some (.slice (some ⟨g, o, none⟩) ld.length cd) ∧ w'.cell? ⟨tb, 0, none⟩ = some (tP T) ∧ w'.cell? ⟨tb + 1 + 1, 0, none⟩ = some (tP (tb + 1)) ∧ w'.cell? ⟨g, o + k * 3, none⟩ = some (.int .u8 d) ∧ w'.cell? ⟨g, o + k * 3 + 1, none⟩ = some (strT s) ∧ w'.cell? ⟨g, o + k * 3 + 2, none⟩ = some (.int .i64 v)) (by kernel_rfl) (by kernel_rfl) (by rintro ⟨_, _, h⟩; exact h) ?_
            change wpAnyH _ _ _ _ _ _ _ _ A.drew
            have hS0 : A.drew.cell? ⟨wb + 1 + 1, 0, none⟩ = some (.int .i64 (k : Int)) ∧ A.drew.cell? ⟨w.heap.size, 0, none⟩ = some (.slice (some ⟨g, o, none⟩) ld.length cd) ∧ A.drew.cell? ⟨tb, 0, none⟩ = some (tP T) ∧ A.drew.cell? ⟨tb + 1 + 1, 0, none⟩ = some (tP (tb + 1)) ∧ A.drew.cell? ⟨g, o + k * 3, none⟩ = some (.int .u8 d) ∧ A.drew.cell? ⟨g, o + k * 3 + 1, none⟩ = some (strT s) ∧ A.drew.cell? ⟨g, o + k * 3 + 2, none⟩ = some (.int .i64 v) :=
              ⟨hnD, hgD.bd.at rfl, hgD.bt.at rfl, hgD.bx.at rfl, e1, e2, e3⟩
            clear e1 e2 e3 hnD
            refine takeH 0 70 (.int .i64 (k : Int)) rfl rfl (by kernel_rfl) (by kernel_rfl) (by kernel_rfl) (fun _ _ _ h => h) rfl (fun w' hS => by obtain ⟨s0, s1, s2, s3, s4, s5, s6⟩ := hS; go_simp) hS0 ?_
            go_frame
            refine takeH 1 71 (.slice (some ⟨g, o, none⟩) ld.length cd) rfl rfl (by kernel_rfl) (by kernel_rfl) (by kernel_rfl) (fun _ _ _ h => h) rfl (fun w' hS => by obtain ⟨s0, s1, s2, s3, s4, s5, s6⟩ := hS; go_simp) hS0 ?_
            go_frame
            refine takeH 2 72 (.int .i64 (ld.length : Int)) rfl rfl (by kernel_rfl) (by kernel_rfl) (by kernel_rfl) (fun _ _ _ h => h) rfl (fun w' hS => by obtain ⟨s0, s1, s2, s3, s4, s5, s6⟩ := hS; go_simp) hS0 ?_
            go_frame
            refine takeH 3 73 (.bool true) rfl rfl (by kernel_rfl) (by kernel_rfl) (by kernel_rfl) (fun _ _ _ h => h) rfl (fun w' hS => by obtain ⟨s0, s1, s2, s3, s4, s5, s6⟩ := hS; go_simp) hS0 ?_
            go_frame
            refine takeH 4 74 (.bool true) rfl rfl (by kernel_rfl) (by kernel_rfl) (by kernel_rfl) (fun _ _ _ h => h) rfl (fun w' hS => by obtain ⟨s0, s1, s2, s3, s4, s5, s6⟩ := hS; go_simp) hS0 ?_
            go_frame
            refine takeH 5 75 (.int .i64 (k : Int)) rfl rfl (by kernel_rfl) (by kernel_rfl) (by kernel_rfl) (fun _ _ _ h => h) rfl (fun w' hS => by obtain ⟨s0, s1, s2, s3, s4, s5, s6⟩ := hS; go_simp) hS0 ?_
            go_frame
            refine takeH 6 76 (.bool true) rfl rfl (by kernel_rfl) (by kernel_rfl) (by kernel_rfl) (fun _ _ _ h => h) rfl (fun w' hS => by obtain ⟨s0, s1, s2, s3, s4, s5, s6⟩ := hS; go_simp) hS0 ?_
            go_frame
            refine takeH 7 77 (.bool true) rfl rfl (by kernel_rfl) (by kernel_rfl) (by kernel_rfl) (fun _ _ _ h => h) rfl (fun w' hS => by obtain ⟨s0, s1, s2, s3, s4, s5, s6⟩ := hS; go_simp) hS0 ?_
            go_frame
            refine takeH 8 78 (.bool true) rfl rfl (by kernel_rfl) (by kernel_rfl) (by kernel_rfl) (fun _ _ _ h => h) rfl (fun w' hS => by obtain ⟨s0, s1, s2, s3, s4, s5, s6⟩ := hS; go_simp) hS0 ?_
            go_frame
            refine takeH 9 79 (tP T) rfl rfl (by kernel_rfl) (by kernel_rfl) (by kernel_rfl) (fun _ _ _ h => h) rfl (fun w' hS => by obtain ⟨s0, s1, s2, s3, s4, s5, s6⟩ := hS; go_simp) hS0 ?_
            go_frame
            refine takeH 10 80 (tP (tb + 1)) rfl rfl (by kernel_rfl) (by kernel_rfl) (by kernel_rfl) (fun _ _ _ h => h) rfl (fun w' hS => by obtain ⟨s0, s1, s2, s3, s4, s5, s6⟩ := hS; go_simp) hS0 ?_
            go_frame
            refine takeH 11 81 (.slice (some ⟨g, o, none⟩) ld.length cd) rfl rfl (by kernel_rfl) (by kernel_rfl) (by kernel_rfl) (fun _ _ _ h => h) rfl (fun w' hS => by obtain ⟨s0, s1, s2, s3, s4, s5, s6⟩ := hS; go_simp) hS0 ?_
            go_frame
            refine takeH 12 82 (.int .i64 (k : Int)) rfl rfl (by kernel_rfl) (by kernel_rfl) (by kernel_rfl) (fun _ _ _ h => h) rfl (fun w' hS => by obtain ⟨s0, s1, s2, s3, s4, s5, s6⟩ := hS; go_simp) hS0 ?_
            go_frame
            refine takeH 13 83 (.pointer (some ⟨g, o + k * 3, none⟩)) rfl rfl (by kernel_rfl) (by kernel_rfl) (by kernel_rfl) (fun _ _ _ h => h) rfl (fun w' hS => by obtain ⟨s0, s1, s2, s3, s4, s5, s6⟩ := hS; go_simp) hS0 ?_
            go_frame
            refine takeH 14 84 (.agg #[.int .u8 d, strT s, .int .i64 v]) rfl rfl (by kernel_rfl) (by kernel_rfl) (by kernel_rfl) (fun _ _ _ h => h) rfl (fun w' hS => by obtain ⟨s0, s1, s2, s3, s4, s5, s6⟩ := hS; go_simp) hS0 ?_
            go_frame
            refine wpAnyH_all (rs := [15]) (by kernel_rfl) (by simp) ?_
            simp only [List.mem_singleton, forall_eq]
            refine wpOp_callD 85 rfl rfl rfl 7 #[tP T, tP (tb + 1), .agg #[.int .u8 d, strT s, .int .i64 v]] (by go_simp) ?_
            refine (do_any hgD.dx d s v k1.1 k1.2 k3).mono ?_
            rintro e W3 ⟨rfl, xs3, hst⟩
            have HGL3 := Lib.hid ((HGLA.out.below (Below.refl _ A).drew).step hgD hst)
            have hg3 := hgD.step hst
            have hkf3 : KeepsFrom w7.heap.size A W3 := (kf_below (Below.refl _ A).drew).trans (hst.kf hgD.dx hml)
            have hgk3 : GK T m A W3 := (GK.of_below (Below.refl _ A).drew).trans (GK.of_st hst hgD.dx)
            obtain ⟨g', o', c'', ec, _, _, e1, e2, e3, _, _⟩ := HD.out.at' hB2 hg3.low k hkd
            injection ec with ec1 ec2 ec3
            injection ec1 with ec1
            injection ec1 with ec1 ec4 _
            subst ec1; subst ec4; subst ec3
            rw [HQD.out] at e1 e2 e3
            replace hS0 : W3.cell? ⟨wb + 1 + 1, 0, none⟩ = some (.int .i64 (k : Int)) ∧ W3.cell? ⟨w.heap.size, 0, none⟩ = some (.slice (some ⟨g, o, none⟩) ld.length cd) ∧ W3.cell? ⟨tb, 0, none⟩ = some (tP T) ∧ W3.cell? ⟨tb + 1 + 1, 0, none⟩ = some (tP (tb + 1)) ∧ W3.cell? ⟨g, o + k * 3, none⟩ = some (.int .u8 d) ∧ W3.cell? ⟨g, o + k * 3 + 1, none⟩ = some (strT s) ∧ W3.cell? ⟨g, o + k * 3 + 2, none⟩ = some (.int .i64 v) :=
              ⟨HGL3.out.bn.at rfl, hg3.bd.at rfl, hg3.bt.at rfl, hg3.bx.at rfl, e1, e2, e3⟩
            clear hst e1 e2 e3
            refine ⟨_, rfl, hS0, ?_⟩
            go_frame
            refine takeH 16 86 (.bool false) rfl rfl (by kernel_rfl) (by kernel_rfl) (by kernel_rfl) (fun _ _ _ h => h) rfl (fun w' hS => by obtain ⟨s0, s1, s2, s3, s4, s5, s6⟩ := hS; go_simp) hS0 ?_
            go_frame
            refine takeH 17 87 (.bool false) rfl rfl (by kernel_rfl) (by kernel_rfl) (by kernel_rfl) (fun _ _ _ h => h) rfl (fun w' hS => by obtain ⟨s0, s1, s2, s3, s4, s5, s6⟩ := hS; go_simp) hS0 ?_
            go_frame
            refine wpAnyH_done (by kernel_rfl) ?_ _
            refine NoPanic.normal ?_
            have cn3 := HGL3.out.bn.at (o := 0) rfl
            have fn3 := HGL3.out.bn.free 0
            have hcnt := HGL3.out.count hwbl
            have cn4 := hcnt.bn.at (o := 0) rfl
            have cm4 := hcnt.bm.at (o := 0) rfl
            rw [Int.natCast_succ] at cn4
            have HCNT := Lib.hid hcnt
            have HKF := Lib.hid (hkf3.trans (kf_set (b := w7.heap.size) (p := ⟨wb + 1 + 1, 0, none⟩) HGL3.out.bn (.int .i64 ((k : Int) + 1))))
            have HGK := Lib.hid (hgk3.trans (GK.of_set (p := ⟨wb + 1 + 1, 0, none⟩) HGL3.out.bn (by decide) (by decide) (.int .i64 ((k : Int) + 1))))
            clear hcnt hkf3 hgk3 hS0
            by_cases hend : (k : Int) + 1 = 1 + u % 20
            · rw [hend] at cn4 cm4 HCNT HKF
              gi_wp2
              exact ⟨HKF.out, rfl, by rw [HLS.out]; exact HCNT.out, by rw [HLS.out]; omega, by rw [HLS.out]; omega⟩
            · have hbe : ((k : Int) + 1 == 1 + u % 20) = false := beq_eq_false_iff_ne.2 hend
              gi_wp2
              exact ⟨HKF.out, HGK.out, by rw [HLS.out]; exact HCNT.out, by rw [HLS.out]; omega⟩
          · omega
        · have hkd1 : ¬ (k : Int) < (ld.length : Int) := by omega
          refine wpIn_region_held_round (S := fun w' => w'.cell? ⟨wb + 1 + 1, 0, none⟩ = some (.int .i64 (k : Int)) ∧ w'.cell? ⟨w.heap.size, 0, none⟩ = some (.slice Ad ld.length cd) ∧ w'.cell? ⟨tb, 0, none⟩ = some (tP T) ∧ w'.cell? ⟨tb + 1 + 1, 0, none⟩ = some (tP (tb + 1)) ∧ True ∧ True ∧ True) (by kernel_rfl) (by kernel_rfl) (by rintro ⟨_, _, h⟩; exact h) ?_
          change wpAnyH _ _ _ _ _ _ _ _ A.drew
          have hS0 : A.drew.cell? ⟨wb + 1 + 1, 0, none⟩ = some (.int .i64 (k : Int)) ∧ A.drew.cell? ⟨w.heap.size, 0, none⟩ = some (.slice Ad ld.length cd) ∧ A.drew.cell? ⟨tb, 0, none⟩ = some (tP T) ∧ A.drew.cell? ⟨tb + 1 + 1, 0, none⟩ = some (tP (tb + 1)) ∧ True ∧ True ∧ True :=
            ⟨hnD, hgD.bd.at rfl, hgD.bt.at rfl, hgD.bx.at rfl, trivial, trivial, trivial⟩
          clear hnD hgA hgD
          refine takeH 0 70 (.int .i64 (k : Int)) rfl rfl (by kernel_rfl) (by kernel_rfl) (by kernel_rfl) (fun _ _ _ h => h) rfl (fun w' hS => by obtain ⟨s0, s1, s2, s3, s4, s5, s6⟩ := hS; go_simp) hS0 ?_
          go_frame
          refine takeH 1 71 (.slice Ad ld.length cd) rfl rfl (by kernel_rfl) (by kernel_rfl) (by kernel_rfl) (fun _ _ _ h => h) rfl (fun w' hS => by obtain ⟨s0, s1, s2, s3, s4, s5, s6⟩ := hS; go_simp) hS0 ?_
          go_frame
          refine takeH 2 72 (.int .i64 (ld.length : Int)) rfl rfl (by kernel_rfl) (by kernel_rfl) (by kernel_rfl) (fun _ _ _ h => h) rfl (fun w' hS => by obtain ⟨s0, s1, s2, s3, s4, s5, s6⟩ := hS; go_simp) hS0 ?_
          go_frame
          refine takeH 3 73 (.bool false) rfl rfl (by kernel_rfl) (by kernel_rfl) (by kernel_rfl) (fun _ _ _ h => h) rfl (fun w' hS => by obtain ⟨s0, s1, s2, s3, s4, s5, s6⟩ := hS; go_simp) hS0 ?_
          go_frame
          refine takeH 4 74 (.bool false) rfl rfl (by kernel_rfl) (by kernel_rfl) (by kernel_rfl) (fun _ _ _ h => h) rfl (fun w' hS => by obtain ⟨s0, s1, s2, s3, s4, s5, s6⟩ := hS; go_simp) hS0 ?_
          go_frame
          refine takeHN 5 75 rfl rfl (by kernel_rfl) (by kernel_rfl) (by kernel_rfl) (fun _ _ _ h => h) rfl hS0 ?_
          go_frame
          refine takeHN 6 76 rfl rfl (by kernel_rfl) (by kernel_rfl) (by kernel_rfl) (fun _ _ _ h => h) rfl hS0 ?_
          go_frame
          refine takeH 7 77 (.bool false) rfl rfl (by kernel_rfl) (by kernel_rfl) (by kernel_rfl) (fun _ _ _ h => h) rfl (fun w' hS => by obtain ⟨s0, s1, s2, s3, s4, s5, s6⟩ := hS; go_simp) hS0 ?_
          go_frame
          refine takeH 8 78 (.bool false) rfl rfl (by kernel_rfl) (by kernel_rfl) (by kernel_rfl) (fun _ _ _ h => h) rfl (fun w' hS => by obtain ⟨s0, s1, s2, s3, s4, s5, s6⟩ := hS; go_simp) hS0 ?_
          go_frame
          refine takeHN 9 79 rfl rfl (by kernel_rfl) (by kernel_rfl) (by kernel_rfl) (fun _ _ _ h => h) rfl hS0 ?_
          go_frame
          refine takeHN 10 80 rfl rfl (by kernel_rfl) (by kernel_rfl) (by kernel_rfl) (fun _ _ _ h => h) rfl hS0 ?_
          go_frame
          refine takeHN 11 81 rfl rfl (by kernel_rfl) (by kernel_rfl) (by kernel_rfl) (fun _ _ _ h => h) rfl hS0 ?_
          go_frame
          refine takeHN 12 82 rfl rfl (by kernel_rfl) (by kernel_rfl) (by kernel_rfl) (fun _ _ _ h => h) rfl hS0 ?_
          go_frame
          refine takeHN 13 83 rfl rfl (by kernel_rfl) (by kernel_rfl) (by kernel_rfl) (fun _ _ _ h => h) rfl hS0 ?_
          go_frame
          refine takeHN 14 84 rfl rfl (by kernel_rfl) (by kernel_rfl) (by kernel_rfl) (fun _ _ _ h => h) rfl hS0 ?_
          go_frame
          refine takeHN 15 85 rfl rfl (by kernel_rfl) (by kernel_rfl) (by kernel_rfl) (fun _ _ _ h => h) rfl hS0 ?_
          go_frame
          refine takeHN 16 86 rfl rfl (by kernel_rfl) (by kernel_rfl) (by kernel_rfl) (fun _ _ _ h => h) rfl hS0 ?_
          go_frame
          refine takeH 17 87 (.bool false) rfl rfl (by kernel_rfl) (by kernel_rfl) (by kernel_rfl) (fun _ _ _ h => h) rfl (fun w' hS => by obtain ⟨s0, s1, s2, s3, s4, s5, s6⟩ := hS; go_simp) hS0 ?_
          go_frame
          refine wpAnyH_done (by kernel_rfl) ?_ _
          refine NoPanic.normal ?_
          have HGL3 := HGLA
          have hkf3 : KeepsFrom w7.heap.size A A := kf_below (Below.refl _ A)
          have hgk3 : GK T m A A := GK.of_below (Below.refl _ A)
          have cn3 := HGL3.out.bn.at (o := 0) rfl
          have fn3 := HGL3.out.bn.free 0
          have hcnt := HGL3.out.count hwbl
          have cn4 := hcnt.bn.at (o := 0) rfl
          have cm4 := hcnt.bm.at (o := 0) rfl
          rw [Int.natCast_succ] at cn4
          have HCNT := Lib.hid hcnt
          have HKF := Lib.hid (hkf3.trans (kf_set (b := w7.heap.size) (p := ⟨wb + 1 + 1, 0, none⟩) HGL3.out.bn (.int .i64 ((k : Int) + 1))))
          have HGK := Lib.hid (hgk3.trans (GK.of_set (p := ⟨wb + 1 + 1, 0, none⟩) HGL3.out.bn (by decide) (by decide) (.int .i64 ((k : Int) + 1))))
          clear hcnt hkf3 hgk3 hS0
          by_cases hend : (k : Int) + 1 = 1 + u % 20
          · rw [hend] at cn4 cm4 HCNT HKF
            gi_wp2
            exact ⟨HKF.out.trans (kf_below (Below.refl _ _).drew), rfl, by rw [HLS.out]; exact HCNT.out.below (Below.refl _ _).drew, by rw [HLS.out]; omega, by rw [HLS.out]; omega⟩
          · have hbe : ((k : Int) + 1 == 1 + u % 20) = false := beq_eq_false_iff_ne.2 hend
            gi_wp2
            exact ⟨HKF.out.trans (kf_below (Below.refl _ _).drew), HGK.out.trans (GK.of_below (Below.refl _ _).drew), by rw [HLS.out]; exact HCNT.out.below (Below.refl _ _).drew, by rw [HLS.out]; omega⟩
end Go.Proofs.Ytipgjpmaflcpkaa
