/- box: Hash, Mac, Stretch, Turn over both kinds of Box. (By mkbep.py.) box's laws: both Boxes and the tags that they told, in one memory. box's laws: pick. (By mkbwb.py.) box's laws: what do leaves. box's laws: a tag more that was told. box's laws: what an arm of do leaves; the tags that are told are tags. -/
import Derived.Test.YtlnjpmpddomjiaaGreatDoorGmBeTu
import Derived.Test.YtlnjpmpddomjiaaGreatDoorGmBeXo
import Derived.Test.YtlnjpmpddomjiaaGreatDoorGmTmI
import Derived.Test.YtlnjpmpddomjiaaGreatDoorGmBeJn
import Derived.Test.YtlnjpmpddomjiaaGreatDoorGmMgB
import Derived.Test.YtlnjpmpddomjiaaGreatDoorGmCutE
import Derived.Deep.RegionHeld3
set_option maxRecDepth 100000
namespace Go.Proofs.YtlnjpmpddomjiaaGreatDoor
open Go.RowKit
attribute [local go_sem] Oper.semAt_some
theorem OwnB.trsV {S : List Nat} {w w' : World} {base : Nat} {v : Value} {l : List UInt8} (h : OwnB w base v l) (ht : Trs S w w') (hb : ∀ k, v.ownBlock = some k → k ∉ S) : OwnB w' base v l := by
  obtain ⟨h1, h2 | ⟨g, cap, cur, rfl, hb', hg, h3⟩⟩ := h
  · exact ⟨h1, .inl h2⟩
  · exact ⟨h1, .inr ⟨g, cap, cur, rfl, hb', (ht.block g (Array.getElem?_eq_some_iff.1 hg).1 (hb g rfl)).trans hg, h3⟩⟩
theorem macE_ok {key l : List UInt8} (h1 : key.length ≤ 100000) (h2 : l.length ≤ 100000) : OkE (macE key l) :=
  ⟨by simp [macE], by simp [macE], by simp [macE], by simp [macE], by show key.length ≤ 1000000; omega, by show l.length ≤ 1000000; omega, by simp [macE], by simp [macE]⟩
set_option maxHeartbeats 4000000 in
theorem mac_sym {w : World} {base b m B Bk : Nat} {rv kv v : Value} {full : Bool} {es : List EnL} {key : List UInt8} {ls : List (List UInt8)} (h : BX w base b m rv true full es) (hk : OwnB w Bk kv key) (hkd : ∀ k, kv.ownBlock = some k → k ∉ bS b m rv) (hkl : key.length ≤ 100000) (hv : Sls w B v ls) (hn : ls.length ≤ 100000) (hl : Lib.lens ls ≤ 100000) (hB : base ≤ w.heap.size) (hvB : B ≤ w.heap.size) :
    Calls Tryz.prog 24 #[tP b, kv, v] w (EnR w base b m rv true (tagE es (macE key ls.flatten)) (fullE full es (macE key ls.flatten)) (esE es (macE key ls.flatten))) := by
  have hlen : ls.flatten.length ≤ 100000 := by rw [List.length_flatten]; exact hl
  have HJ := Lib.hid (fun (W : World) (hW : Below w.heap.size w W) => join_any (hv.below hW hvB) hn (show Lib.lens ls ≤ 1000000 by omega))
  obtain ⟨L, hL⟩ : ∃ L, L = ls.flatten := ⟨_, rfl⟩
  rw [← hL] at HJ hlen ⊢
  clear hL
  have k0 := h.blk.at (o := 0) rfl
  have HX := Lib.hid h
  have HK := Lib.hid hk
  have HKD := Lib.hid hkd
  have he := macE_ok hkl hlen
  clear h
  obtain ⟨A, c, rfl, _⟩ := hv
  obtain ⟨KA, kc, rfl, -⟩ := hk.sl
  clear hk hkd
  go_enter Tryz.func24, Tryz.ntmps24
  go_wp2_with fail
  refine wp_region_noPanic ?_
  refine wp_region_held (S := fun W' => (convert 34 9 (.slice KA key.length kc)).run Tryz.prog W' = .ok (str key) W') (by kernel_rfl) ?_
  change wpAnyH _ _ _ _ _ _ _ _ (World.drew _)
  obtain ⟨X0, hX0⟩ : ∃ X, X = World.drew w := ⟨_, rfl⟩
  have HB0 := Lib.hid (show Below w.heap.size w X0 from by rw [hX0]; exact (Below.refl _ _).drew)
  rw [← hX0]
  clear hX0
  have HX0 := Lib.hid (conv_sl (HK.out.below HB0.out).sl)
  refine takeH 0 17 (tP b) rfl rfl (by kernel_rfl) (by kernel_rfl) (by kernel_rfl) (fun _ _ _ h => h) rfl (fun w' h => by go_simp) HX0.out ?_
  go_frame
  refine takeH 1 18 (.slice KA key.length kc) rfl rfl (by kernel_rfl) (by kernel_rfl) (by kernel_rfl) (fun _ _ _ h => h) rfl (fun w' h => by go_simp) HX0.out ?_
  go_frame
  refine takeH 2 19 (str key) rfl rfl (by kernel_rfl) (by kernel_rfl) (by kernel_rfl) (fun _ _ _ h => h) rfl (fun w' h => by go_simp) HX0.out ?_
  go_frame
  refine takeH 3 20 (.slice A ls.length c) rfl rfl (by kernel_rfl) (by kernel_rfl) (by kernel_rfl) (fun _ _ _ h => h) rfl (fun w' h => by go_simp) HX0.out ?_
  go_frame
  refine wpAnyH_all (rs := [4]) (by kernel_rfl) (by simp) ?_
  simp only [List.mem_singleton, forall_eq]
  refine wpOp_callD 21 rfl rfl rfl 35 #[.slice A ls.length c] (by go_simp) ?_
  refine (HJ.out X0 HB0.out).mono ?_
  rintro e X1 ⟨rfl, hb1⟩
  have HB1 := Lib.hid (HB0.out.trans (hb1.mono HB0.out.size))
  clear hb1 HX0
  have HX0 := Lib.hid (conv_sl (HK.out.below HB1.out).sl)
  refine ⟨_, rfl, HX0.out, ?_⟩
  go_frame
  refine takeH 5 22 (eagg (macE key L)) rfl rfl (by kernel_rfl) (by kernel_rfl) (by kernel_rfl) (fun _ _ _ h => h) rfl (fun w' h => by unfold macE; go_simp) HX0.out ?_
  go_frame
  refine wpAnyH_all (rs := [6]) (by kernel_rfl) (by simp) ?_
  simp only [List.mem_singleton, forall_eq]
  refine wpOp_callD 23 rfl rfl rfl 34 #[tP b, eagg (macE key L)] (by go_simp) ?_
  refine (enter_any (macE key L) (HX.out.below HB1.out) he (by have := HB1.out.size; omega)).mono ?_
  intro e X2 hR
  have HR := Lib.hid (hR.lift HB1.out)
  have HT := Lib.hid (show Trs (bS b m rv) w X2 from by obtain ⟨_, _, _, _, _, h4, _⟩ := HR.out; exact h4)
  obtain ⟨v', rv', rfl, _⟩ := hR
  clear HX0
  have HX0 := Lib.hid (conv_sl (HK.out.trsV HT.out HKD.out).sl)
  refine ⟨_, rfl, HX0.out, ?_⟩
  go_frame
  refine takeH 7 6 (v') rfl rfl (by kernel_rfl) (by kernel_rfl) (by kernel_rfl) (fun _ _ _ h => h) rfl (fun w' h => by go_simp) HX0.out ?_
  go_frame
  refine wpAnyH_done (by kernel_rfl) ?_ _
  refine NoPanic.normal ?_
  go_wp2_with fail
  go_ret
  exact HR.out

/-- What a call on a Box leaves that has no new entry. -/
theorem EnR.plain {w w' : World} {base b m : Nat} {rv v : Value} {sym full : Bool} {es : List EnL} {tag : List UInt8} (h : BX w base b m rv sym full es) (hO : OwnB w' w.heap.size v tag) (ht : 0 < tag.length) (hb : Below w.heap.size w w') : EnR w base b m rv sym tag full es (.returned v) w' := by
  refine ⟨v, rv, rfl, hO, h.below hb, Trs.of_below hb, .inl rfl, fun q => ?_⟩
  cases hv : v.ownBlock with
  | none =>
    rcases hO.2 with ⟨h1, h2⟩ | ⟨g, cap, cur, h1, _⟩
    · omega
    · rw [h1] at hv; cases hv
  | some k => have h1 := (hO.lt k hv).1; rw [hv] at q; have h2 := (World.ownsRow.lt h.row k q.symm).2; omega
theorem BX.bSlt {w : World} {base b m : Nat} {rv : Value} {sym full : Bool} {es : List EnL} (h : BX w base b m rv sym full es) : ∀ k ∈ bS b m rv, k < w.heap.size := by
  intro k hk
  rcases mem_bS.1 hk with rfl | rfl | e
  · exact h.blk.lt
  · exact h.mp.lt
  · exact (World.ownsRow.lt h.row k e).2
theorem GE.okT {es : List EnL} (h : GE es) : OkT es := fun e he h4 => by
  obtain ⟨ns, h1, h2, h3⟩ := h.g e he
  exact ⟨⟨ns, h1, by omega, h3⟩, by have := h.mask e he h4; omega⟩
section
variable {w : World} {base b m : Nat} {rv : Value} {sym full : Bool} {es : List EnL}
theorem hash_P {v : Value} {ls : List (List UInt8)} (h : BX w base b m rv sym full es) (hv : Sls w w.heap.size v ls) (hn : ls.length ≤ 100000) (hl : Lib.lens ls ≤ 100000) (hlm : ∀ l ∈ ls, l.length ≤ 1000000) (hB : base ≤ w.heap.size) (hT : TabA w) :
    Calls Tryz.prog 12 #[tP b, v] w (EnR w base b m rv sym (anE sym es (hashE ls.flatten) (sumL ls.flatten)) (nfE sym full es (hashE ls.flatten)) (neE sym es (hashE ls.flatten))) := by
  cases sym with
  | true => exact hash_any h hv hn hl hB
  | false =>
    have c0 := h.blk.at (o := 0) rfl
    have HX := Lib.hid h
    have HM := Lib.hid (shaSum_any v ls w hv hlm hT)
    clear hv hlm hT h
    go_enter Tryz.func12, Tryz.ntmps12
    go_wp2_with fail
    refine HM.out.mono ?_
    rintro e w1 ⟨v', rfl, hO, hB⟩
    have HR := Lib.hid (EnR.plain HX.out hO (by rw [sumL_length]; omega) hB)
    clear hO hB
    go_wp2_with fail
    go_ret
    exact HR.out
theorem mac_P {Bk : Nat} {kv v : Value} {key : List UInt8} {ls : List (List UInt8)} (h : BX w base b m rv sym full es) (hk : OwnB w Bk kv key) (hkd : ∀ k, kv.ownBlock = some k → k ∉ bS b m rv) (hkl : key.length ≤ 100000) (hv : Sls w w.heap.size v ls) (hn : ls.length ≤ 100000) (hl : Lib.lens ls ≤ 100000) (hlm : ∀ l ∈ ls, l.length ≤ 1000000) (hB : base ≤ w.heap.size) (hT : TabA w) :
    Calls Tryz.prog 24 #[tP b, kv, v] w (EnR w base b m rv sym (anE sym es (macE key ls.flatten) (hm key ls.flatten)) (nfE sym full es (macE key ls.flatten)) (neE sym es (macE key ls.flatten))) := by
  cases sym with
  | true => exact mac_sym h hk hkd hkl hv hn hl hB (Nat.le_refl _)
  | false =>
    have c0 := h.blk.at (o := 0) rfl
    have HX := Lib.hid h
    have HM := Lib.hid (hmacSum_any kv v key ls w hk.sl (by omega) hv hlm hT)
    clear hk hkd hv hlm hT h
    go_enter Tryz.func24, Tryz.ntmps24
    go_wp2_with fail
    refine HM.out.mono ?_
    rintro e w1 ⟨v', rfl, hO, hB⟩
    have HR := Lib.hid (EnR.plain HX.out hO (by rw [hm_length]; omega) hB)
    clear hO hB
    go_wp2_with fail
    go_ret
    exact HR.out
theorem str_P {kv tv : Value} {key text : List UInt8} {r : Nat} (h : BX w base b m rv sym full es) (hk : Sl w w.heap.size kv key) (ht : Sl w w.heap.size tv text) (hkl : key.length ≤ 10000) (htl : text.length ≤ 10000) (h1 : 1 ≤ r) (h64 : r ≤ 64) (hB : base ≤ w.heap.size) (hT : TabA w) :
    Calls Tryz.prog 22 #[tP b, kv, tv, .int .i64 (r : Int)] w fun e w' => ∃ v, e = .returned (.tuple #[v, .int .i64 0]) ∧ EnR w base b m rv sym (anE sym es (strE key text (r : Int)) (keyS key text r 32)) (nfE sym full es (strE key text (r : Int))) (neE sym es (strE key text (r : Int))) (.returned v) w' := by
  have c0 := h.blk.at (o := 0) rfl
  have HX := Lib.hid h
  cases sym with
  | true =>
    have cv1 := conv_sl hk
    have cv2 := conv_sl ht
    have e1 : ¬ (r : Int) < 1 := by omega
    have e2 : ¬ (64 : Int) < (r : Int) := by omega
    have he : OkE (strE key text (r : Int)) := ⟨by simp [strE], by simp [strE], by first | (simp [strE]; done) | (simp [strE]; omega), by first | (simp [strE]; done) | (simp [strE]; omega), by show key.length ≤ 1000000; omega, by show text.length ≤ 1000000; omega, by simp [strE], by simp [strE]⟩
    have HE := Lib.hid (enter_any (strE key text (r : Int)) h he hB)
    obtain ⟨E, hE⟩ : ∃ E, E = strE key text (r : Int) := ⟨_, rfl⟩
    have HEE := Lib.hid (show eagg E = .agg #[.int .i64 3, str key, str text, .int .i64 (r : Int), str [], str []] from by rw [hE]; rfl)
    rw [← hE] at HE ⊢
    obtain ⟨A1, a1, rfl, -⟩ := hk
    obtain ⟨A2, a2, rfl, -⟩ := ht
    clear h hT he hE
    go_enter Tryz.func22, Tryz.ntmps22
    go_wp2_with fail
    rw [← HEE.out]
    refine HE.out.mono ?_
    intro e w1 hR
    have HR := Lib.hid hR
    obtain ⟨v', rv', rfl, -⟩ := hR
    go_wp2_with fail
    go_ret2
    exact ⟨v', rfl, HR.out⟩
  | false =>
    have HM := Lib.hid (hmStretch_any kv tv key text r 32 (r : Int) 32 w hk ht hkl htl hT rfl rfl h1 h64 (by omega) (by omega))
    clear hk ht hT h
    go_enter Tryz.func22, Tryz.ntmps22
    go_wp2_with fail
    refine HM.out.mono ?_
    rintro e w1 ⟨v', rfl, hO, hB⟩
    have HR := Lib.hid (EnR.plain HX.out hO (by rw [keyS_len _ _ _ _ (by omega)]; omega) hB)
    clear hO hB
    go_wp2_with fail
    go_ret2
    exact ⟨v', rfl, HR.out⟩
theorem str_Pbad {kv tv : Value} {r : Int} (h : BX w base b m rv sym full es) (hr : r < 1 ∨ 64 < r) :
    Calls Tryz.prog 22 #[tP b, kv, tv, .int .i64 r] w fun e w' => e = .returned (.tuple #[.slice none 0 0, .int .i64 1]) ∧ Below w.heap.size w w' := by
  have c0 := h.blk.at (o := 0) rfl
  clear h
  cases sym with
  | true =>
    by_cases h1 : r < 1
    · go_enter Tryz.func22, Tryz.ntmps22
      go_wp2_with fail
      go_ret2
      exact ⟨rfl, Below.refl _ _⟩
    · have h2 : 64 < r := by omega
      go_enter Tryz.func22, Tryz.ntmps22
      go_wp2_with fail
      go_ret2
      exact ⟨rfl, Below.refl _ _⟩
  | false =>
    have HM := Lib.hid (hmStretch_bad kv tv r 32 w (by omega))
    clear hr
    go_enter Tryz.func22, Tryz.ntmps22
    go_wp2_with fail
    refine HM.out.mono ?_
    rintro e w1 ⟨rfl, hB⟩
    have HB := Lib.hid hB
    clear hB
    go_wp2_with fail
    go_ret2
    exact ⟨rfl, HB.out⟩
set_option maxHeartbeats 2000000 in
theorem turn_Pbad {vx vy : Value} {x y : List UInt8} (h : BX w base b m rv sym full es) (hx : Sl w w.heap.size vx x) (hy : Sl w w.heap.size vy y) (ht : (isTagL sym es.length x && isTagL sym es.length y) = false) :
    Calls Tryz.prog 17 #[tP b, vx, vy] w fun e w' => e = .returned (.tuple #[.slice none 0 0, .int .i64 4]) ∧ Below w.heap.size w w' := by
  have HX := Lib.hid h
  have HY := Lib.hid hy
  have HI1 := Lib.hid (isTag_any h hx)
  have HI2 := Lib.hid (fun (W : World) (hw : Below w.heap.size w W) => isTag_any (h.below hw) (hy.below hw (Nat.le_refl _)))
  generalize isTagL sym es.length x = p at HI1 ht
  generalize isTagL sym es.length y = q at HI2 ht
  clear h hx hy
  cases p with
  | false =>
    go_enter Tryz.func17, Tryz.ntmps17
    go_wp2_with fail
    refine HI1.out.mono ?_
    rintro e w1 ⟨rfl, n, rfl⟩
    go_wp2_with fail
    go_ret2
    exact ⟨rfl, drawn _ _⟩
  | true =>
    obtain rfl : q = false := by simpa using ht
    clear ht
    go_enter Tryz.func17, Tryz.ntmps17
    go_wp2_with fail
    refine HI1.out.mono ?_
    rintro e w1 ⟨rfl, n, rfl⟩
    go_wp2_with fail
    refine (HI2.out _ (drawn w n)).mono ?_
    rintro e w2 ⟨rfl, n2, rfl⟩
    go_wp2_with fail
    go_ret2
    exact ⟨rfl, drawn w _⟩
set_option maxHeartbeats 2000000 in
theorem turn_P {vx vy : Value} {x y : List UInt8} (h : BX w base b m rv sym full es) (hge : GE es) (hx : Sl w w.heap.size vx x) (hy : Sl w w.heap.size vy y) (ht1 : isTagL sym es.length x = true) (ht2 : isTagL sym es.length y = true) (hB : base ≤ w.heap.size) :
    Calls Tryz.prog 17 #[tP b, vx, vy] w fun e w' => ∃ v, e = .returned (.tuple #[v, .int .i64 0]) ∧ EnR w base b m rv sym (tgS sym es (tuL sym es x y) (tuM sym es x y)) (fuS sym full es (tuL sym es x y) (tuM sym es x y)) (esS sym es (tuL sym es x y) (tuM sym es x y)) (.returned v) w' := by
  obtain ⟨a1, a2, a3⟩ := opL_ok hge ht1
  obtain ⟨b1, b2, b3⟩ := opL_ok hge ht2
  cases sym with
  | true =>
    have hL : tuL true es x y = onceL (suL es x).1 (suL es y).1 := (once_pick es.length a2 b2 a3 b3).symm
    have hM : tuM true es x y = xorL (suL es x).2 (suL es y).2 := rfl
    have hee := h.le
    have len1 : (suL es x).1.length ≤ 4096 := by
      have h2 : (suL es x).1 = pickN (suL es x).1 [] es.length := lt_ext a2 (pickN_lt _ _ _) (fun n => by rw [pickN_mem]; simp; exact fun h => a3 n h)
      rw [h2]; exact Nat.le_trans (pickN_len _ _ _) hee
    have len2 : (suL es y).1.length ≤ 4096 := by
      have h2 : (suL es y).1 = pickN (suL es y).1 [] es.length := lt_ext b2 (pickN_lt _ _ _) (fun n => by rw [pickN_mem]; simp; exact fun h => b3 n h)
      rw [h2]; exact Nat.le_trans (pickN_len _ _ _) hee
    have t1 : tagN x ≤ es.length := by
      unfold isTagL at ht1
      by_cases hk : looks x = true
      · rw [hk] at ht1; simp at ht1; omega
      · rw [tagN_no (by simpa using hk)]; omega
    have t2 : tagN y ≤ es.length := by
      unfold isTagL at ht2
      by_cases hk : looks y = true
      · rw [hk] at ht2; simp at ht2; omega
      · rw [tagN_no (by simpa using hk)]; omega
    have hL4 : (tuL true es x y).length ≤ 4096 := Nat.le_trans (pickN_len _ _ _) hee
    have hLn : ∀ n ∈ tuL true es x y, n < 4294967296 := fun n hn => by have := ((pickN_mem _ _ _ _).1 hn).1; omega
    have hM32 : (tuM true es x y).length = 32 := by rw [hM, xorL_length]; have h1 : (suL es x).2.length = 32 := a1; have h2 : (suL es y).2.length = 32 := b1; omega
    refine turn_sym h hge.okT hx hy ht1 ht2 t1 t2 (by omega) (by omega) (by have h1 : (suL es x).2.length = 32 := a1; omega) (by have h2 : (suL es y).2.length = 32 := b1; omega) (fun v W' => EnR w base b m rv true (tgS true es (tuL true es x y) (tuM true es x y)) (fuS true full es (tuL true es x y) (tuM true es x y)) (esS true es (tuL true es x y) (tuM true es x y)) (.returned v) W') ?_
    intro W vl vm hX hJ hS hBw
    rw [← hL] at hJ
    rw [← hM] at hS
    have hzz := hBw.size
    have keep : ∀ {W' : World}, Trs (bS b m rv) W W' → ∀ j, w.heap.size ≤ j → j < W.heap.size → W'.heap[j]? = W.heap[j]? := fun ht j h1 h2 => ht.block j h2 (fun hj => by have := h.bSlt j hj; omega)
    have fin : ∀ (e : Ending) (W' : World), ¬ rawS true (tuL true es x y) (tuM true es x y) = true → ¬ oneS (tuL true es x y) (tuM true es x y) = true → EnR W base b m rv true (tagE es (turnE (tuL true es x y) (tuM true es x y))) (fullE full es (turnE (tuL true es x y) (tuM true es x y))) (esE es (turnE (tuL true es x y) (tuM true es x y))) e W' →
        ∃ v, e = .returned v ∧ EnR w base b m rv true (tgS true es (tuL true es x y) (tuM true es x y)) (fuS true full es (tuL true es x y) (tuM true es x y)) (esS true es (tuL true es x y) (tuM true es x y)) (.returned v) W' ∧ ∀ j, w.heap.size ≤ j → j < W.heap.size → W'.heap[j]? = W.heap[j]? := by
      intro e W' hr ho hR
      have hR2 := hR.lift hBw
      obtain ⟨v, rv', rfl, h2, h3, h4, h5, h6⟩ := hR
      refine ⟨v, rfl, ?_, keep h4⟩
      unfold tgS fuS esS
      rw [if_neg hr, if_neg hr, if_neg hr, if_neg ho, if_neg ho, if_neg ho]
      exact hR2
    by_cases hr : rawS true (tuL true es x y) (tuM true es x y) = true
    · have hr' := hr
      unfold rawS at hr'
      simp only [Bool.true_and, Bool.and_eq_true, decide_eq_true_eq, Bool.not_eq_true'] at hr'
      obtain ⟨h1, h2⟩ := hr'
      rw [h1] at hJ
      refine (tagOf_mask hJ hS.sl h2).mono ?_
      rintro e W' ⟨rfl, hb⟩
      refine ⟨vm, rfl, ?_, fun j h3 h4 => hb.block j h4⟩
      unfold tgS fuS esS
      rw [if_pos hr, if_pos hr, if_pos hr]
      exact EnR.plain h (hS.below hb) (by omega) (hBw.trans (hb.mono hzz))
    · by_cases ho : oneS (tuL true es x y) (tuM true es x y) = true
      · have ho' := ho
        unfold oneS at ho'
        simp only [Bool.and_eq_true, decide_eq_true_eq] at ho'
        obtain ⟨h1, h2⟩ := ho'
        obtain ⟨n, hn⟩ : ∃ n, tuL true es x y = [n] := by
          match tuL true es x y, h1 with
          | [n], _ => exact ⟨n, rfl⟩
        have hn2 := hLn n (by rw [hn]; simp)
        rw [hn] at hJ
        rw [h2] at hS
        refine (tagOf_one hJ hS.sl hn2).mono ?_
        rintro e W' ⟨v, rfl, hO, hb⟩
        refine ⟨v, rfl, ?_, fun j h3 h4 => hb.block j h4⟩
        unfold tgS fuS esS
        rw [if_neg hr, if_neg hr, if_neg hr, if_pos ho, if_pos ho, if_pos ho, hn]
        exact EnR.plain h (hO.lower hzz) (by simp [fro_length, len4]) (hBw.trans (hb.mono hzz))
      · by_cases h0 : tuL true es x y = []
        · have hlk : looks (tuM true es x y) = true := by
            unfold rawS at hr
            rw [decide_eq_true h0] at hr
            simpa using hr
          rw [h0] at hJ
          refine (tagOf_looks hX hJ hS.sl hlk (by omega) (by omega)).mono ?_
          intro e W' hR
          rw [← h0] at hR
          exact fin e W' hr ho hR
        · by_cases h1 : (tuL true es x y).length = 1
          · obtain ⟨n, hn⟩ : ∃ n, tuL true es x y = [n] := by
              match tuL true es x y, h1 with
              | [n], _ => exact ⟨n, rfl⟩
            have hmz : tuM true es x y ≠ noughtsL := fun e => by
              unfold oneS at ho
              rw [decide_eq_true h1, decide_eq_true e] at ho
              exact ho rfl
            have hn2 := hLn n (by rw [hn]; simp)
            rw [hn] at hJ
            refine (tagOf_one_mask hX hJ hS.sl hmz hn2 (by omega) (by omega)).mono ?_
            intro e W' hR
            rw [← hn] at hR
            exact fin e W' hr ho hR
          · have h2 : 2 ≤ (tuL true es x y).length := by
              have : (tuL true es x y).length ≠ 0 := fun e => h0 (List.eq_nil_of_length_eq_zero e)
              omega
            refine (tagOf_many hX hJ hS.sl h2 (by omega) hLn (by omega) (by omega)).mono ?_
            intro e W' hR
            exact fin e W' hr ho hR
  | false =>
    have hL : tuL false es x y = [] := by
      unfold tuL opL
      refine List.eq_nil_iff_forall_not_mem.2 (fun n hn => ?_)
      have := ((pickN_mem _ _ _ _).1 hn).2
      simp at this
    have hr : rawS false (tuL false es x y) (tuM false es x y) = true := by unfold rawS; rw [hL]; rfl
    unfold tgS fuS esS
    rw [if_pos hr, if_pos hr, if_pos hr]
    have hM : tuM false es x y = xorL x y := rfl
    rw [hM]
    have hxl : x.length = 32 := a1
    have hyl : y.length = 32 := b1
    have c0 := h.blk.at (o := 0) rfl
    have HX := Lib.hid h
    have HI1 := Lib.hid (isTag_any h hx)
    have HI2 := Lib.hid (fun (W : World) (hw : Below w.heap.size w W) => isTag_any (h.below hw) (hy.below hw (Nat.le_refl _)))
    rw [ht1] at HI1
    rw [ht2] at HI2
    have HXO := Lib.hid (fun (W : World) (hw : Below w.heap.size w W) => xor_any w.heap.size vx vy x y W (hx.below hw (Nat.le_refl _)) (hy.below hw (Nat.le_refl _)) hw.size (by omega) (by omega))
    have HXL := Lib.hid (show 0 < (xorL x y).length from by rw [xorL_length]; omega)
    clear h hx hy ht1 ht2 hL hr hM a1 a2 a3 b1 b2 b3 hge
    go_enter Tryz.func17, Tryz.ntmps17
    go_wp2_with fail
    refine HI1.out.mono ?_
    rintro e w1 ⟨rfl, n, rfl⟩
    have c1 : (w.drewN n).cell? ⟨b, 0, none⟩ = some (.bool false) := c0
    go_wp2_with fail
    refine (HI2.out _ (drawn w n)).mono ?_
    rintro e w2 ⟨rfl, n2, rfl⟩
    have c2 : (w.drewN (n + n2)).cell? ⟨b, 0, none⟩ = some (.bool false) := c0
    have HD := Lib.hid (show Below w.heap.size w (w.drewN (n + n2)) from drawn w _)
    go_wp2_with fail
    refine (HXO.out _ HD.out).mono ?_
    rintro e w3 ⟨v', rfl, hO, hb⟩
    have HR := Lib.hid (EnR.plain HX.out (hO.lower HD.out.size) HXL.out (HD.out.trans (hb.mono HD.out.size)))
    clear hO hb
    go_wp2_with fail
    go_ret2
    exact ⟨v', rfl, HR.out⟩
end
end Go.Proofs.YtlnjpmpddomjiaaGreatDoor
set_option maxRecDepth 100000
namespace Go.Proofs.YtlnjpmpddomjiaaGreatDoor
open Go.RowKit
attribute [local go_sem] Oper.semAt_some
theorem XB.trsS {S : List Nat} {w w' : World} {base x : Nat} {V : Value} {sym full : Bool} {T : List TmL} {ts : List TmV} (h : XB w base x V sym full T ts) (ht : Trs S w w') (hd : ∀ k ∈ rB x V T, k ∉ S) : XB w' base x V sym full T ts :=
  ⟨ht.blk h.blk (hd x (mem_rB.2 (.inl rfl))), h.own.trs ht (fun k e => hd k (mem_rB.2 (.inr (.inl e)))), h.len, fun i h1 h2 => (h.tm i h1 h2).trs ht (fun v hv k e => hd k (mem_rB.2 (.inr (.inr ⟨T[i], List.getElem_mem h1, v, hv, e⟩)))), h.bx, h.nb, h.nk, h.le, h.nil⟩
/-- The blocks of the tags that were told, and of the row of them. -/
def lB (tb : Nat) (tv : Value) (vals : List Value) : List Nat := tb :: (vbl tv ++ vals.flatMap vbl)
theorem mem_lB {tb k : Nat} {tv : Value} {vals : List Value} : k ∈ lB tb tv vals ↔ k = tb ∨ tv.ownBlock = some k ∨ ∃ v ∈ vals, v.ownBlock = some k := by
  unfold lB
  simp only [List.mem_cons, List.mem_append, List.mem_flatMap, mem_vbl]
abbrev tSl : TypeId := 34
theorem ownsRow_trs {S : List Nat} {w w' : World} {base n z : Nat} {t : TypeId} {v : Value} {cs : List Value} (h : w.ownsRow base t z v n cs) (ht : Trs S w w') (hb : ∀ k, v.ownBlock = some k → k ∉ S) : w'.ownsRow base t z v n cs := by
  obtain ⟨h1, h2 | ⟨g, cap, cur, rfl, hb', hg, h3⟩⟩ := h
  · exact ⟨h1, .inl h2⟩
  · exact ⟨h1, .inr ⟨g, cap, cur, rfl, hb', (ht.block g (Array.getElem?_eq_some_iff.1 hg).1 (hb g rfl)).trans hg, h3⟩⟩
/-- The law's own: both Boxes' places, and the tags that were told. -/
structure LT (w : World) (base tb b x : Nat) (tv : Value) (vals : List Value) (tags : List (List UInt8)) : Prop where
  blk : Blk w tb [tP b, tP x, tv]
  row : w.ownsRow base tSl 1 tv vals.length vals
  len : vals.length = tags.length
  tg : ∀ i (h1 : i < vals.length) (h2 : i < tags.length), OwnB w base vals[i] tags[i]
  t32 : ∀ t ∈ tags, t.length = 32
  bt : base ≤ tb
  nt : tv.ownBlock ≠ some tb
  nv : ∀ v ∈ vals, v.ownBlock ≠ some tb ∧ ∀ k, tv.ownBlock = some k → v.ownBlock ≠ some k
section
variable {w w' : World} {base tb b x : Nat} {tv : Value} {vals : List Value} {tags : List (List UInt8)}
theorem LT.trsS {S : List Nat} (h : LT w base tb b x tv vals tags) (ht : Trs S w w') (hd : ∀ k ∈ lB tb tv vals, k ∉ S) : LT w' base tb b x tv vals tags :=
  ⟨ht.blk h.blk (hd tb (mem_lB.2 (.inl rfl))), ownsRow_trs h.row ht (fun k e => hd k (mem_lB.2 (.inr (.inl e)))), h.len, fun i h1 h2 => (h.tg i h1 h2).trsV ht (fun k e => hd k (mem_lB.2 (.inr (.inr ⟨vals[i], List.getElem_mem h1, e⟩)))), h.t32, h.bt, h.nt, h.nv⟩
theorem LT.lBlt (h : LT w base tb b x tv vals tags) : ∀ k ∈ lB tb tv vals, k < w.heap.size := by
  intro k hk
  rcases mem_lB.1 hk with rfl | e | ⟨v, hv, e⟩
  · exact h.blk.lt
  · exact (World.ownsRow.lt h.row k e).2
  · obtain ⟨i, hi, rfl⟩ := List.mem_iff_getElem.1 hv
    exact ((h.tg i hi (by rw [← h.len]; exact hi)).lt k e).2
end
/-- Both Boxes, and what they told. -/
structure TD (w : World) (base tb b m x : Nat) (rv V : Value) (T : List TmL) (tv : Value) (vals : List Value) (sym fP fR : Bool) (eP eR : List EnL) (tags : List (List UInt8)) : Prop where
  lt : LT w base tb b x tv vals tags
  bx : BX w base b m rv sym fP eP
  xb : XB w base x V sym fR T (eR.map enW)
  gp : GE eP
  gr : GE eR
  d1 : ∀ k ∈ bS b m rv, k ∉ rB x V T
  d2 : ∀ k ∈ bS b m rv, k ∉ lB tb tv vals
  d3 : ∀ k ∈ rB x V T, k ∉ lB tb tv vals
def tdB (tb b m x : Nat) (rv V : Value) (T : List TmL) (tv : Value) (vals : List Value) : List Nat := bS b m rv ++ (rB x V T ++ lB tb tv vals)
theorem mem_tdB {tb b m x k : Nat} {rv V : Value} {T : List TmL} {tv : Value} {vals : List Value} : k ∈ tdB tb b m x rv V T tv vals ↔ k ∈ bS b m rv ∨ k ∈ rB x V T ∨ k ∈ lB tb tv vals := by
  unfold tdB; simp only [List.mem_append]
section
variable {w w' : World} {base tb b m x : Nat} {rv V : Value} {T : List TmL} {tv : Value} {vals : List Value} {sym fP fR : Bool} {eP eR : List EnL} {tags : List (List UInt8)}
theorem TD.lts (h : TD w base tb b m x rv V T tv vals sym fP fR eP eR tags) : ∀ k ∈ tdB tb b m x rv V T tv vals, k < w.heap.size := by
  intro k hk
  rcases mem_tdB.1 hk with e | e | e
  · exact h.bx.bSlt k e
  · exact h.xb.rBlt k e
  · exact h.lt.lBlt k e
theorem TD.trsS {S : List Nat} (h : TD w base tb b m x rv V T tv vals sym fP fR eP eR tags) (ht : Trs S w w') (hd : ∀ k ∈ tdB tb b m x rv V T tv vals, k ∉ S) : TD w' base tb b m x rv V T tv vals sym fP fR eP eR tags :=
  ⟨h.lt.trsS ht (fun k e => hd k (mem_tdB.2 (.inr (.inr e)))), h.bx.trs ht (hd b (mem_tdB.2 (.inl (mem_bS.2 (.inl rfl))))) (hd m (mem_tdB.2 (.inl (mem_bS.2 (.inr (.inl rfl)))))) (fun k e => hd k (mem_tdB.2 (.inl (mem_bS.2 (.inr (.inr e)))))), h.xb.trsS ht (fun k e => hd k (mem_tdB.2 (.inr (.inl e)))), h.gp, h.gr, h.d1, h.d2, h.d3⟩
theorem TD.below (h : TD w base tb b m x rv V T tv vals sym fP fR eP eR tags) (hb : Below w.heap.size w w') : TD w' base tb b m x rv V T tv vals sym fP fR eP eR tags :=
  h.trsS (Trs.of_below (S := []) hb) (fun _ _ => by simp)
/-- Behind a call on the program's Box. -/
theorem TD.prog {v : Value} {tag : List UInt8} {f' : Bool} {e' : List EnL} (h : TD w base tb b m x rv V T tv vals sym fP fR eP eR tags) (hR : EnR w base b m rv sym tag f' e' (.returned v) w') (hg : GE e') :
    ∃ rv', TD w' base tb b m x rv' V T tv vals sym f' fR e' eR tags ∧ OwnB w' w.heap.size v tag ∧ (∀ k ∈ tdB tb b m x rv' V T tv vals, k ∈ tdB tb b m x rv V T tv vals ∨ w.heap.size ≤ k) ∧ (∀ k, v.ownBlock = some k → k ∉ tdB tb b m x rv' V T tv vals) ∧ Trs (tdB tb b m x rv V T tv vals) w w' := by
  obtain ⟨v0, rv', h1, h2, h3, h4, h5, h6⟩ := hR
  cases h1
  have hS : ∀ k ∈ bS b m rv', k ∈ bS b m rv ∨ w.heap.size ≤ k := by
    intro k hk
    rcases mem_bS.1 hk with rfl | rfl | e
    · exact .inl (mem_bS.2 (.inl rfl))
    · exact .inl (mem_bS.2 (.inr (.inl rfl)))
    · rcases h5 with rfl | h5 | ⟨j, h5, hj⟩
      · exact .inl (mem_bS.2 (.inr (.inr e)))
      · exact .inl (mem_bS.2 (.inr (.inr (h5 ▸ e))))
      · rw [h5] at e; cases e; exact .inr hj
  have hx := h.xb.trsS h4 (fun k e hk => h.d1 k hk e)
  have hl := h.lt.trsS h4 (fun k e hk => h.d2 k hk e)
  refine ⟨rv', ⟨hl, h3, hx, hg, h.gr, ?_, ?_, h.d3⟩, h2, ?_, ?_, h4.mono (fun k hk => mem_tdB.2 (.inl hk))⟩
  · intro k hk
    rcases hS k hk with e | e
    · exact h.d1 k e
    · intro q; have := h.xb.rBlt k q; omega
  · intro k hk
    rcases hS k hk with e | e
    · exact h.d2 k e
    · intro q; have := h.lt.lBlt k q; omega
  · intro k hk
    rcases mem_tdB.1 hk with e | e | e
    · rcases hS k e with e | e
      · exact .inl (mem_tdB.2 (.inl e))
      · exact .inr e
    · exact .inl (mem_tdB.2 (.inr (.inl e)))
    · exact .inl (mem_tdB.2 (.inr (.inr e)))
  · intro k e hk
    have hk1 := (h2.lt k e).1
    rcases mem_tdB.1 hk with q | q | q
    · rcases mem_bS.1 q with rfl | rfl | q
      · have := h.bx.blk.lt; omega
      · have := h.bx.mp.lt; omega
      · exact h6 (e.trans q.symm)
    · have := h.xb.rBlt k q; omega
    · have := h.lt.lBlt k q; omega
/-- Behind a call on the reference's Box. -/
theorem TD.ref {v : Value} {tag : List UInt8} {f' : Bool} {e' : List EnL} (h : TD w base tb b m x rv V T tv vals sym fP fR eP eR tags) (hR : RfR w base x V T sym tag f' e' (.returned v) w') (hg : GE e') :
    ∃ V' T', TD w' base tb b m x rv V' T' tv vals sym fP f' eP e' tags ∧ OwnB w' w.heap.size v tag ∧ (∀ k ∈ tdB tb b m x rv V' T' tv vals, k ∈ tdB tb b m x rv V T tv vals ∨ w.heap.size ≤ k) ∧ (∀ k, v.ownBlock = some k → k ∉ tdB tb b m x rv V' T' tv vals) ∧ Trs (tdB tb b m x rv V T tv vals) w w' := by
  obtain ⟨v0, V', T', h1, h2, h3, h4, h5, h6⟩ := hR
  cases h1
  have hxr : x ∈ rB x V T := mem_rB.2 (.inl rfl)
  have hS : ∀ k ∈ rB x V' T', k ∈ rB x V T ∨ w.heap.size ≤ k := by
    intro k hk
    rcases mem_rB.1 hk with rfl | e | ⟨q, hq, u, hu, e⟩
    · exact .inl hxr
    · rcases h5.row with rfl | h
      · exact .inl (mem_rB.2 (.inr (.inl e)))
      · exact .inr (h k e)
    · rcases h5.tms q hq with h | h
      · exact .inl (mem_rB.2 (.inr (.inr ⟨q, h, u, hu, e⟩)))
      · exact .inr (h u hu k e)
  have hbx := h.bx.trs h4 (by simp; exact fun e => h.d1 b (mem_bS.2 (.inl rfl)) (e ▸ hxr)) (by simp; exact fun e => h.d1 m (mem_bS.2 (.inr (.inl rfl))) (e ▸ hxr)) (fun k e => by simp; exact fun q => h.d1 k (mem_bS.2 (.inr (.inr e))) (q ▸ hxr))
  have hl := h.lt.trsS h4 (fun k e => by simp; exact fun q => h.d3 k (q ▸ hxr) e)
  refine ⟨V', T', ⟨hl, hbx, h3, h.gp, hg, ?_, h.d2, ?_⟩, h2, ?_, ?_, h4.mono (fun k hk => mem_tdB.2 (.inr (.inl (by rw [List.mem_singleton.1 hk]; exact hxr))))⟩
  · intro k hk q
    rcases hS k q with e | e
    · exact h.d1 k hk e
    · have := h.bx.bSlt k hk; omega
  · intro k hk
    rcases hS k hk with e | e
    · exact h.d3 k e
    · intro q; have := h.lt.lBlt k q; omega
  · intro k hk
    rcases mem_tdB.1 hk with e | e | e
    · exact .inl (mem_tdB.2 (.inl e))
    · rcases hS k e with e | e
      · exact .inl (mem_tdB.2 (.inr (.inl e)))
      · exact .inr e
    · exact .inl (mem_tdB.2 (.inr (.inr e)))
  · intro k e hk
    have hk1 := (h2.lt k e).1
    rcases mem_tdB.1 hk with q | q | q
    · have := h.bx.bSlt k q; omega
    · exact h6 k e q
    · have := h.lt.lBlt k q; omega
end
end Go.Proofs.YtlnjpmpddomjiaaGreatDoor
set_option maxRecDepth 100000
namespace Go.Proofs.YtlnjpmpddomjiaaGreatDoor
open Go.RowKit
attribute [local go_sem] Oper.semAt_some
theorem LT.form {w : World} {base tb b x : Nat} {tv : Value} {vals : List Value} {tags : List (List UInt8)} (h : LT w base tb b x tv vals tags) : ∃ A c, tv = .slice A tags.length c ∧ (0 < tags.length → ∃ g, A = some ⟨g, 0, none⟩ ∧ ∀ k (hk : k < tags.length), ∃ v, w.cell? ⟨g, k, none⟩ = some v ∧ Sl w w.heap.size v tags[k]) := by
  have hl := h.len
  rcases h.row.2 with ⟨h1, h2⟩ | ⟨g, cap, cur, h1, h2, h3, h4, h5, h6, h7⟩
  · refine ⟨none, 0, by rw [h1, show tags.length = 0 by omega], fun hp => by omega⟩
  · refine ⟨_, cap, by rw [h1, hl], fun _ => ⟨g, rfl, fun k hk => ?_⟩⟩
    have hkv : k < vals.length := by omega
    refine ⟨vals[k], ?_, (h.tg k hkv hk).sl⟩
    have := World.ownsRow.cells h.row (g := g) (by rw [h1]; rfl) k vals[k] (List.getElem?_eq_getElem hkv)
    rw [Addr.add_lit, Nat.zero_add] at this
    exact this
set_option maxHeartbeats 4000000 in
/-- What pick tells: nothing, or one of the tags, in bytes of its own. -/
theorem pick_any {w : World} {base tb b x : Nat} {tv : Value} {vals : List Value} {tags : List (List UInt8)} (h : LT w base tb b x tv vals tags) (n : Int) (hl : tags.length ≤ 100000) :
    Calls Tryz.prog 16 #[.pointer (some ⟨tb, 0, none⟩), .int .i64 n] w fun e w' => ∃ v t, e = .returned v ∧ OwnB w' w.heap.size v t ∧ (t = [] ∨ t ∈ tags) ∧ Below w.heap.size w w' := by
  obtain ⟨A, c, rfl, hx⟩ := h.form
  have k2 : w.cell? ⟨tb, 2, none⟩ = some (.slice A tags.length c) := h.blk.at (o := 2) rfl
  have HL := Lib.hid h
  have H3 := Lib.hid hx
  clear h hx
  by_cases h0 : tags.length = 0
  · rw [h0] at k2
    go_enter Tryz.func16, Tryz.ntmps16
    go_wp2_with fail
    go_ret
    exact ⟨_, [], rfl, OwnB.nil _ _, .inl rfl, Below.refl _ _⟩
  · have e0 : ((tags.length : Int) == 0) = false := by rw [beq_eq_false_iff_ne]; omega
    by_cases hn : n < 0
    · go_enter Tryz.func16, Tryz.ntmps16
      go_wp2_with fail
      go_ret
      exact ⟨_, [], rfl, OwnB.nil _ _, .inl rfl, Below.refl _ _⟩
    obtain ⟨g, rfl, hc⟩ := H3.out (by omega)
    obtain ⟨N, rfl⟩ := Int.eq_ofNat_of_zero_le (Int.not_lt.1 hn)
    obtain ⟨k, hk⟩ : ∃ k, k = N % tags.length := ⟨_, rfl⟩
    have hkl : k < tags.length := by rw [hk]; exact Nat.mod_lt _ (by omega)
    have hrem : Int.tmod (N : Int) (tags.length : Int) = (k : Int) := by rw [hk]; rfl
    obtain ⟨vk, hvk, hsk⟩ := hc k hkl
    have HSK := Lib.hid hsk
    have HMEM := Lib.hid (show tags[k] ∈ tags from List.getElem_mem hkl)
    have hki : (k : Int) < (tags.length : Int) := by omega
    have HTL := Lib.hid (show tags[k].length ≤ 32 from by rw [HL.out.t32 _ (List.getElem_mem hkl)]; exact Nat.le_refl _)
    obtain ⟨tk, htk⟩ : ∃ t, t = tags[k] := ⟨_, rfl⟩
    rw [← htk] at HSK HMEM HTL
    have hkn := hn
    clear hc hsk hk htk
    go_enter Tryz.func16, Tryz.ntmps16
    go_wp2_with fail
    refine wp_region_noPanic ?_
    refine wp_region_held (S := fun W' => W'.cell? ⟨tb, 2, none⟩ = some (.slice (some ⟨g, 0, none⟩) tags.length c) ∧ W'.cell? ⟨g, k, none⟩ = some vk) (by kernel_rfl) ?_
    change wpAnyH _ _ _ _ _ _ _ _ (World.drew _)
    obtain ⟨X0, hX0⟩ : ∃ X, X = World.drew w := ⟨_, rfl⟩
    have HB0 := Lib.hid (show Below w.heap.size w X0 from by rw [hX0]; exact (Below.refl _ _).drew)
    have HX := Lib.hid (show X0.cell? ⟨tb, 2, none⟩ = some (.slice (some ⟨g, 0, none⟩) tags.length c) ∧ X0.cell? ⟨g, k, none⟩ = some vk from by rw [hX0]; exact ⟨k2, hvk⟩)
    rw [← hX0]
    clear hX0
    refine takeH 0 15 (.pointer (some ⟨tb, 0, none⟩)) rfl rfl (by kernel_rfl) (by kernel_rfl) (by kernel_rfl) (fun _ _ _ h => h) rfl (fun w' h => by obtain ⟨h0, h1⟩ := h; go_simp) HX.out ?_
    go_frame
    refine takeH 1 16 (.pointer (some ⟨tb, 0, none⟩)) rfl rfl (by kernel_rfl) (by kernel_rfl) (by kernel_rfl) (fun _ _ _ h => h) rfl (fun w' h => by obtain ⟨h0, h1⟩ := h; go_simp) HX.out ?_
    go_frame
    refine takeH 2 17 (.pointer (some ⟨tb, 2, none⟩)) rfl rfl (by kernel_rfl) (by kernel_rfl) (by kernel_rfl) (fun _ _ _ h => h) rfl (fun w' h => by obtain ⟨h0, h1⟩ := h; go_simp) HX.out ?_
    go_frame
    refine takeH 3 18 (.slice (some ⟨g, 0, none⟩) tags.length c) rfl rfl (by kernel_rfl) (by kernel_rfl) (by kernel_rfl) (fun _ _ _ h => h) rfl (fun w' h => by obtain ⟨h0, h1⟩ := h; go_simp) HX.out ?_
    go_frame
    refine takeH 4 19 (.int .i64 (N : Int)) rfl rfl (by kernel_rfl) (by kernel_rfl) (by kernel_rfl) (fun _ _ _ h => h) rfl (fun w' h => by obtain ⟨h0, h1⟩ := h; go_simp) HX.out ?_
    go_frame
    refine takeH 5 20 (.pointer (some ⟨tb, 0, none⟩)) rfl rfl (by kernel_rfl) (by kernel_rfl) (by kernel_rfl) (fun _ _ _ h => h) rfl (fun w' h => by obtain ⟨h0, h1⟩ := h; go_simp) HX.out ?_
    go_frame
    refine takeH 6 21 (.pointer (some ⟨tb, 0, none⟩)) rfl rfl (by kernel_rfl) (by kernel_rfl) (by kernel_rfl) (fun _ _ _ h => h) rfl (fun w' h => by obtain ⟨h0, h1⟩ := h; go_simp) HX.out ?_
    go_frame
    refine takeH 7 22 (.pointer (some ⟨tb, 2, none⟩)) rfl rfl (by kernel_rfl) (by kernel_rfl) (by kernel_rfl) (fun _ _ _ h => h) rfl (fun w' h => by obtain ⟨h0, h1⟩ := h; go_simp) HX.out ?_
    go_frame
    refine takeH 8 23 (.slice (some ⟨g, 0, none⟩) tags.length c) rfl rfl (by kernel_rfl) (by kernel_rfl) (by kernel_rfl) (fun _ _ _ h => h) rfl (fun w' h => by obtain ⟨h0, h1⟩ := h; go_simp) HX.out ?_
    go_frame
    refine takeH 9 24 (.int .i64 (tags.length : Int)) rfl rfl (by kernel_rfl) (by kernel_rfl) (by kernel_rfl) (fun _ _ _ h => h) rfl (fun w' h => by obtain ⟨h0, h1⟩ := h; go_simp) HX.out ?_
    go_frame
    refine takeH 10 25 (.int .i64 (k : Int)) rfl rfl (by kernel_rfl) (by kernel_rfl) (by kernel_rfl) (fun _ _ _ h => h) rfl (fun w' h => by obtain ⟨h0, h1⟩ := h; go_simp) HX.out ?_
    go_frame
    refine takeH 11 26 (.pointer (some ⟨g, k, none⟩)) rfl rfl (by kernel_rfl) (by kernel_rfl) (by kernel_rfl) (fun _ _ _ h => h) rfl (fun w' h => by obtain ⟨h0, h1⟩ := h; go_simp) HX.out ?_
    go_frame
    refine takeH 12 27 (vk) rfl rfl (by kernel_rfl) (by kernel_rfl) (by kernel_rfl) (fun _ _ _ h => h) rfl (fun w' h => by obtain ⟨h0, h1⟩ := h; go_simp) HX.out ?_
    go_frame
    refine wpAnyH_all (rs := [13]) (by kernel_rfl) (by simp) ?_
    simp only [List.mem_singleton, forall_eq]
    refine wpOp_callD 28 rfl rfl rfl 27 #[vk] (by go_simp) ?_
    refine (copy_any w.heap.size vk tk X0 (HSK.out.below HB0.out (Nat.le_refl _)) HB0.out.size (by have := HTL.out; omega)).mono ?_
    rintro e X1 ⟨v1, rfl, hO, hb1⟩
    have HO := Lib.hid (hO.lower HB0.out.size)
    have HB1 := Lib.hid (HB0.out.trans (hb1.mono HB0.out.size))
    have HX1 := Lib.hid (show X1.cell? ⟨tb, 2, none⟩ = some (.slice (some ⟨g, 0, none⟩) tags.length c) ∧ X1.cell? ⟨g, k, none⟩ = some vk from ⟨(HB1.out.cell (p := ⟨tb, 2, none⟩) (World.block_lt_of_cell? _ _ k2)).trans k2, (HB1.out.cell (p := ⟨g, k, none⟩) (World.block_lt_of_cell? _ _ hvk)).trans hvk⟩)
    refine ⟨_, rfl, HX1.out, ?_⟩
    go_frame
    clear HX hO hb1
    refine takeH 14 4 (v1) rfl rfl (by kernel_rfl) (by kernel_rfl) (by kernel_rfl) (fun _ _ _ h => h) rfl (fun w' h => by obtain ⟨h0, h1⟩ := h; go_simp) HX1.out ?_
    go_frame
    refine wpAnyH_done (by kernel_rfl) ?_ _
    refine NoPanic.normal ?_
    go_wp2_with fail
    go_ret
    exact ⟨v1, tk, rfl, HO.out, .inr HMEM.out, HB1.out⟩
end Go.Proofs.YtlnjpmpddomjiaaGreatDoor
set_option maxRecDepth 100000
namespace Go.Proofs.YtlnjpmpddomjiaaGreatDoor
open Go.RowKit
/-- A sum that is an entry: of no other fields, and neither told raw nor by a lone handle. -/
def Su (e : EnL) : Prop := e = turnE (numsL e.lst) e.mask ∧ rawS true (numsL e.lst) e.mask = false ∧ oneS (numsL e.lst) e.mask = false
/-- The numbers in a list are those of entries that are no sums; each sum had to be an entry. -/
def NT (es : List EnL) : Prop := ∀ e ∈ es, e.kind = 4 → (∀ n ∈ numsL e.lst, ∀ e', es[n - 1]? = some e' → e'.kind ≠ 4) ∧ Su e
/-- What a call makes of the entries: at most one more. -/
def GY (es es' : List EnL) : Prop := es'.length ≤ es.length + 1 ∧ (NT es → NT es')
theorem GY.refl (es : List EnL) : GY es es := ⟨by omega, id⟩
theorem NT.nil : NT [] := fun e h => by simp at h
theorem NT.snoc {es : List EnL} {e : EnL} (h : NT es) (hl : ∀ x ∈ es, ∀ n ∈ numsL x.lst, 1 ≤ n ∧ n ≤ es.length) (he : e.kind = 4 → (∀ n ∈ numsL e.lst, (1 ≤ n ∧ n ≤ es.length) ∧ ∀ e', es[n - 1]? = some e' → e'.kind ≠ 4) ∧ Su e) : NT (es ++ [e]) := by
  intro x hx h4
  rcases List.mem_append.1 hx with hx | hx
  · refine ⟨fun n hn e' he' => ?_, (h x hx h4).2⟩
    have h1 := hl x hx n hn
    rw [List.getElem?_append_left (by omega)] at he'
    exact (h x hx h4).1 n hn e' he'
  · rw [List.mem_singleton.1 hx] at h4 ⊢
    refine ⟨fun n hn e' he' => ?_, (he h4).2⟩
    obtain ⟨h1, h2⟩ := (he h4).1 n hn
    rw [List.getElem?_append_left (by omega)] at he'
    exact h2 e' he'
theorem GY.put {es : List EnL} {e : EnL} (hg : GE es) (he : NT es → e.kind = 4 → (∀ n ∈ numsL e.lst, (1 ≤ n ∧ n ≤ es.length) ∧ ∀ e', es[n - 1]? = some e' → e'.kind ≠ 4) ∧ Su e) : GY es (esE es e) := by
  unfold esE
  split
  · exact GY.refl es
  · split
    · exact GY.refl es
    · exact ⟨by rw [List.length_append]; simp, fun h => h.snoc (fun x hx => (hg.lt x hx).2) (he h)⟩
theorem GY.neE {sym : Bool} {es : List EnL} {e : EnL} (hg : GE es) (h4 : e.kind ≠ 4) : GY es (neE sym es e) := by
  cases sym with
  | true => exact GY.put hg (fun _ h => absurd h h4)
  | false => exact GY.refl es
/-- The numbers that a tag opens to are no sums'. -/
theorem opL_nt {sym : Bool} {es : List EnL} {l : List UInt8} (h : NT es) : ∀ n ∈ (opL sym es l).1, ∀ e', es[n - 1]? = some e' → e'.kind ≠ 4 := by
  intro n hn e' he'
  unfold opL at hn
  cases sym with
  | false => rw [if_neg (by simp)] at hn; simp at hn
  | true =>
    rw [if_pos rfl] at hn
    unfold suL at hn
    cases ht : tagN l with
    | zero => rw [ht] at hn; simp at hn
    | succ k =>
      rw [ht] at hn
      cases hk : es[k]? with
      | none => simp only [hk] at hn; simp at hn
      | some e =>
        simp only [hk] at hn
        by_cases h4 : e.kind = 4
        · rw [if_pos h4] at hn
          exact (h e (List.mem_of_getElem? hk) h4).1 n hn e' he'
        · rw [if_neg h4] at hn
          obtain rfl : n = k + 1 := by simpa using hn
          rw [Nat.add_sub_cancel, hk] at he'
          cases he'
          exact h4
theorem tuL_nt {sym : Bool} {es : List EnL} {x y : List UInt8} (h : NT es) : ∀ n ∈ tuL sym es x y, ∀ e', es[n - 1]? = some e' → e'.kind ≠ 4 := by
  intro n hn
  have h2 := ((pickN_mem _ _ _ _).1 hn).2
  by_cases h3 : n ∈ (opL sym es x).1
  · exact opL_nt h n h3
  · by_cases h4 : n ∈ (opL sym es y).1
    · exact opL_nt h n h4
    · simp [h3, h4] at h2
theorem GY.esS {sym : Bool} {es : List EnL} {x y : List UInt8} {M : List UInt8} (hg : GE es) : GY es (esS sym es (tuL sym es x y) M) := by
  have hr : ∀ n ∈ tuL sym es x y, 1 ≤ n ∧ n ≤ es.length := fun n hn => ((pickN_mem _ _ _ _).1 hn).1
  have hle := hg.le
  have hno : numsL (turnE (tuL sym es x y) M).lst = tuL sym es x y := turnE_nums (fun m hm => by have := (hr m hm).2; omega)
  unfold Go.Proofs.YtlnjpmpddomjiaaGreatDoor.esS
  split
  · exact GY.refl es
  · rename_i h1
    split
    · exact GY.refl es
    · rename_i h2
      have hsym : sym = true := by
        cases sym with
        | true => rfl
        | false =>
          exfalso
          apply h1
          unfold rawS
          have : tuL false es x y = [] := by
            rw [List.eq_nil_iff_forall_not_mem]
            intro n hn
            have h := ((pickN_mem _ _ _ _).1 hn).2
            simp [opL] at h
          rw [this]
          rfl
      subst hsym
      have hmk : (turnE (tuL true es x y) M).mask = M := rfl
      refine GY.put hg (fun hnt _ => ⟨fun n hn => ?_, ?_⟩)
      · rw [hno] at hn
        exact ⟨hr n hn, tuL_nt hnt n hn⟩
      · unfold Su
        rw [hno, hmk]
        exact ⟨rfl, by simpa using h1, by simpa using h2⟩
/-- Both Boxes alike, at most n tags told, each one that Turn takes. -/
def TE (w : World) (base tb b x : Nat) (sym : Bool) (n : Nat) : Prop :=
  ∃ m rv V T tv vals f es tags, TD w base tb b m x rv V T tv vals sym f f es es tags ∧ (∀ t ∈ tags, isTagL sym es.length t = true) ∧ tags.length ≤ n ∧ es.length ≤ n ∧ NT es
end Go.Proofs.YtlnjpmpddomjiaaGreatDoor
set_option maxRecDepth 100000
namespace Go.Proofs.YtlnjpmpddomjiaaGreatDoor
open Go.RowKit
attribute [local go_sem] Oper.semAt_some
theorem info_tg : (Tryz.prog.info? tSl).map (fun i => (i.zero, i.size, i.bytes)) = some (some (.slice none 0 0), 1, 24) := by kernel_rfl
section
variable {w : World} {ops : Array Oper} {rest : List Oper} {o : Oper} {a : Act} {Q : Exit → Act → World → Prop}
theorem wpList_appTg (hgd : o.guard = none) (s x : Operand) (ho : o.op = .call { callee := .builtin .append, args := #[s, x], argTypes := #[31, 31] })
    (base : Nat) (v : Value) (vals : List Value) (y : Value) (hy : y.oneCell' = true) (hs : a.eval s = v) (hown : w.ownsRow base tSl 1 v vals.length vals) (sb c : Nat) (hx : a.eval x = .slice (some ⟨sb, 0, none⟩) 1 c) (hsrc : w.cell? ⟨sb, 0, none⟩ = some y)
    (hlen : vals.length ≤ 1000000) (hbase : base ≤ w.heap.size)
    (h : ∀ g cap w', w'.ownsRow base tSl 1 (.slice (some ⟨g, 0, none⟩) (vals.length + 1) cap) (vals ++ [y]).length (vals ++ [y]) → w.grownBy w' v.ownBlock → ((Value.slice (some ⟨g, 0, none⟩) (vals.length + 1) cap).ownBlock = v.ownBlock ∨ ∀ k, (Value.slice (some ⟨g, 0, none⟩) (vals.length + 1) cap).ownBlock = some k → w.heap.size ≤ k) → wpList Tryz.prog ops Q rest (a.put o.dst (.slice (some ⟨g, 0, none⟩) (vals.length + 1) cap)) w') : wpList Tryz.prog ops Q (o :: rest) a w := by
  obtain ⟨i0, hi, hz0, hz1, hz2⟩ := info_parts info_tg
  refine wpList_plain hgd fun K hK => ?_
  refine wp_append_lies w s x 31 ho base tSl i0 (.slice none 0 0) 1 24 Tryz.underlying31 hi hz0 hz1 hz2 rfl (by decide) v vals.length vals hs hown ⟨sb, 0, none⟩ 1 c [y] hx rfl ?_ (by simp [hy]) (by omega) (by unfold maxLen; omega) (by omega) hbase w.heap.size rfl ?_
  · intro j u hu
    match j, hu with
    | 0, hu => cases hu; exact hsrc
    | j + 1, hu => simp at hu
  · intro g cap w' h1 h2 h3 _
    refine hK _ _ (h g cap w' ?_ h2 ?_)
    · rw [List.length_append]; exact h1
    · rcases h3 with e | e
      · exact .inl e.symm
      · exact .inr (fun k hk => by cases hk; show w.heap.size ≤ g; omega)
end
theorem TmO.ges {w : World} {base : Nat} {q : TmL} {t : TmV} (h : TmO w base q t) : ∀ v ∈ q.blocks, ∀ k, v.ownBlock = some k → base ≤ k := by
  intro v hv k hk
  simp only [TmL.blocks, List.mem_cons, List.not_mem_nil, or_false] at hv
  rcases hv with rfl | rfl | rfl | rfl
  · exact (h.key.lt k hk).1
  · exact (h.text.lt k hk).1
  · obtain ⟨ns, _, _, h3⟩ := h.lst; exact (h3.lt k hk).1
  · exact (h.mask.lt k hk).1
theorem TD.base {w : World} {base tb b m x : Nat} {rv V : Value} {T : List TmL} {tv : Value} {vals : List Value} {sym fP fR : Bool} {eP eR : List EnL} {tags : List (List UInt8)} (h : TD w base tb b m x rv V T tv vals sym fP fR eP eR tags) : ∀ k ∈ tdB tb b m x rv V T tv vals, base ≤ k := by
  intro k hk
  rcases mem_tdB.1 hk with e | e | e
  · rcases mem_bS.1 e with rfl | rfl | e
    · exact h.bx.bb
    · exact h.bx.bm
    · exact (World.ownsRow.lt h.bx.row k e).1
  · rcases mem_rB.1 e with rfl | e | ⟨q, hq, v, hv, e⟩
    · exact h.xb.bx
    · exact (h.xb.own.lt k e).1
    · obtain ⟨i, hi, rfl⟩ := List.mem_iff_getElem.1 hq
      exact (h.xb.tm i hi (by rw [← h.xb.len]; exact hi)).ges v hv k e
  · rcases mem_lB.1 e with rfl | e | ⟨v, hv, e⟩
    · exact h.lt.bt
    · exact (World.ownsRow.lt h.lt.row k e).1
    · obtain ⟨i, hi, rfl⟩ := List.mem_iff_getElem.1 hv
      exact ((h.lt.tg i hi (by rw [← h.lt.len]; exact hi)).lt k e).1
/-- Behind the append of a tag and the store of the row. -/
theorem TD.push {w w1 w2 : World} {base tb b m x : Nat} {rv V : Value} {T : List TmL} {tv v' y : Value} {vals : List Value} {sym fP fR : Bool} {eP eR : List EnL} {tags : List (List UInt8)} {tag : List UInt8} {B : Nat}
    (h : TD w base tb b m x rv V T tv vals sym fP fR eP eR tags) (hy : OwnB w B y tag) (hB : base ≤ B) (hyd : ∀ k, y.ownBlock = some k → k ∉ tdB tb b m x rv V T tv vals) (h32 : tag.length = 32)
    (h1 : Below w.heap.size w w1) (h2 : w2.ownsRow base tSl 1 v' (vals ++ [y]).length (vals ++ [y])) (hg : w1.grownBy w2 tv.ownBlock) (hv : v'.ownBlock = tv.ownBlock ∨ ∀ k, v'.ownBlock = some k → w1.heap.size ≤ k) :
    TD (w2.setCell ⟨tb, 2, none⟩ v') base tb b m x rv V T v' (vals ++ [y]) sym fP fR eP eR (tags ++ [tag]) ∧ Trs (lB tb tv vals) w (w2.setCell ⟨tb, 2, none⟩ v') ∧
      (∀ k ∈ tdB tb b m x rv V T v' (vals ++ [y]), k ∈ tdB tb b m x rv V T tv vals ∨ w.heap.size ≤ k ∨ y.ownBlock = some k) := by
  have hz1 := h1.size
  have ht2 : Trs (lB tb tv vals) w w2 := (Trs.of_below h1).grown hg (fun k e => mem_lB.2 (.inr (.inl e)))
  have ht : Trs (lB tb tv vals) w (w2.setCell ⟨tb, 2, none⟩ v') := ht2.set (p := ⟨tb, 2, none⟩) (mem_lB.2 (.inl rfl)) _
  have htb : tb < w.heap.size := h.lt.blk.lt
  have hnv : v'.ownBlock ≠ some tb := by
    rcases hv with e | e
    · rw [e]; exact h.lt.nt
    · intro q; have := e tb q; omega
  have hsm : Trs [tb] w2 (w2.setCell ⟨tb, 2, none⟩ v') := (Trs.refl [tb] w2).set (p := ⟨tb, 2, none⟩) (by simp) _
  have hkeep : ∀ {u : Value} {l : List UInt8} {C : Nat}, OwnB w C u l → u.ownBlock ≠ some tb → (∀ k, tv.ownBlock = some k → u.ownBlock ≠ some k) → OwnB (w2.setCell ⟨tb, 2, none⟩ v') C u l := by
    intro u l C hu n1 n2
    have hu1 := hu.below h1
    have hu2 : OwnB w2 C u l := hu1.trsV ((Trs.refl (vbl tv) w1).grown hg (fun k e => mem_vbl.2 e)) (fun k e hk => n2 k (mem_vbl.1 hk) e)
    exact hu2.trsV hsm (fun k e hk => n1 (by rw [List.mem_singleton.1 hk] at e; exact e))
  have hyt : y.ownBlock ≠ some tb := fun e => hyd tb e (mem_tdB.2 (.inr (.inr (mem_lB.2 (.inl rfl)))))
  have hyv : ∀ k, tv.ownBlock = some k → y.ownBlock ≠ some k := fun k e q => hyd k q (mem_tdB.2 (.inr (.inr (mem_lB.2 (.inr (.inl e))))))
  have hnew : ∀ k ∈ lB tb v' (vals ++ [y]), k ∈ lB tb tv vals ∨ w.heap.size ≤ k ∨ y.ownBlock = some k := by
    intro k hk
    rcases mem_lB.1 hk with rfl | e | ⟨u, hu, e⟩
    · exact .inl (mem_lB.2 (.inl rfl))
    · rcases hv with q | q
      · exact .inl (mem_lB.2 (.inr (.inl (q ▸ e))))
      · exact .inr (.inl (by have := q k e; omega))
    · rcases List.mem_append.1 hu with hu | hu
      · exact .inl (mem_lB.2 (.inr (.inr ⟨u, hu, e⟩)))
      · rw [List.mem_singleton.1 hu] at e; exact .inr (.inr e)
  have hbk2 : Blk w2 tb [tP b, tP x, tv] := (h.lt.blk.below h1 htb).grown hg (fun e => h.lt.nt e.symm)
  refine ⟨⟨?_, ?_, ?_, h.gp, h.gr, h.d1, ?_, ?_⟩, ht, ?_⟩
  · refine ⟨hbk2.set 2 v', ownsRow_trs h2 hsm (fun k e hk => hnv (by rw [List.mem_singleton.1 hk] at e; exact e)), by rw [List.length_append, List.length_append, h.lt.len]; rfl, ?_, ?_, h.lt.bt, hnv, ?_⟩
    · intro i h3 h4
      by_cases hi : i < vals.length
      · have hi2 : i < tags.length := by rw [← h.lt.len]; exact hi
        rw [List.getElem_append_left hi, List.getElem_append_left hi2]
        have hn := h.lt.nv vals[i] (List.getElem_mem hi)
        exact hkeep (h.lt.tg i hi hi2) hn.1 hn.2
      · have hi0 : i = vals.length := by rw [List.length_append, List.length_singleton] at h3; omega
        rw [List.getElem_append_right (by omega), List.getElem_append_right (by rw [← h.lt.len]; omega)]
        simp only [List.getElem_singleton]
        exact (hkeep hy hyt hyv).lower hB
    · intro t ht'
      rcases List.mem_append.1 ht' with ht' | ht'
      · exact h.lt.t32 t ht'
      · rw [List.mem_singleton.1 ht']; exact h32
    · intro u hu
      rcases List.mem_append.1 hu with hu' | hu'
      · have hn := h.lt.nv u hu'
        refine ⟨hn.1, fun k e => ?_⟩
        rcases hv with q | q
        · exact hn.2 k (q ▸ e)
        · intro e2
          have := q k e
          have := h.lt.lBlt k (mem_lB.2 (.inr (.inr ⟨u, hu', e2⟩)))
          omega
      · rw [List.mem_singleton.1 hu']
        refine ⟨hyt, fun k e => ?_⟩
        rcases hv with q | q
        · exact hyv k (q ▸ e)
        · intro e2
          have := q k e
          have := (hy.lt k e2).2
          omega
  · exact h.bx.trs ht (fun hk => h.d2 b (mem_bS.2 (.inl rfl)) hk) (fun hk => h.d2 m (mem_bS.2 (.inr (.inl rfl))) hk) (fun k e hk => h.d2 k (mem_bS.2 (.inr (.inr e))) hk)
  · exact h.xb.trsS ht (fun k e hk => h.d3 k e hk)
  · intro k hk q
    rcases hnew k q with e | e | e
    · exact h.d2 k hk e
    · have := h.bx.bSlt k hk; omega
    · exact hyd k e (mem_tdB.2 (.inl hk))
  · intro k hk q
    rcases hnew k q with e | e | e
    · exact h.d3 k hk e
    · have := h.xb.rBlt k hk; omega
    · exact hyd k e (mem_tdB.2 (.inr (.inl hk)))
  · intro k hk
    rcases mem_tdB.1 hk with e | e | e
    · exact .inl (mem_tdB.2 (.inl e))
    · exact .inl (mem_tdB.2 (.inr (.inl e)))
    · rcases hnew k e with q | q | q
      · exact .inl (mem_tdB.2 (.inr (.inr q)))
      · exact .inr (.inl q)
      · exact .inr (.inr q)
end Go.Proofs.YtlnjpmpddomjiaaGreatDoor
set_option maxRecDepth 100000
namespace Go.Proofs.YtlnjpmpddomjiaaGreatDoor
open Go.RowKit
theorem Trs.next {S S' : List Nat} {w w1 w' : World} (h : Trs S w w1) (k : Trs S' w1 w') (hs : ∀ i ∈ S', i ∈ S ∨ w.heap.size ≤ i) : Trs S w w' :=
  ⟨k.os.trans h.os, k.tape.trans h.tape, k.output.trans h.output, Nat.le_trans h.size k.size, fun i hi hn => (k.block i (Nat.lt_of_lt_of_le hi h.size) (fun e => by rcases hs i e with q | q; exact hn q; omega)).trans (h.block i hi hn)⟩
theorem isTag_handle {k n : Nat} (h1 : 1 ≤ n) (h2 : n ≤ k) (hk : k ≤ 4096) : isTagL true k (fro ++ len4 n) = true := by
  obtain ⟨h3, h4⟩ := tagN_handle n (by omega)
  unfold isTagL
  rw [h3, h4, decide_eq_true (show (fro ++ len4 n).length = 32 from by simp [fro_length, len4]), decide_eq_true (show 0 < n by omega), decide_eq_true h2]
  rfl
theorem isTag_more {sym : Bool} {k k' : Nat} {l : List UInt8} (h : isTagL sym k l = true) (hk : k ≤ k') : isTagL sym k' l = true := by
  unfold isTagL at h ⊢
  rw [Bool.and_eq_true] at h ⊢
  refine ⟨h.1, ?_⟩
  have h2 := h.2
  cases sym with
  | false => simp
  | true =>
    cases hl : looks l with
    | false => simp
    | true =>
      rw [hl] at h2
      simp only [Bool.not_true, Bool.false_or, Bool.and_eq_true, decide_eq_true_eq] at h2 ⊢
      exact ⟨h2.1, by omega⟩
theorem isTag_raw {sym : Bool} {k : Nat} {l : List UInt8} (h : l.length = 32) (hl : sym = false ∨ looks l = false) : isTagL sym k l = true := by
  unfold isTagL
  rw [decide_eq_true h, Bool.true_and]
  rcases hl with rfl | hl
  · rfl
  · rw [hl]; simp
theorem esE_len (es : List EnL) (e : EnL) : es.length ≤ (esE es e).length := by
  rcases esE_cases es e with h | ⟨_, _, h⟩
  · rw [h]; exact Nat.le_refl _
  · rw [h, List.length_append]; omega
theorem isTag_tagE {es : List EnL} {e : EnL} (hle : (esE es e).length ≤ 4096) : isTagL true (esE es e).length (tagE es e) = true := by
  have hl := esE_len es e
  unfold tagE
  by_cases hm : e ∈ es
  · rw [if_pos hm]
    refine isTag_handle ?_ (Nat.le_trans (numE_le es e) hl) hle
    unfold numE
    rw [if_pos hm]
    omega
  · rw [if_neg hm]
    by_cases h4 : 4096 ≤ es.length
    · rw [if_pos h4]
      exact isTag_raw (by decide) (.inr (by decide +kernel))
    · rw [if_neg h4]
      have : (esE es e).length = es.length + 1 := by unfold esE; rw [if_neg hm, if_neg h4, List.length_append]; rfl
      exact isTag_handle (by omega) (by omega) hle
theorem anE_tag {sym : Bool} {es : List EnL} {e : EnL} {pl : List UInt8} (hle : (neE sym es e).length ≤ 4096) (hp : pl.length = 32) : (anE sym es e pl).length = 32 ∧ isTagL sym (neE sym es e).length (anE sym es e pl) = true := by
  cases sym with
  | true => exact ⟨tagE_len es e, isTag_tagE hle⟩
  | false => exact ⟨hp, isTag_raw hp (.inl rfl)⟩
theorem neE_len (sym : Bool) (es : List EnL) (e : EnL) : es.length ≤ (neE sym es e).length := by
  cases sym with
  | true => exact esE_len es e
  | false => exact Nat.le_refl _
theorem GE.neE {sym : Bool} {es : List EnL} {e : EnL} (h : GE es) (h1 : e.lst = []) (h2 : e.kind ≠ 4) : GE (neE sym es e) := by
  cases sym with
  | true => exact h.bare h1 h2
  | false => exact h
theorem esS_len (sym : Bool) (es : List EnL) (L : List Nat) (M : List UInt8) : es.length ≤ (esS sym es L M).length := by
  unfold esS
  split
  · exact Nat.le_refl _
  · split
    · exact Nat.le_refl _
    · exact esE_len _ _
theorem tu_facts {sym : Bool} {es : List EnL} {x y : List UInt8} (h : GE es) (h1 : isTagL sym es.length x = true) (h2 : isTagL sym es.length y = true) : (tuM sym es x y).length = 32 ∧ (tuL sym es x y).length ≤ 4096 ∧ (∀ n ∈ tuL sym es x y, 1 ≤ n ∧ n ≤ es.length) ∧ (tuL sym es x y).Pairwise (· < ·) := by
  obtain ⟨a1, _, _⟩ := opL_ok h h1
  obtain ⟨b1, _, _⟩ := opL_ok h h2
  refine ⟨?_, Nat.le_trans (pickN_len _ _ _) h.le, fun n hn => ((pickN_mem _ _ _ _).1 hn).1, pickN_lt _ _ _⟩
  unfold tuM
  rw [xorL_length]
  omega
theorem GE.esS {sym : Bool} {es : List EnL} {L : List Nat} {M : List UInt8} (h : GE es) (hM : M.length = 32) (hl : L.length ≤ 4096) (hn : ∀ n ∈ L, 1 ≤ n ∧ n ≤ es.length) (hp : L.Pairwise (· < ·)) : GE (esS sym es L M) := by
  have hle := h.le
  have hn' : ∀ n ∈ L, n ≤ 4096 := fun n hx => by have := (hn n hx).2; omega
  unfold Go.Proofs.YtlnjpmpddomjiaaGreatDoor.esS
  split
  · exact h
  · split
    · exact h
    · refine h.put (turnE_g hl hn') ?_ ?_ (fun _ => hM)
      · rw [turnE_nums hn']; exact hp
      · rw [turnE_nums hn']; exact hn
theorem tgS_tag {sym : Bool} {es : List EnL} {L : List Nat} {M : List UInt8} (hM : M.length = 32) (hn : ∀ n ∈ L, 1 ≤ n ∧ n ≤ es.length) (hs : sym = false → L = []) (hle : (esS sym es L M).length ≤ 4096) : (tgS sym es L M).length = 32 ∧ isTagL sym (esS sym es L M).length (tgS sym es L M) = true := by
  unfold tgS
  unfold esS at hle ⊢
  by_cases hr : rawS sym L M = true
  · rw [if_pos hr, if_pos hr]
    refine ⟨hM, isTag_raw hM ?_⟩
    unfold rawS at hr
    cases sym with
    | false => exact .inl rfl
    | true =>
      right
      simp only [Bool.true_and, Bool.and_eq_true, Bool.not_eq_true'] at hr
      exact hr.2
  · rw [if_neg hr] at hle
    rw [if_neg hr, if_neg hr]
    have hsym : sym = true := by
      cases sym with
      | true => rfl
      | false =>
        exfalso
        apply hr
        unfold rawS
        rw [hs rfl]
        rfl
    subst hsym
    by_cases ho : oneS L M = true
    · rw [if_pos ho] at hle
      rw [if_pos ho, if_pos ho]
      unfold oneS at ho
      simp only [Bool.and_eq_true, decide_eq_true_eq] at ho
      obtain ⟨n, rfl⟩ : ∃ n, L = [n] := by
        match L, ho.1 with
        | [n], _ => exact ⟨n, rfl⟩
      have := hn n (by simp)
      exact ⟨by simp [fro_length, len4], isTag_handle this.1 this.2 hle⟩
    · rw [if_neg ho] at hle
      rw [if_neg ho, if_neg ho]
      exact ⟨tagE_len _ _, isTag_tagE hle⟩
/-- What an arm leaves: both Boxes alike, what they told in memory of their own. -/
def ArmR (Y : World) (base tb b m x : Nat) (rv V : Value) (T : List TmL) (tv : Value) (vals : List Value) (sym : Bool) (es : List EnL) (tags : List (List UInt8)) (s9 s10 : Value) (wx : World) : Prop :=
  ∃ (rv' V' : Value) (T' : List TmL) (f' : Bool) (es' : List EnL) (want : List UInt8), TD wx base tb b m x rv' V' T' tv vals sym f' f' es' es' tags ∧ (∀ t ∈ tags, isTagL sym es'.length t = true) ∧
    OwnB wx Y.heap.size s9 want ∧ OwnB wx Y.heap.size s10 want ∧ (want.length = 0 ∨ want.length = 32 ∧ isTagL sym es'.length want = true) ∧ (∀ k, s9.ownBlock = some k → k ∉ tdB tb b m x rv' V' T' tv vals ∧ s10.ownBlock ≠ some k) ∧ (∀ k, s10.ownBlock = some k → k ∉ tdB tb b m x rv' V' T' tv vals) ∧
    (∀ k ∈ tdB tb b m x rv' V' T' tv vals, k ∈ tdB tb b m x rv V T tv vals ∨ Y.heap.size ≤ k) ∧ Trs (tdB tb b m x rv V T tv vals) Y wx ∧ GY es es'
section
variable {Y W2 W3 : World} {base tb b m x : Nat} {rv V v u : Value} {T : List TmL} {tv : Value} {vals : List Value} {sym f f' : Bool} {es es' : List EnL} {tags : List (List UInt8)} {tag : List UInt8}
theorem arm_fin (h : TD Y base tb b m x rv V T tv vals sym f f es es tags) (hok : ∀ t ∈ tags, isTagL sym es.length t = true) (hR1 : EnR Y base b m rv sym tag f' es' (.returned v) W2) (hg : GE es') (hle : es.length ≤ es'.length) (hy : GY es es') (ht : tag.length = 32 ∧ isTagL sym es'.length tag = true)
    (hR2 : RfR W2 base x V T sym tag f' es' (.returned u) W3) : ArmR Y base tb b m x rv V T tv vals sym es tags v u W3 := by
  obtain ⟨rv', h1, hO1, hn1, ha1, ht1⟩ := h.prog hR1 hg
  obtain ⟨V', T', h2, hO2, hn2, ha2, ht2⟩ := h1.ref hR2 hg
  have hz := ht1.size
  refine ⟨rv', V', T', f', es', tag, h2, fun t hx => isTag_more (hok t hx) hle, hO1.trsV ht2 (fun k e => ha1 k e), hO2.lower hz, .inr ht, fun k e => ⟨fun hk => ?_, fun e2 => ?_⟩, ha2, ?_, ht1.next ht2 hn1, hy⟩
  · rcases hn2 k hk with q | q
    · exact ha1 k e q
    · have := (hO1.lt k e).2; omega
  · have h3 := (hO1.lt k e).2
    have h4 := (hO2.lt k e2).1
    omega
  · intro k hk
    rcases hn2 k hk with q | q
    · exact hn1 k q
    · exact .inr (by omega)
theorem arm_none (h : TD Y base tb b m x rv V T tv vals sym f f es es tags) (hok : ∀ t ∈ tags, isTagL sym es.length t = true) (hb : Below Y.heap.size Y W3) : ArmR Y base tb b m x rv V T tv vals sym es tags (.slice none 0 0) (.slice none 0 0) W3 :=
  ⟨rv, V, T, f, es, [], h.below hb, hok, OwnB.nil _ _, OwnB.nil _ _, .inl rfl, (fun k e => by cases e), (fun k e => by cases e), fun k hk => .inl hk, Trs.of_below hb, GY.refl es⟩
end
end Go.Proofs.YtlnjpmpddomjiaaGreatDoor
