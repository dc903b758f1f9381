/- ring: the law RingHolds. ring: what the row's listed tables give; RingHolds at its arguments. -/
import Derived.Test.YtcjjhaonogfcjaaDoorRqT
import Derived.Test.YtcjjhaonogfcjaaDoorShaTab
import Derived.Test.YtcjjhaonogfcjaaDoorArgs
set_option maxRecDepth 100000
namespace Go.Proofs.YtcjjhaonogfcjaaDoor
open Go.RowKit
attribute [local go_sem] Oper.semAt_some
theorem sl_litF (b : UInt8) (w : World) (f : Nat × Nat) : Sl (w.alloc (.cells #[vb b] 5 f)) (w.heap.size + 1) (.slice (some ⟨w.heap.size, 0, none⟩) 1 1) [b] := by
  refine ⟨_, 1, rfl, (fun h => by cases h), Nat.le_refl _, by omega, fun _ => ⟨_, 0, rfl, by omega, fun j h => ?_⟩⟩
  have hb := heap_alloc_new w (.cells #[vb b] 5 f)
  match j, h with
  | 0, _ => show (match (w.alloc (.cells #[vb b] 5 f)).heap[w.heap.size]? with | some (.cells c _ _) => c[0 + 0]? | _ => none) = _; rw [hb]; rfl
theorem has_one {L : List KyL} {xs : List Nat} (h : L.map KyL.n = xs) (h1 : 1 ∈ xs) : ∃ q ∈ L, q.n = 1 := by
  rw [← h] at h1
  obtain ⟨q, hq, he⟩ := List.mem_map.1 h1
  exact ⟨q, hq, he⟩
theorem MqR.low {w w' : World} {base r b m : Nat} {V MV rv : Value} {room last : Nat} {full : Bool} {L : List KyL} {es : List EnL} {key K1 : List UInt8} {E : EnL} (h : MqR w w' base r b m V MV rv room last full L es key K1 E) (hX : BX w base b m rv true full es) (hq : RQ w base r b V MV room last L key K1) : Below base w w' :=
  hX.low h.ts hq.size
/-- A tag of one's own that a box's calls leave alone. -/
structure SgV (w : World) (base r b : Nat) (v : Value) (l : List UInt8) : Prop where
  own : OwnB w base v l
  nr : v.ownBlock ≠ some r
  nb : v.ownBlock ≠ some b
theorem SgV.new {w w' : World} {base r b : Nat} {v : Value} {l : List UInt8} (h : OwnB w' w.heap.size v l) (hr : r < w.heap.size) (hb : b < w.heap.size) (hB : base ≤ w.heap.size) : SgV w' base r b v l :=
  ⟨h.lower hB, fun e => by have := (h.lt _ e).1; omega, fun e => by have := (h.lt _ e).1; omega⟩
theorem SgV.below {w w' : World} {base r b : Nat} {v : Value} {l : List UInt8} (h : SgV w base r b v l) (hb : Below w.heap.size w w') : SgV w' base r b v l := ⟨h.own.below hb, h.nr, h.nb⟩
theorem SgV.box {w w' : World} {base r b m : Nat} {v rv : Value} {l : List UInt8} {full : Bool} {es : List EnL} (h : SgV w base r b v l) (hX : BX w base b m rv true full es) (ht : Trs (bS b m rv) w w') : SgV w' base r b v l := ⟨h.own.trsV ht (bytes_bS h.own hX h.nb), h.nr, h.nb⟩
theorem SgV.both {w w' : World} {base r b m room last : Nat} {v rv V MV : Value} {l : List UInt8} {full : Bool} {es : List EnL} {L : List KyL} {key K1 : List UInt8} (h : SgV w base r b v l) (hX : BX w base b m rv true full es) (hq : RQ w base r b V MV room last L key K1) (ht : Trs (rgS r V ++ bS b m rv) w w') : SgV w' base r b v l :=
  ⟨h.own.trsV ht (fun k hk hm => by
    rcases List.mem_append.1 hm with hm | hm
    · exact bytes_rgS h.own hq h.nr k hk hm
    · exact bytes_bS h.own hX h.nb k hk hm), h.nr, h.nb⟩
set_option maxHeartbeats 8000000 in
theorem ringHolds_law (X Rn : Nat) (hX : X < 256) (hRn : Rn < 256) (rt : Bool) (B : Nat) (tv : Value) (tx0 : List UInt8) (w : World) (htv : Sl w B tv tx0) (hB : B ≤ w.heap.size) (hT : TabA w) (hP : PowE w) :
    Calls Tryd.prog 3 #[.int .u8 (X : Int), tv, .int .u8 (Rn : Int), .bool rt] w fun e w' => e = .returned (.bool true) ∧ Below w.heap.size w w' := by
  have HAW := Lib.hid (awake17 w hT hP)
  have HP := Lib.hid hP
  have HTV := Lib.hid htv
  have HBB := Lib.hid hB
  obtain ⟨TA, tc, rfl, -⟩ := htv
  obtain ⟨K, hK⟩ : ∃ K, K = 1 + X % 8 := ⟨_, rfl⟩
  have hKc : (1 : Int) + (X : Int) % 8 = (K : Int) := by rw [hK]; omega
  have HKR := Lib.hid (show 1 ≤ K ∧ K ≤ 8 from by omega)
  obtain ⟨R, hR⟩ : ∃ R, R = Rn % 12 := ⟨_, rfl⟩
  have hRc : (Rn : Int) % 12 = (R : Int) := by rw [hR]; omega
  have HRR := Lib.hid (show R < 12 from by omega)
  clear hK hR hT hP hB
  go_enter Tryd.func3, Tryd.ntmps3
  go_wp2_with fail
  refine HAW.out.mono ?_
  rintro e w1 ⟨rfl, hb1⟩
  have HB1 := Lib.hid hb1
  have HCUT := Lib.hid (cut_any w1.heap.size (.slice TA tx0.length tc) tx0 40 w1 ((HTV.out.below hb1 HBB.out).more (by have := HBB.out; have := hb1.size; omega)) (Nat.le_refl _) (by omega) (by omega))
  clear hb1 HAW HTV
  go_wp2_with fail
  refine HCUT.out.mono ?_
  rintro e w2 ⟨tv2, rfl, hO2, hb2⟩
  obtain ⟨tx, htx⟩ : ∃ tx, tx = tx0.take (40 : Int).toNat := ⟨_, rfl⟩
  rw [← htx] at hO2
  have HTL := Lib.hid (show tx.length ≤ 40 from by rw [htx, List.length_take]; exact Nat.min_le_left _ _)
  have HTX := Lib.hid hO2
  have HB2 := Lib.hid (HB1.out.trans (hb2.mono HB1.out.size))
  have HP2 := Lib.hid (HP.out.below HB2.out)
  obtain ⟨T2, c2, rfl, -⟩ := hO2.sl
  clear hO2 hb2 HCUT htx HP HBB
  go_wp2_with fail
  refine (new_box true w2).mono ?_
  rintro e w3 ⟨b, m, rfl, hX3, hb3⟩
  have HX3 := Lib.hid hX3
  have HB3 := Lib.hid hb3
  clear hX3 hb3
  have hcv := Lib.run_convert_bytes_const (P := Tryd.prog) w3 22 5 #[.int .u8 111, .int .u8 110, .int .u8 101] 3 3 Tryd.underlying22 Tryd.underlying5
  go_wp2_with fail
  clear hcv
  obtain ⟨W4, hW4⟩ : ∃ W4, W4 = w3.alloc (.cells #[.int .u8 111, .int .u8 110, .int .u8 101] 5 (3, 4)) := ⟨_, rfl⟩
  have hb4 : Below w3.heap.size w3 W4 := by rw [hW4]; exact (Below.refl _ _).alloc (Nat.le_refl _) _
  have hsl4 : Sl W4 (w3.heap.size + 1) (.slice (some ⟨w3.heap.size, 0, none⟩) 3 3) [111, 110, 101] := by rw [hW4]; exact sl_lit3 111 110 101 w3 _
  have hz4 : w3.heap.size + 1 ≤ W4.heap.size := by rw [hW4]; simp
  rw [← hW4]
  clear hW4
  have HL4 := Lib.hid (HB3.out.trans (hb4.mono HB3.out.size))
  have HX4 := Lib.hid (HX3.out.below hb4)
  refine (newRing_q W4 w2.heap.size b m K (w3.heap.size + 1) 3 3 ⟨w3.heap.size, 0, none⟩ _ _ _ [111, 110, 101] HX4.out hsl4 hz4 rfl (by simp) (by simp) HKR.out.1 HKR.out.2 (HP2.out.below HL4.out) HP2.out.low).mono ?_
  rintro e w5 ⟨r, V, MV, L, rv5, rfl, hq5, hx5, hm5, ht5⟩
  rw [show macE [111, 110, 101] (keyT 1) = q1 from rfl, eg1.1] at hq5
  rw [show macE [111, 110, 101] (keyT 1) = q1 from rfl, eg1.2] at hx5
  generalize fullE false [] q1 = f5 at hx5
  have HL5 := Lib.hid (HL4.out.trans (HX4.out.low ht5 HL4.out.size))
  have HQ5 := Lib.hid hq5
  have HX5 := Lib.hid hx5
  have HM5 := Lib.hid hm5
  clear hq5 hx5 hm5 ht5 hb4 hsl4 hz4 HX3 HX4 HB3
  have hcv := Lib.run_convert_bytes_const (P := Tryd.prog) w5 22 5 #[.int .u8 116, .int .u8 119, .int .u8 111] 3 3 Tryd.underlying22 Tryd.underlying5
  go_wp2_with fail
  clear hcv
  obtain ⟨W6, hW6⟩ : ∃ W6, W6 = w5.alloc (.cells #[.int .u8 116, .int .u8 119, .int .u8 111] 5 (3, 4)) := ⟨_, rfl⟩
  have hb6 : Below w5.heap.size w5 W6 := by rw [hW6]; exact (Below.refl _ _).alloc (Nat.le_refl _) _
  have hsl6 : Sl W6 (w5.heap.size + 1) (.slice (some ⟨w5.heap.size, 0, none⟩) 3 3) [116, 119, 111] := by rw [hW6]; exact sl_lit3 116 119 111 w5 _
  have hz6 : w5.heap.size + 1 ≤ W6.heap.size := by rw [hW6]; simp
  rw [← hW6]
  clear hW6
  have HL6 := Lib.hid (HL5.out.trans (hb6.mono HL5.out.size))
  have HX6 := Lib.hid (HX5.out.below hb6)
  have HQ6 := Lib.hid (HQ5.out.below hb6)
  refine (newRing_q W6 w2.heap.size b m K (w5.heap.size + 1) 3 3 ⟨w5.heap.size, 0, none⟩ _ _ _ [116, 119, 111] HX6.out hsl6 hz6 rfl (by simp) (by simp) HKR.out.1 HKR.out.2 (HP2.out.below HL6.out) HP2.out.low).mono ?_
  rintro e w7 ⟨ro, Vo, MVo, Lo, rv7, rfl, hqo, hx7, hmo, ht7⟩
  rw [show macE [116, 119, 111] (keyT 1) = q2 from rfl, eg2.1] at hqo
  rw [show macE [116, 119, 111] (keyT 1) = q2 from rfl, eg2.2] at hx7
  generalize fullE f5 [q1] q2 = f7 at hx7
  have HL7 := Lib.hid (HL6.out.trans (HX6.out.low ht7 HL6.out.size))
  have HQ7 := Lib.hid (HQ6.out.box HX6.out ht7)
  have HO7 := Lib.hid hqo
  have HX7 := Lib.hid hx7
  have HMO := Lib.hid hmo
  clear hqo hx7 hmo ht7 hb6 hsl6 hz6 HX5 HX6 HQ5 HQ6
  go_wp2_with fail
  obtain ⟨W8, hW8⟩ : ∃ W8, W8 = w7.alloc (.cells #[.slice T2 tx.length c2] 22) := ⟨_, rfl⟩
  have hb8 : Below w7.heap.size w7 W8 := by rw [hW8]; exact (Below.refl _ _).alloc (Nat.le_refl _) _
  have hsl8 : Sls W8 W8.heap.size (.slice (some ⟨w7.heap.size, 0, none⟩) 1 1) [tx] := by rw [hW8, World.size_alloc]; exact Sls.one w7 tx (.slice T2 tx.length c2) _ (HTX.out.below HL7.out).sl
  rw [← hW8]
  clear hW8
  have HL8 := Lib.hid (HL7.out.trans (hb8.mono HL7.out.size))
  have HX8 := Lib.hid (HX7.out.below hb8)
  have HQ8 := Lib.hid (HQ7.out.below hb8)
  have HO8 := Lib.hid (HO7.out.below hb8)
  refine (sign_q HQ8.out HX8.out (has_one HM5.out (by simp)) (by rw [tgN_len]; omega) hsl8 (by simp) (by simp [Lib.lens]; have := HTL.out; omega) (Nat.le_refl _)).mono ?_
  rintro e w9 ⟨sv, rfl, hs9, M9⟩
  simp only [List.flatten_cons, List.flatten_nil, List.append_nil] at hs9 M9
  rw [show macE (tgN 1) tx = q3 tx from rfl] at hs9 M9
  rw [(eg3 tx).1] at hs9
  obtain ⟨rv9, hx9⟩ := M9.bx
  rw [(eg3 tx).2] at hx9
  generalize fullE f7 [q1, q2] (q3 tx) = f9 at hx9
  have HL9 := Lib.hid (HL8.out.trans (M9.low HX8.out HQ8.out))
  have HQ9 := Lib.hid M9.rq
  have HO9 := Lib.hid (HO8.out.box HX8.out M9.ts)
  have HX9 := Lib.hid hx9
  have HS9 := Lib.hid (show SgV w9 w2.heap.size r b sv (tgN 3) from SgV.new hs9 HQ8.out.blk.lt HX8.out.blk.lt HQ8.out.size)
  obtain ⟨A9, c9, rfl, -⟩ := hs9.sl
  rw [tgN_len] at HS9
  rw [tgN_len]
  clear hs9 M9 hx9 hb8 hsl8 HX7 HX8 HQ7 HQ8 HO7 HO8
  go_wp2_with fail
  obtain ⟨WA, hWA⟩ : ∃ WA, WA = w9.alloc (.cells #[.slice T2 tx.length c2] 22) := ⟨_, rfl⟩
  have hb10 : Below w9.heap.size w9 WA := by rw [hWA]; exact (Below.refl _ _).alloc (Nat.le_refl _) _
  have hsl10 : Sls WA WA.heap.size (.slice (some ⟨w9.heap.size, 0, none⟩) 1 1) [tx] := by rw [hWA, World.size_alloc]; exact Sls.one w9 tx (.slice T2 tx.length c2) _ (HTX.out.below HL9.out).sl
  rw [← hWA]
  clear hWA
  have HL10 := Lib.hid (HL9.out.trans (hb10.mono HL9.out.size))
  have HX10 := Lib.hid (HX9.out.below hb10)
  have HQ10 := Lib.hid (HQ9.out.below hb10)
  have HO10 := Lib.hid (HO9.out.below hb10)
  have HS10 := Lib.hid (HS9.out.below hb10)
  refine (sign_q HO10.out HX10.out (has_one HMO.out (by simp)) (by rw [tgN_len]; omega) hsl10 (by simp) (by simp [Lib.lens]; have := HTL.out; omega) (Nat.le_refl _)).mono ?_
  rintro e w11 ⟨ov, rfl, hs11, M11⟩
  simp only [List.flatten_cons, List.flatten_nil, List.append_nil] at hs11 M11
  rw [show macE (tgN 2) tx = q4 tx from rfl] at hs11 M11
  rw [(eg4 tx).1] at hs11
  obtain ⟨rv11, hx11⟩ := M11.bx
  rw [(eg4 tx).2] at hx11
  generalize fullE f9 [q1, q2, q3 tx] (q4 tx) = f11 at hx11
  have HL11 := Lib.hid (HL10.out.trans (M11.low HX10.out HO10.out))
  have HQ11 := Lib.hid (HQ10.out.box HX10.out M11.ts)
  have HX11 := Lib.hid hx11
  have HS11 := Lib.hid (HS10.out.box HX10.out M11.ts)
  have HT11 := Lib.hid (show SgV w11 w2.heap.size r b ov (tgN 4) from SgV.new hs11 HQ10.out.blk.lt HX10.out.blk.lt HQ10.out.size)
  obtain ⟨A11, c11, rfl, -⟩ := hs11.sl
  rw [tgN_len] at HT11
  rw [tgN_len]
  clear hs11 M11 hx11 hb10 hsl10 HX9 HX10 HQ9 HQ10 HO9 HO10 HS9 HS10
  go_wp2_with fail
  obtain ⟨W12, hW12⟩ : ∃ W12, W12 = w11.alloc (.cells #[.slice T2 tx.length c2] 22) := ⟨_, rfl⟩
  have hb12 : Below w11.heap.size w11 W12 := by rw [hW12]; exact (Below.refl _ _).alloc (Nat.le_refl _) _
  have hsl12 : Sls W12 W12.heap.size (.slice (some ⟨w11.heap.size, 0, none⟩) 1 1) [tx] := by rw [hW12, World.size_alloc]; exact Sls.one w11 tx (.slice T2 tx.length c2) _ (HTX.out.below HL11.out).sl
  rw [← hW12]
  clear hW12
  have HL12 := Lib.hid (HL11.out.trans (hb12.mono HL11.out.size))
  have HX12 := Lib.hid (HX11.out.below hb12)
  have HQ12 := Lib.hid (HQ11.out.below hb12)
  have HS12 := Lib.hid (HS11.out.below hb12)
  have HT12 := Lib.hid (HT11.out.below hb12)
  refine (verify_q HQ12.out HX12.out (has_one HM5.out (by simp)) (by rw [tgN_len]; omega) hsl12 (by simp) (by simp [Lib.lens]; have := HTL.out; omega) (Nat.le_refl _) HS12.out.own HS12.out.nb (by rw [tagE_len]; omega)).mono ?_
  rintro e w13 ⟨he, M13⟩
  simp only [List.flatten_cons, List.flatten_nil, List.append_nil] at he M13
  rw [show macE (tgN 1) tx = q3 tx from rfl] at he M13
  rw [(eg34 tx).1, beq_self_eq_true, if_pos rfl] at he
  subst he
  obtain ⟨rv13, hx13⟩ := M13.bx
  rw [(eg34 tx).2.2] at hx13
  generalize fullE f11 [q1, q2, q3 tx, q4 tx] (q3 tx) = f13 at hx13
  have HL13 := Lib.hid (HL12.out.trans (M13.low HX12.out HQ12.out))
  have HQ13 := Lib.hid M13.rq
  have HX13 := Lib.hid hx13
  have HS13 := Lib.hid (HS12.out.box HX12.out M13.ts)
  have HT13 := Lib.hid (HT12.out.box HX12.out M13.ts)
  clear M13 hx13 hb12 hsl12
  go_wp2_with fail
  obtain ⟨W14, hW14⟩ : ∃ W14, W14 = w13.alloc (.cells #[.slice T2 tx.length c2] 22) := ⟨_, rfl⟩
  have hb14 : Below w13.heap.size w13 W14 := by rw [hW14]; exact (Below.refl _ _).alloc (Nat.le_refl _) _
  have hsl14 : Sls W14 W14.heap.size (.slice (some ⟨w13.heap.size, 0, none⟩) 1 1) [tx] := by rw [hW14, World.size_alloc]; exact Sls.one w13 tx (.slice T2 tx.length c2) _ (HTX.out.below HL13.out).sl
  rw [← hW14]
  clear hW14
  have HL14 := Lib.hid (HL13.out.trans (hb14.mono HL13.out.size))
  have HX14 := Lib.hid (HX13.out.below hb14)
  have HQ14 := Lib.hid (HQ13.out.below hb14)
  have HS14 := Lib.hid (HS13.out.below hb14)
  have HT14 := Lib.hid (HT13.out.below hb14)
  refine (verify_q HQ14.out HX14.out (has_one HM5.out (by simp)) (by rw [tgN_len]; omega) hsl14 (by simp) (by simp [Lib.lens]; have := HTL.out; omega) (Nat.le_refl _) HT14.out.own HT14.out.nb (by rw [tagE_len]; omega)).mono ?_
  rintro e w15 ⟨he, M15⟩
  simp only [List.flatten_cons, List.flatten_nil, List.append_nil] at he M15
  rw [show macE (tgN 1) tx = q3 tx from rfl] at he M15
  rw [(eg34 tx).1, tg_ne (a := 3) (b := 4) (by omega) (by omega) (by omega), if_neg (by simp)] at he
  subst he
  obtain ⟨rv15, hx15⟩ := M15.bx
  rw [(eg34 tx).2.2] at hx15
  generalize fullE f13 [q1, q2, q3 tx, q4 tx] (q3 tx) = f15 at hx15
  have HL15 := Lib.hid (HL14.out.trans (M15.low HX14.out HQ14.out))
  have HQ15 := Lib.hid M15.rq
  have HX15 := Lib.hid hx15
  have HS15 := Lib.hid (HS14.out.box HX14.out M15.ts)
  clear M15 hx15 hb14 hsl14
  go_wp2_with fail
  obtain ⟨W16, hW16⟩ : ∃ W16, W16 = (w15.alloc (.cells #[.int .u8 0] 5)).alloc (.cells #[.slice T2 tx.length c2, .slice (some ⟨w15.heap.size, 0, none⟩) 1 1] 22) := ⟨_, rfl⟩
  have hb16 : Below w15.heap.size w15 W16 := by rw [hW16]; exact ((Below.refl _ _).alloc (Nat.le_refl _) _).alloc (by simp) _
  have hsl16 : Sls W16 W16.heap.size (.slice (some ⟨w15.heap.size + 1, 0, none⟩) 2 2) [tx, [0]] := by
    have hb : Below w15.heap.size w15 (w15.alloc (.cells #[.int .u8 0] 5)) := (Below.refl _ _).alloc (Nat.le_refl _) _
    have h1 := (HTX.out.below (HL15.out.trans (hb.mono HL15.out.size))).sl
    have h2 : Sl (w15.alloc (.cells #[.int .u8 0] 5)) (w15.alloc (.cells #[.int .u8 0] 5)).heap.size (.slice (some ⟨w15.heap.size, 0, none⟩) 1 1) [0] := by rw [World.size_alloc]; exact sl_litF 0 w15 _
    have h3 := Sls.two _ tx [0] _ _ 22 h1 h2
    simp only [World.size_alloc] at h3
    rw [hW16]
    simp only [World.size_alloc]
    exact h3
  rw [← hW16]
  clear hW16
  have HL16 := Lib.hid (HL15.out.trans (hb16.mono HL15.out.size))
  have HX16 := Lib.hid (HX15.out.below hb16)
  have HQ16 := Lib.hid (HQ15.out.below hb16)
  have HS16 := Lib.hid (HS15.out.below hb16)
  refine (verify_q HQ16.out HX16.out (has_one HM5.out (by simp)) (by rw [tgN_len]; omega) hsl16 (by simp) (by simp [Lib.lens]; have := HTL.out; omega) (Nat.le_refl _) HS16.out.own HS16.out.nb (by rw [tagE_len]; omega)).mono ?_
  rintro e w17 ⟨he, M17⟩
  simp only [List.flatten_cons, List.flatten_nil, List.append_nil] at he M17
  rw [show macE (tgN 1) (tx ++ [0]) = q5 tx from rfl] at he M17
  rw [(eg5 tx).1, tg_ne (a := 5) (b := 3) (by omega) (by omega) (by omega), if_neg (by simp)] at he
  subst he
  obtain ⟨rv17, hx17⟩ := M17.bx
  rw [(eg5 tx).2] at hx17
  generalize fullE f15 [q1, q2, q3 tx, q4 tx] (q5 tx) = f17 at hx17
  have HL17 := Lib.hid (HL16.out.trans (M17.low HX16.out HQ16.out))
  have HQ17 := Lib.hid M17.rq
  have HX17 := Lib.hid hx17
  have HS17 := Lib.hid (HS16.out.box HX16.out M17.ts)
  clear M17 hx17 hb16 hsl16
  go_wp2_with fail
  go_loopw [108] (fun i wr => ∃ (j : Nat) (V : Value) (L : List KyL) (rv : Value) (f : Bool) (es : List EnL), j ≤ R ∧ i = .int .i64 (j : Int) ∧ RQ wr w2.heap.size r b V MV K (1 + j) L [111, 110, 101] (tgN 1) ∧ BX wr w2.heap.size b m rv true f es ∧ L.map KyL.n = epsN K j ∧ (tagE es (q3 tx) = tgN 3 ∧ q3 tx ∈ es) ∧ SgV wr w2.heap.size r b (.slice A9 32 c9) (tgN 3) ∧ Below w2.heap.size w2 wr)
    (fun i _ => R - (intOf i).toNat)
  case atStart => exact ⟨0, V, L, _, _, _, by omega, rfl, HQ17.out, HX17.out, by rw [HM5.out]; unfold epsN; have := HKR.out; rw [show 0 + 1 - K = 0 by omega, show min K (0 + 1) = 1 by omega]; rfl, eg35 tx, HS17.out, HL17.out⟩
  case round =>
    obtain ⟨j, VJ, LJ, rvJ, fJ, esJ, hj, rfl, hq, hx, hm, hes, hs, hl⟩ := hrel
    have HQ := Lib.hid hq
    have HX := Lib.hid hx
    have HM := Lib.hid hm
    have HE := Lib.hid hes
    have HS := Lib.hid hs
    have HL := Lib.hid hl
    have hll : LJ.length ≤ 8 := by have h1 := congrArg List.length hm; unfold epsN at h1; rw [List.length_map, List.length_range'] at h1; have := HKR.out; omega
    clear hq hx hm hes hs hl HQ17 HX17 HS17 HL17 hRc hKc
    by_cases hlt : j < R
    · have hjb : j < 12 := by have := HRR.out; omega
      go_wp2_with fail
      refine (rotate_q HQ.out HX.out (by omega) (by have := HRR.out; omega) (fun e => by omega)).mono ?_
      rintro e w20 ⟨rfl, V20, L20, rv20, hq20, hx20, hm20, ht20⟩
      have HQ20 := Lib.hid (show RQ w20 w2.heap.size r b V20 MV K (1 + (j + 1)) L20 [111, 110, 101] (tgN 1) from by rw [show 1 + (j + 1) = 1 + j + 1 by omega]; exact hq20)
      have HX20 := Lib.hid hx20
      have HM20 := Lib.hid (show L20.map KyL.n = epsN K (j + 1) from by rw [hm20, HM.out, show 1 + j + 1 = j + 1 + 1 by omega, epsN_next])
      have HE20 := Lib.hid (show tagE (esE esJ (macE [111, 110, 101] (keyT (1 + j + 1)))) (q3 tx) = tgN 3 ∧ q3 tx ∈ esE esJ (macE [111, 110, 101] (keyT (1 + j + 1))) from by
        have h := tag_keep (e := macE [111, 110, 101] (keyT (1 + j + 1))) HE.out.2
        exact ⟨h.1.trans HE.out.1, h.2⟩)
      have HS20 := Lib.hid (HS.out.both HX.out HQ.out ht20)
      have HL20 := Lib.hid (show Below w2.heap.size w2 w20 from HL.out.trans (ht20.toBelow HQ.out.size (fun k hk => by
        rcases List.mem_append.1 hk with hk | hk
        · exact (HQ.out.inS k hk).1
        · exact (HX.out.ge k hk).1)))
      clear hq20 hx20 hm20 ht20 HQ HX HM HE HS HL
      go_wp2_with fail
      go_roundw
      case rel => exact ⟨j + 1, V20, L20, rv20, _, _, by omega, by go_num, HQ20.out, HX20.out, HM20.out, HE20.out, HS20.out, HL20.out⟩
      case measure => simp [intOf]; omega
    · obtain rfl : j = R := by omega
      by_cases hKR : K ≤ j
      · have d1 : decide ((K : Int) ≤ (j : Int)) = true := decide_eq_true (by omega)
        have d2 : (K : Int) ≤ (j : Int) := by omega
        have HNO := Lib.hid (show ∀ k ∈ LJ, k.n ≠ 1 from fun k hk e => by
          have h1 : 1 ∈ epsN K j := by rw [← HM.out, ← e]; exact List.mem_map_of_mem hk
          rw [epsN_one K j HKR.out.1] at h1
          omega)
        clear hKR
        go_wp2_with fail
        obtain ⟨W30, hW30⟩ : ∃ W30, W30 = wr.alloc (.cells #[.slice T2 tx.length c2] 22) := ⟨_, rfl⟩
        have hb30 : Below wr.heap.size wr W30 := by rw [hW30]; exact (Below.refl _ _).alloc (Nat.le_refl _) _
        have hsl30 : Sls W30 W30.heap.size (.slice (some ⟨wr.heap.size, 0, none⟩) 1 1) [tx] := by rw [hW30, World.size_alloc]; exact Sls.one wr tx (.slice T2 tx.length c2) _ (HTX.out.below HL.out).sl
        rw [← hW30]
        clear hW30
        have HL30 := Lib.hid (HL.out.trans (hb30.mono HL.out.size))
        have HQ30 := Lib.hid (HQ.out.below hb30)
        refine (verify_none HQ30.out 1 HNO.out A9 32 c9 _).mono ?_
        rintro e w31 ⟨rfl, hb31⟩
        have HL31 := Lib.hid (HB2.out.trans ((HL30.out.trans (hb31.mono HL30.out.size)).mono HB2.out.size))
        clear hb31 hb30 hsl30 HQ30
        cases rt
        all_goals
          go_wp2_with fail
          go_ret
          exact ⟨rfl, HL31.out⟩
      · have d1 : decide ((K : Int) ≤ (j : Int)) = false := decide_eq_false (by omega)
        have d2 : ¬ (K : Int) ≤ (j : Int) := by omega
        have HJK := Lib.hid (show j < K from by omega)
        clear hKR
        go_wp2_with fail
        obtain ⟨W30, hW30⟩ : ∃ W30, W30 = wr.alloc (.cells #[.slice T2 tx.length c2] 22) := ⟨_, rfl⟩
        have hb30 : Below wr.heap.size wr W30 := by rw [hW30]; exact (Below.refl _ _).alloc (Nat.le_refl _) _
        have hsl30 : Sls W30 W30.heap.size (.slice (some ⟨wr.heap.size, 0, none⟩) 1 1) [tx] := by rw [hW30, World.size_alloc]; exact Sls.one wr tx (.slice T2 tx.length c2) _ (HTX.out.below HL.out).sl
        rw [← hW30]
        clear hW30
        have HL30 := Lib.hid (HL.out.trans (hb30.mono HL.out.size))
        have HQ30 := Lib.hid (HQ.out.below hb30)
        have HX30 := Lib.hid (HX.out.below hb30)
        have HS30 := Lib.hid (HS.out.below hb30)
        have HON := Lib.hid (has_one HM.out ((epsN_one K j HKR.out.1).2 HJK.out))
        refine (verify_q HQ30.out HX30.out HON.out (by rw [tgN_len]; omega) hsl30 (by simp) (by simp [Lib.lens]; have := HTL.out; omega) (Nat.le_refl _) HS30.out.own HS30.out.nb (by rw [tagE_len]; omega)).mono ?_
        rintro e w31 ⟨he, M31⟩
        simp only [List.flatten_cons, List.flatten_nil, List.append_nil] at he M31
        rw [show macE (tgN 1) tx = q3 tx from rfl] at he M31
        rw [HE.out.1, beq_self_eq_true, if_pos rfl] at he
        subst he
        have HL31 := Lib.hid (HL30.out.trans (M31.low HX30.out HQ30.out))
        have HQ31 := Lib.hid M31.rq
        clear M31 hb30 hsl30
        cases rt with
        | false =>
          go_wp2_with fail
          go_ret
          exact ⟨rfl, HB2.out.trans (HL31.out.mono HB2.out.size)⟩
        | true =>
          go_wp2_with fail
          refine (retire_q HQ31.out 1 HON.out).mono ?_
          rintro e w32 ⟨rfl, V32, L32, k, hq32, ⟨hk, hk1⟩, hL32, ht32⟩
          have HNO := Lib.hid (show ∀ q ∈ L32, q.n ≠ 1 from by
            have hmm := HM.out
            have hJK := HJK.out
            unfold epsN at hmm
            rw [show 1 + (j + 1 - K) = 1 by omega, show min K (j + 1) = j + 1 by omega] at hmm
            have hat : ∀ i (h : i < LJ.length), LJ[i].n = 1 + i := fun i h => by
              have h1 : (LJ.map KyL.n)[i]'(by rw [List.length_map]; exact h) = LJ[i].n := List.getElem_map ..
              simp only [hmm, List.getElem_range', Nat.one_mul] at h1
              exact h1.symm
            have hk0 : k = 0 := by have := hat k hk; omega
            intro q hq
            rw [hL32, hk0, List.take_zero, List.nil_append] at hq
            obtain ⟨i, hi, rfl⟩ := List.getElem_of_mem hq
            rw [List.getElem_drop, hat]
            omega)
          have HQ32 := Lib.hid hq32
          have HL32 := Lib.hid (show Below w2.heap.size w2 w32 from HL31.out.trans (ht32.toBelow HQ31.out.size (fun k hk => (HQ31.out.inS k hk).1)))
          clear hq32 hk hk1 hL32 ht32
          go_wp2_with fail
          obtain ⟨W33, hW33⟩ : ∃ W33, W33 = w32.alloc (.cells #[.slice T2 tx.length c2] 22) := ⟨_, rfl⟩
          have hb33 : Below w32.heap.size w32 W33 := by rw [hW33]; exact (Below.refl _ _).alloc (Nat.le_refl _) _
          have hsl33 : Sls W33 W33.heap.size (.slice (some ⟨w32.heap.size, 0, none⟩) 1 1) [tx] := by rw [hW33, World.size_alloc]; exact Sls.one w32 tx (.slice T2 tx.length c2) _ (HTX.out.below HL32.out).sl
          rw [← hW33]
          clear hW33
          have HL33 := Lib.hid (HL32.out.trans (hb33.mono HL32.out.size))
          have HQ33 := Lib.hid (HQ32.out.below hb33)
          refine (verify_none HQ33.out 1 HNO.out A9 32 c9 _).mono ?_
          rintro e w34 ⟨rfl, hb34⟩
          have HQ34 := Lib.hid (HQ33.out.below hb34)
          have HL34 := Lib.hid (HL33.out.trans (hb34.mono HL33.out.size))
          clear hb33 hsl33 hb34
          go_wp2_with fail
          refine (retireq_none HQ34.out 1 HNO.out).mono ?_
          rintro e w35 ⟨rfl, hb35⟩
          have HL35 := Lib.hid (HB2.out.trans ((HL34.out.trans (hb35.mono HL34.out.size)).mono HB2.out.size))
          clear hb35
          go_wp2_with fail
          go_ret
          exact ⟨rfl, HL35.out⟩
end Go.Proofs.YtcjjhaonogfcjaaDoor
set_option maxRecDepth 100000
namespace Go.Proofs.YtcjjhaonogfcjaaDoor
open Go Go.RowKit
theorem powV_rows {H : Type} : (Rows.laid_internal_strconv_uint64pow10 : DataW H) = Lib.tabData .u64 Lib.pow10Tab := rfl
theorem powE_of_laid {laid : List (String × DataW Unit)} {W : World} (h : laidMetH Tryd.prog laid W) (hp : (laid.all fun x => x.2.handleName?.isNone) = true) (hm : ("internal/strconv.uint64pow10", Rows.laid_internal_strconv_uint64pow10) ∈ laid) : PowE W := by
  rw [MakeChecks.laidMetH_plain _ _ _ hp] at h
  have hr := Lib.laidMet.reads h hm
  rw [powV_rows] at hr
  have hpw := tab_of_reads (g := 0) (t := 85) (e := 31) (n := 20) (by kernel_rfl) (by kernel_rfl) Tryd.underlying85 Tryd.underlying31 (by kernel_rfl) (by kernel_rfl) hr
  exact ⟨hpw, World.block_lt_of_cell? W ⟨0, 0, none⟩ (hpw.cell (by kernel_rfl) 0 (by decide))⟩
theorem ringHolds_w (B : Nat) (n0 : Int) (v1 : Value) (l1 : List UInt8) (n2 : Int) (n3 : Bool) (w : World) (h0 : (Lit.int .u8 n0).wf = true) (h1 : Sl w B v1 l1) (h2 : (Lit.int .u8 n2).wf = true) (hB : B ≤ w.heap.size) (hT : TabA w) (hP : PowE w) :
    Calls Tryd.prog 3 #[.int .u8 n0, v1, .int .u8 n2, .bool n3] w fun e w' => e = .returned (.bool true) ∧ Below w.heap.size w w' := by
  simp [Lit.wf, IntKind.min, IntKind.max, IntKind.bits, IntKind.signed] at h0 h2
  obtain ⟨X, rfl⟩ : ∃ X : Nat, n0 = X := ⟨n0.toNat, by omega⟩
  obtain ⟨Y, rfl⟩ : ∃ Y : Nat, n2 = Y := ⟨n2.toNat, by omega⟩
  exact ringHolds_law X Y (by omega) (by omega) n3 B v1 l1 w h1 hB hT hP
end Go.Proofs.YtcjjhaonogfcjaaDoor
