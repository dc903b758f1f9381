/- The reference's turned and Sum. Xor, the program's and the reference's. -/
import Derived.Test.YtlnjpmpddomjiaaGreatDoorGmHmA
import Derived.Test.YtlnjpmpddomjiaaGreatDoorGmRefGo
import Derived.Test.YtlnjpmpddomjiaaGreatDoorGmCutE
import Derived.Deep.QuietTactic
import Derived.BigQuiet
namespace Go.Proofs.YtlnjpmpddomjiaaGreatDoor
open Go.RowKit
/-- Block b is a row of elements of type t, none barred. -/
def Ty (w : World) (b : Nat) (t : TypeId) : Prop := ∃ cs, w.heap[b]? = some (.cells cs t (0, 0))
theorem Ty.new (w : World) (cs : Array Value) (t : TypeId) : Ty (w.alloc (.cells cs t)) w.heap.size t := ⟨cs, heap_alloc_new w _⟩
theorem Ty.set {w : World} {b : Nat} {t : TypeId} (h : Ty w b t) (b' o : Nat) (v : Value) : Ty (w.setCell ⟨b', o, none⟩ v) b t := by
  obtain ⟨cs, h⟩ := h
  by_cases he : b' = b
  · subst he
    refine ⟨cs.setIfInBounds o v, ?_⟩
    simp only [World.setCell]
    rw [Array.getElem?_modify, if_pos rfl, h]
    simp
  · exact ⟨cs, (Below.heap_setCell w ⟨b', o, none⟩ v b (Ne.symm he)).trans h⟩
theorem Ty.setCells {b b' : Nat} {t : TypeId} (vs : List Value) : ∀ {w : World} (_ : Ty w b t) (o : Nat), Ty (w.setCells b' o vs) b t := by
  induction vs with
  | nil => intro w h o; exact h
  | cons v vs ih => intro w h o; exact ih (h.set b' o v) (o + 1)
theorem Ty.below {w w' : World} {b B : Nat} {t : TypeId} (h : Ty w b t) (hb : Below B w w') (hB : b < B) : Ty w' b t := by
  obtain ⟨cs, h⟩ := h; exact ⟨cs, (hb.block b hB).trans h⟩
theorem Ty.blk {w : World} {b : Nat} {t : TypeId} {cs : List Value} (h : Ty w b t) (hk : Blk w b cs) : w.heap[b]? = some (.cells cs.toArray t (0, 0)) := by
  obtain ⟨cs', h⟩ := h
  obtain ⟨t', hk⟩ := hk
  rw [h] at hk
  injection hk with e
  injection e with e1 e2 e3
  rw [h, e1]
theorem OwnB.of_blk {w : World} {base b cap : Nat} {l : List UInt8} (ht : Ty w b 5) (hk : Blk w b (l.map vb)) (hb : base ≤ b) (hc : l.length = cap) (hm : cap ≤ 1000000) : OwnB w base (.slice (some ⟨b, 0, none⟩) cap cap) l :=
  OwnB.of_heap hb (ht.blk hk) (by simp [hc]) (by unfold maxLen; omega) hc (by rw [← hc]; exact List.take_of_length_le (by simp)) (Nat.le_refl _)
set_option maxRecDepth 100000 in
set_option maxHeartbeats 2000000 in
theorem turned_any (x : UInt8) (B : Nat) (v : Value) (key : List UInt8) (w : World) (hT : TabB w) (hG : 2 < w.heap.size) (hs : Sl w B v key) (hB : B ≤ w.heap.size) (hl : key.length ≤ 100000) :
    Calls Tryz.prog 74 #[v, vb x] w fun e w' => ∃ v', e = .returned v' ∧ OwnB w' w.heap.size v' (maskL x (padK key)) ∧ Below w.heap.size w w' := by
  have HT := Lib.hid hT; clear hT
  have HS := Lib.hid hs
  obtain ⟨A, c, rfl, k0, k1, k2, _⟩ := hs
  have HKL := Lib.hid (keyK_le key)
  have hmk : ∀ W : World, (Instr.makeSlice 34 (.int .i64 64) (.int .i64 64)).run Tryz.prog W = .ok (.slice (some ⟨W.heap.size, 0, none⟩) 64 64) (W.alloc (.cells (noughts 64) 5)) := fun W => make_bytes 64 64 (by omega) (by omega) W
  go_enter Tryz.func74, Tryz.ntmps74
  go_upto_if 9 with fail
  go_cut [0] (fun s0 wx => Sl wx wx.heap.size s0 (keyK key) ∧ Below w.heap.size w wx)
  case first =>
    by_cases h64 : 64 < key.length
    · have HK64 := Lib.hid (keyK_long h64)
      go_wp2_with fail
      refine (refSum_any B (.slice A key.length c) key w HT.out hG HS.out hB hl).mono ?_
      rintro e w2 ⟨v2, rfl, hO, hB2⟩
      rw [← HK64.out] at hO
      have HO := Lib.hid hO; clear hO
      have HB2 := Lib.hid hB2; clear hB2
      go_wp2_with fail
      go_meet
      case rel => exact ⟨HO.out.sl, HB2.out⟩
    · have HK64 := Lib.hid (keyK_short h64)
      go_wp2_with fail
      go_meet
      case rel => exact ⟨by rw [HK64.out]; exact HS.out.more hB, Below.refl _ _⟩
  case rest =>
  obtain ⟨hS2, hB2⟩ := hcut
  have HB2 := Lib.hid hB2; clear hB2
  clear HS
  obtain ⟨kk, hk2⟩ : ∃ k2, k2 = keyK key := ⟨_, rfl⟩
  have hkl : kk.length ≤ 64 := by rw [hk2]; exact HKL.out
  have HPK : Hid ((List.replicate 64 (vb 0)).take 0 ++ kk.map vb ++ (List.replicate 64 (vb 0)).drop (0 + (kk.map vb).length) = (padK key).map vb) := Lib.hid (by
    rw [padK_def, ← hk2, List.map_append, List.length_map, Nat.zero_add, List.drop_replicate, List.map_replicate]; rfl)
  rw [← hk2] at hS2
  clear hk2 HKL
  obtain ⟨A2, c2, rfl, m0, m1, m2, m3⟩ := hS2
  have H3 := Lib.hid m3; clear m3 m0
  have HB3 : Hid (Below wc.heap.size wc (wc.alloc (.cells (noughts 64) 5))) := Lib.hid ((Below.refl _ _).alloc (Nat.le_refl _) _)
  have HK3 : Hid (Blk (wc.alloc (.cells (noughts 64) 5)) wc.heap.size (List.replicate 64 (vb 0))) := Lib.hid (Blk.newAt wc _ _ rfl (noughts_list 64))
  have HY3 : Hid (Ty (wc.alloc (.cells (noughts 64) 5)) wc.heap.size 5) := Lib.hid (Ty.new wc _ _)
  have HL : Hid ((kk.map vb).length = kk.length) := Lib.hid (List.length_map ..)
  have hzc : w.heap.size ≤ wc.heap.size := HB2.out.size
  go_wp2_with ((with_reducible refine wpList_copy_to ?g1 (.tmp 13) (.tmp 14) 34 34 ?g2 5 Tryz.underlying34 info_b1 (some ⟨wc.heap.size, 0, none⟩) A2 64 64 kk.length c2 ?g3 ?g4 wc.heap.size 0 (kk.map vb) ?g5 ?g6 ?g7 (oneCell_bytes kk) ?_); (case g1 => rfl); (case g2 => rfl); (case g3 => rfl); (case g4 => rfl); (case g5 => rw [HL.out]; exact (Nat.min_eq_left (by omega)).symm); (case g6 => exact fun hp => ⟨rfl, (by rw [HL.out] at hp; obtain ⟨b, o, e, hlt, hbs⟩ := H3.out hp; exact ⟨b, o, e, (hbs.below HB3.out hlt).rangeAt⟩)⟩); (case g7 => exact HK3.out.there _ _ (by rw [HL.out, List.length_replicate]; omega)); rw [HL.out]; (have HK4 := Lib.hid (HK3.out.setCells (vs := kk.map vb) 0 (by rw [HL.out, List.length_replicate]; omega))); (rw [HPK.out] at HK4); (have HY4 := Lib.hid (HY3.out.setCells (b' := wc.heap.size) (kk.map vb) 0)); (have HB4 := Lib.hid (below_setCells (Nat.le_refl wc.heap.size) (kk.map vb) HB3.out 0)); (generalize World.setCells _ _ _ _ = w5 at HK4 HY4 HB4 ⊢))
  clear hmk
  go_loopw [6, 18] (fun _ i wr => ∃ j : Nat, j ≤ 64 ∧ i = .int .i64 j ∧ Blk wr wc.heap.size ((maskN x j (padK key)).map vb) ∧ Ty wr wc.heap.size 5 ∧ Below w.heap.size w wr) (fun _ i _ => 64 - (intOf i).toNat)
  case atStart => exact ⟨0, by omega, rfl, by rw [maskN_zero]; exact HK4.out, HY4.out, HB2.out.trans (HB4.out.mono hzc)⟩
  case round =>
    obtain ⟨j, hj, rfl, hk, hy, hb⟩ := hrel
    have hpl := padK_length key
    by_cases hlt : j < 64
    · obtain ⟨y, hyy⟩ : ∃ y, y = (padK key)[j]'(by omega) := ⟨_, rfl⟩
      have hc := hk.at (o := j) (v := vb y) (by rw [List.getElem?_map, maskN_at x j _ (by omega), hyy]; rfl)
      have hf := hk.free j
      have hset : (maskN x (j + 1) (padK key)).map vb = ((maskN x j (padK key)).map vb).set j (vb (y ^^^ x)) := by rw [maskN_succ x j _ (by omega), List.map_set, hyy]
      have hx := bv_xor8 y x
      have HK := Lib.hid hk; clear hk
      have HY := Lib.hid hy; clear hy
      have HB := Lib.hid hb; clear hb
      have HS := Lib.hid hset; clear hset hyy hpl
      go_wp2_with fail
      go_roundw
      case rel => exact ⟨j + 1, by omega, by go_num, by rw [HS.out]; exact HK.out.set j _, HY.out.set _ _ _, HB.out.setCell (p := ⟨wc.heap.size, j, none⟩) hzc _⟩
      case measure => simp [intOf]; omega
    · obtain rfl : j = 64 := by omega
      have hall : maskN x 64 (padK key) = maskL x (padK key) := by rw [← hpl]; exact maskN_all x _
      rw [hall] at hk
      have HK := Lib.hid hk; clear hk
      have HY := Lib.hid hy; clear hy
      have HB := Lib.hid hb; clear hb
      clear hall
      go_wp2_with fail
      go_ret
      exact ⟨_, rfl, OwnB.of_blk HY.out HK.out hzc (by rw [maskL_length, hpl]) (by omega), HB.out⟩
set_option maxRecDepth 100000 in
set_option maxHeartbeats 2000000 in
theorem refHm_any (B : Nat) (v v2 : Value) (key m : List UInt8) (w : World) (hT : TabB w) (hG : 2 < w.heap.size) (hs : Sl w B v key) (hs2 : Sl w B v2 m) (hB : B ≤ w.heap.size) (hl : key.length ≤ 10000) (hl2 : m.length ≤ 10000) :
    Calls Tryz.prog 49 #[v, v2] w fun e w' => ∃ v', e = .returned v' ∧ OwnB w' w.heap.size v' (hm key m) ∧ Below w.heap.size w w' := by
  have HT := Lib.hid hT; clear hT
  have HS := Lib.hid hs; clear hs
  have HS2 := Lib.hid hs2; clear hs2
  have h92 := fun W h1 h2 h3 h4 => turned_any 92 B v key W h1 h2 h3 h4 (by omega)
  have h54 := fun W h1 h2 h3 h4 => turned_any 54 B v key W h1 h2 h3 h4 (by omega)
  rw [vb54] at h54
  rw [vb92] at h92
  have ha : (maskL 54 (padK key)).length = 64 := by rw [maskL_length, padK_length]
  have hb : (maskL 92 (padK key)).length = 64 := by rw [maskL_length, padK_length]
  obtain ⟨p5, hp5⟩ : ∃ p, p = maskL 54 (padK key) := ⟨_, rfl⟩
  obtain ⟨p9, hp9⟩ : ∃ p, p = maskL 92 (padK key) := ⟨_, rfl⟩
  have hm2 : hm key m = sumL (p9 ++ sumL (p5 ++ m)) := by rw [hm_def, hp5, hp9]
  rw [← hp5] at h54 ha
  rw [← hp9] at h92 hb
  have H54 := Lib.hid h54; clear h54 hp5
  have H92 := Lib.hid h92; clear h92 hp9
  have HM := Lib.hid hm2; clear hm2
  go_enter Tryz.func49, Tryz.ntmps49
  go_wp2_with fail
  refine (H92.out w HT.out hG HS.out hB).mono ?_
  rintro e w1 ⟨v9, rfl, hO9, hB1⟩
  have HO9 := Lib.hid hO9; clear hO9
  have HB1 := Lib.hid hB1; clear hB1
  have hz1 := HB1.out.size
  go_wp2_with fail
  refine (H54.out w1 (HT.out.below HB1.out hG) (by show _ < w1.heap.size; omega) (HS.out.below HB1.out hB) (by omega)).mono ?_
  rintro e w2 ⟨v5, rfl, hO5, hB2⟩
  have HO5 := Lib.hid hO5; clear hO5
  have HB2 := Lib.hid hB2; clear hB2
  have hz2 := HB2.out.size
  have HO92 := Lib.hid (HO9.out.below HB2.out)
  have HBw2 := Lib.hid (HB1.out.trans (HB2.out.mono hz1))
  go_wp2_with (at_builtin; ((with_reducible refine wpList_app_sl ?g1 (.tmp 8) (.tmp 9) ?g2 w1.heap.size v5 p5 m ?g3 ?g4 B v2 ?g5 ?g6 ?g7 ?g8 ?_); (case g1 => rfl); (case g2 => rfl); (case g3 => rfl); (case g4 => exact HO5.out); (case g5 => rfl); (case g6 => exact HS2.out.below HBw2.out hB); (case g7 => omega); (case g8 => exact hz2); intro v6 w3 hv hg; have Hg := Lib.hid (HO5.out.belowBase hg hz2); clear hg; have Hv := Lib.hid hv; clear hv))
  have HBw3 := Lib.hid (HBw2.out.trans ((Hg.out).mono hz1))
  have hz3 := HBw3.out.size
  refine (refSum_any w3.heap.size v6 (p5 ++ m) w3 (HT.out.below HBw3.out hG) (by show _ < w3.heap.size; omega) Hv.out.sl (Nat.le_refl _) (by rw [List.length_append]; omega)).mono ?_
  rintro e w4 ⟨v7, rfl, hO7, hB4⟩
  have HO7 := Lib.hid hO7.sl; clear hO7
  have HB4 := Lib.hid hB4; clear hB4
  have hz4 := HB4.out.size
  have hz23 : w1.heap.size ≤ w3.heap.size := by have := Hv.out; have := Hg.out.size; omega
  have HO94 := Lib.hid ((HO9.out.below (HB2.out.trans Hg.out)).below HB4.out)
  have HBw4 := Lib.hid (HBw3.out.trans (HB4.out.mono hz3))
  obtain ⟨q, hq⟩ : ∃ q, q = sumL (p5 ++ m) := ⟨_, rfl⟩
  have hql : q.length = 32 := by rw [hq, sumL_length]
  rw [← hq] at HO7 HM
  clear hq
  go_wp2_with (at_builtin; ((with_reducible refine wpList_app_sl ?f1 (.tmp 6) (.tmp 11) ?f2 w.heap.size v9 p9 q ?f3 ?f4 w4.heap.size v7 ?f5 ?f6 ?f7 ?f8 ?_); (case f1 => rfl); (case f2 => rfl); (case f3 => rfl); (case f4 => exact HO94.out); (case f5 => rfl); (case f6 => exact HO7.out); (case f7 => omega); (case f8 => exact HBw4.out.size); intro v8 w5 hv8 hg8; have Hg8 := Lib.hid (HBw4.out.trans (HO94.out.belowBase hg8 HBw4.out.size)); clear hg8; have Hv8 := Lib.hid hv8; clear hv8))
  have hz5 := Hg8.out.size
  refine (refSum_any w5.heap.size v8 (p9 ++ q) w5 (HT.out.below Hg8.out hG) (by show _ < w5.heap.size; omega) Hv8.out.sl (Nat.le_refl _) (by rw [List.length_append]; omega)).mono ?_
  rintro e w6 ⟨v10, rfl, hO10, hB6⟩
  have HO10 := Lib.hid hO10; clear hO10
  have HB6 := Lib.hid (Hg8.out.trans (hB6.mono hz5)); clear hB6
  go_wp2_with fail
  go_ret
  exact ⟨_, rfl, by rw [HM.out]; exact HO10.out.lower hz5, HB6.out⟩
theorem Ty.drew {w : World} {b : Nat} {t : TypeId} (h : Ty w b t) : Ty w.drew b t := h
set_option maxRecDepth 100000 in
set_option maxHeartbeats 2000000 in
theorem xor_any (B : Nat) (v1 v2 : Value) (a b : List UInt8) (w : World) (h1 : Sl w B v1 a) (h2 : Sl w B v2 b) (hB : B ≤ w.heap.size) (hla : a.length ≤ 10000) (hlb : b.length ≤ 10000) :
    Calls Tryz.prog 37 #[v1, v2] w fun e w' => ∃ v', e = .returned v' ∧ OwnB w' w.heap.size v' (xorL a b) ∧ Below w.heap.size w w' := by
  obtain ⟨A1, c1, rfl, _, p1, p2, p3⟩ := h1
  obtain ⟨A2, c2, rfl, _, q1, q2, q3⟩ := h2
  have P3 := Lib.hid p3; clear p3
  have Q3 := Lib.hid q3; clear q3
  obtain ⟨n, hn⟩ : ∃ n : Nat, n = min a.length b.length := ⟨_, rfl⟩
  have hna : n ≤ a.length := by omega
  have hnb : n ≤ b.length := by omega
  have HN := Lib.hid hn; clear hn
  have hk0 : Blk (w.alloc (.cells (noughts n) 5)) w.heap.size ((xorN a b 0).map vb) := Blk.newAt w _ _ rfl (by rw [xorN_zero, ← HN.out, List.map_replicate, noughts_list])
  have hy0 : Ty (w.alloc (.cells (noughts n) 5)) w.heap.size 5 := Ty.new w _ _
  have hb0 : Below w.heap.size w (w.alloc (.cells (noughts n) 5)) := (Below.refl _ _).alloc (Nat.le_refl _) _
  have HK0 := Lib.hid hk0; clear hk0
  have HY0 := Lib.hid hy0; clear hy0
  have HB0 := Lib.hid hb0; clear hb0
  have hcase : (∃ q : Int, q = (a.length : Int) ∧ q ≤ (b.length : Int) ∧ q = (n : Int)) ∨ (∃ q : Int, q = (b.length : Int) ∧ q < (a.length : Int) ∧ q = (n : Int)) := by
    have := HN.out
    by_cases h : a.length ≤ b.length
    · exact .inl ⟨_, rfl, by omega, by omega⟩
    · exact .inr ⟨_, rfl, by omega, by omega⟩
  have hmk0 : ∀ (q : Int) (W : World), q = (n : Int) → (Instr.makeSlice 34 (.int .i64 q) (.int .i64 q)).run Tryz.prog W = .ok (.slice (some ⟨W.heap.size, 0, none⟩) n n) (W.alloc (.cells (noughts n) 5)) := fun q W h => by rw [h]; exact make_bytes n n (Nat.le_refl _) (by omega) W
  rcases hcase with ⟨q, e1, e2, e3⟩ | ⟨q, e1, e2, e3⟩
  all_goals
  have hmk := fun W => hmk0 q W e3
  rw [e1] at hmk e2
  have HQ := Lib.hid e3
  clear e3 e1 hmk0
  go_enter Tryz.func37, Tryz.ntmps37
  go_wp2_with fail
  go_loopw [6, 15] (fun _ i wr => ∃ j : Nat, j ≤ n ∧ i = .int .i64 j ∧ Blk wr w.heap.size ((xorN a b j).map vb) ∧ Ty wr w.heap.size 5 ∧ Below w.heap.size w wr) (fun _ i _ => n - (intOf i).toNat)
  case atStart => exact ⟨0, by omega, rfl, HK0.out, HY0.out, HB0.out⟩
  case round =>
    obtain ⟨j, hj, rfl, hk, hy, hb⟩ := hrel
    by_cases hlt : j < n
    · obtain ⟨b1, o1, rfl, hb1, hc1⟩ := P3.out (by omega)
      obtain ⟨b2, o2, rfl, hb2, hc2⟩ := Q3.out (by omega)
      obtain ⟨x, hx⟩ : ∃ x, x = a[j]'(by omega) := ⟨_, rfl⟩
      obtain ⟨y, hy2⟩ : ∃ y, y = b[j]'(by omega) := ⟨_, rfl⟩
      have d1 : wr.cell? ⟨b1, o1 + j, none⟩ = some (vb x) := by rw [hx]; exact (hc1.below hb (by omega)) j (by omega)
      have d2 : wr.cell? ⟨b2, o2 + j, none⟩ = some (vb y) := by rw [hy2]; exact (hc2.below hb (by omega)) j (by omega)
      have hlen : ((xorN a b j).map vb).length = n := by rw [List.length_map, xorN_length _ _ _ (by have := HN.out; omega), HN.out]
      have d3 : ∃ z, wr.cell? ⟨w.heap.size, j, none⟩ = some z := ⟨_, hk.at (List.getElem?_eq_getElem (by omega))⟩
      obtain ⟨z, d3⟩ := d3
      have f3 := hk.free j
      have hset : (xorN a b (j + 1)).map vb = ((xorN a b j).map vb).set j (vb (x ^^^ y)) := by rw [xorN_succ a b j (by omega) (by omega), List.map_set, hx, hy2]
      have hbx := bv_xor8 x y
      have HK := Lib.hid hk; clear hk
      have HY := Lib.hid hy; clear hy
      have HB := Lib.hid hb; clear hb
      have HS := Lib.hid hset; clear hset hx hy2 hlen hc1 hc2
      go_wp2_with fail
      go_region
      go_wp2_with fail
      go_roundw
      case rel => exact ⟨j + 1, by omega, by go_num, by rw [HS.out]; exact HK.out.drew.set j _, HY.out.drew.set _ _ _, HB.out.drew.setCell (p := ⟨w.heap.size, j, none⟩) (Nat.le_refl _) _⟩
      case measure => simp [intOf]; omega
    · obtain rfl : j = n := by omega
      have hN := HN.out
      have hall : xorN a b j = xorL a b := by rw [hN]; exact xorN_all a b
      rw [hall] at hk
      have hln : (xorL a b).length = j := by rw [xorL_length, ← hN]
      have HK := Lib.hid hk; clear hk
      have HY := Lib.hid hy; clear hy
      have HB := Lib.hid hb; clear hb
      have HLN := Lib.hid hln; clear hln
      clear hall hN
      go_wp2_with fail
      go_ret
      exact ⟨_, rfl, OwnB.of_blk HY.out HK.out (Nat.le_refl _) HLN.out (by omega), HB.out⟩
set_option maxRecDepth 100000 in
set_option maxHeartbeats 2000000 in
theorem refXor_any (B : Nat) (v1 v2 : Value) (a b : List UInt8) (w : World) (h1 : Sl w B v1 a) (h2 : Sl w B v2 b) (hB : B ≤ w.heap.size) (hla : a.length ≤ 10000) (hlb : b.length ≤ 10000) :
    Calls Tryz.prog 53 #[v1, v2] w fun e w' => ∃ v', e = .returned v' ∧ OwnB w' w.heap.size v' (xorL a b) ∧ Below w.heap.size w w' := by
  obtain ⟨A1, c1, rfl, _, p1, p2, p3⟩ := h1
  obtain ⟨A2, c2, rfl, _, q1, q2, q3⟩ := h2
  have P3 := Lib.hid p3; clear p3
  have Q3 := Lib.hid q3; clear q3
  obtain ⟨n, hn⟩ : ∃ n : Nat, n = min a.length b.length := ⟨_, rfl⟩
  have hna : n ≤ a.length := by omega
  have hnb : n ≤ b.length := by omega
  have HN := Lib.hid hn; clear hn
  have hk0 : Blk (w.alloc (.cells (noughts n) 5)) w.heap.size ((xorN a b 0).map vb) := Blk.newAt w _ _ rfl (by rw [xorN_zero, ← HN.out, List.map_replicate, noughts_list])
  have hy0 : Ty (w.alloc (.cells (noughts n) 5)) w.heap.size 5 := Ty.new w _ _
  have hb0 : Below w.heap.size w (w.alloc (.cells (noughts n) 5)) := (Below.refl _ _).alloc (Nat.le_refl _) _
  have HK0 := Lib.hid hk0; clear hk0
  have HY0 := Lib.hid hy0; clear hy0
  have HB0 := Lib.hid hb0; clear hb0
  have hcase : (∃ q : Int, q = (a.length : Int) ∧ q ≤ (b.length : Int) ∧ q = (n : Int)) ∨ (∃ q : Int, q = (b.length : Int) ∧ q < (a.length : Int) ∧ q = (n : Int)) := by
    have := HN.out
    by_cases h : a.length ≤ b.length
    · exact .inl ⟨_, rfl, by omega, by omega⟩
    · exact .inr ⟨_, rfl, by omega, by omega⟩
  have hmk0 : ∀ (q : Int) (W : World), q = (n : Int) → (Instr.makeSlice 34 (.int .i64 q) (.int .i64 q)).run Tryz.prog W = .ok (.slice (some ⟨W.heap.size, 0, none⟩) n n) (W.alloc (.cells (noughts n) 5)) := fun q W h => by rw [h]; exact make_bytes n n (Nat.le_refl _) (by omega) W
  rcases hcase with ⟨q, e1, e2, e3⟩ | ⟨q, e1, e2, e3⟩
  all_goals
  have hmk := fun W => hmk0 q W e3
  rw [e1] at hmk e2
  have HQ := Lib.hid e3
  clear e3 e1 hmk0
  go_enter Tryz.func53, Tryz.ntmps53
  go_wp2_with fail
  go_loopw [7, 17] (fun _ i wr => ∃ j : Nat, j ≤ n ∧ i = .int .i64 j ∧ Blk wr w.heap.size ((xorN a b j).map vb) ∧ Ty wr w.heap.size 5 ∧ Below w.heap.size w wr) (fun _ i _ => n - (intOf i).toNat)
  case atStart => exact ⟨0, by omega, rfl, HK0.out, HY0.out, HB0.out⟩
  case round =>
    obtain ⟨j, hj, rfl, hk, hy, hb⟩ := hrel
    by_cases hlt : j < n
    · obtain ⟨b1, o1, rfl, hb1, hc1⟩ := P3.out (by omega)
      obtain ⟨b2, o2, rfl, hb2, hc2⟩ := Q3.out (by omega)
      obtain ⟨x, hx⟩ : ∃ x, x = a[j]'(by omega) := ⟨_, rfl⟩
      obtain ⟨y, hy2⟩ : ∃ y, y = b[j]'(by omega) := ⟨_, rfl⟩
      have d1 : wr.cell? ⟨b1, o1 + j, none⟩ = some (vb x) := by rw [hx]; exact (hc1.below hb (by omega)) j (by omega)
      have d2 : wr.cell? ⟨b2, o2 + j, none⟩ = some (vb y) := by rw [hy2]; exact (hc2.below hb (by omega)) j (by omega)
      have hlen : ((xorN a b j).map vb).length = n := by rw [List.length_map, xorN_length _ _ _ (by have := HN.out; omega), HN.out]
      have d3 : ∃ z, wr.cell? ⟨w.heap.size, j, none⟩ = some z := ⟨_, hk.at (List.getElem?_eq_getElem (by omega))⟩
      obtain ⟨z, d3⟩ := d3
      have f3 := hk.free j
      have hset : (xorN a b (j + 1)).map vb = ((xorN a b j).map vb).set j (vb (x ^^^ y)) := by rw [xorN_succ a b j (by omega) (by omega), List.map_set, hx, hy2]
      have hbx := bv_xor8 x y
      have HK := Lib.hid hk; clear hk
      have HY := Lib.hid hy; clear hy
      have HB := Lib.hid hb; clear hb
      have HS := Lib.hid hset; clear hset hx hy2 hlen hc1 hc2
      go_wp2_with fail
      go_region
      go_wp2_with fail
      go_roundw
      case rel => exact ⟨j + 1, by omega, by go_num, by rw [HS.out]; exact HK.out.drew.set j _, HY.out.drew.set _ _ _, HB.out.drew.setCell (p := ⟨w.heap.size, j, none⟩) (Nat.le_refl _) _⟩
      case measure => simp [intOf]; omega
    · obtain rfl : j = n := by omega
      have hN := HN.out
      have hall : xorN a b j = xorL a b := by rw [hN]; exact xorN_all a b
      rw [hall] at hk
      have hln : (xorL a b).length = j := by rw [xorL_length, ← hN]
      have HK := Lib.hid hk; clear hk
      have HY := Lib.hid hy; clear hy
      have HB := Lib.hid hb; clear hb
      have HLN := Lib.hid hln; clear hln
      clear hall hN
      go_wp2_with fail
      go_ret
      exact ⟨_, rfl, OwnB.of_blk HY.out HK.out (Nat.le_refl _) HLN.out (by omega), HB.out⟩
end Go.Proofs.YtlnjpmpddomjiaaGreatDoor
