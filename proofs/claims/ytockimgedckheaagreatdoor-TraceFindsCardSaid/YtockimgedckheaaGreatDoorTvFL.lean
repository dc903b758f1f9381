/- trace: the law TraceFinds, for the card. -/
import Derived.Test.YtockimgedckheaaGreatDoorTvFG
import Derived.Test.YtockimgedckheaaGreatDoorTvLd
set_option maxRecDepth 100000
namespace Go.Proofs.YtockimgedckheaaGreatDoor
open Go Go.RowKit Go.Shelf
attribute [local go_sem] Oper.semAt_some
/-- Two rows of events side by side. -/
structure Tw (w : World) (base : Nat) (v u : Value) (F G : List EvL) : Prop where
  a : OwnV tEr w base v F
  b : OwnV tEr w base u G
  ap : ∀ k, v.ownBlock = some k → u.ownBlock ≠ some k
section
variable {w w' : World} {base : Nat} {v u v' u' : Value} {F G F' G' : List EvL}
theorem Tw.below (h : Tw w base v u F G) (hb : Below w.heap.size w w') : Tw w' base v u F G := ⟨h.a.below hb, h.b.below hb, h.ap⟩
theorem Tw.symm (h : Tw w base v u F G) : Tw w base u v G F := ⟨h.b, h.a, fun k hk hv => h.ap k hv hk⟩
theorem Tw.push (h : Tw w base v u F G) (hO : OwnV tEr w' base v' F') (hg : w.grownBy w' v.ownBlock) (ho : v'.ownBlock = v.ownBlock ∨ v'.ownBlock = some w.heap.size) : Tw w' base v' u F' G := by
  refine ⟨hO, h.b.kept hg ?_, fun k hk hu => ?_⟩
  · by_cases hc : u.ownBlock = none
    · exact .inl hc
    · refine .inr (fun e => ?_)
      cases hv : v.ownBlock with
      | none => rw [hv] at e; exact hc e
      | some k => rw [hv] at e; exact h.ap k hv e
  · rcases ho with e | e
    · rw [e] at hk; exact h.ap k hk hu
    · rw [e] at hk
      have := Option.some.inj hk
      have := (h.b.lt k hu).2
      omega
end
set_option maxHeartbeats 16000000 in
theorem traceFinds_law (B : Nat) (vl : Value) (ops : List OpT) (one two : List UInt8) (conn : Int) (r : Int) (hr0 : 0 ≤ r) (_hr1 : r ≤ 255) (w : World) (hops : OpsT w B vl ops) (hB : B ≤ w.heap.size) (hT : TabA w) (hE : PowE w) :
    Calls Tryz.prog 5 #[vl, str one, str two, .int .i64 conn, .int .u8 r] w fun e w' => e = .returned (.bool true) ∧ Below w.heap.size w w' := by
  have HAW := Lib.hid (awake23 w hT hE)
  have HBU := Lib.hid (fun W (hb : Below w.heap.size w W) => build_any 20 (by omega) (by omega) B vl ops W (hops.below hb hB) (Nat.le_trans hB hb.size) (hT.below hb (tab_lt hT)) (hE.below hb))
  have HR0 := Lib.hid hr0
  clear hops hT hE hr0
  refine (callsIn_wide (n := 30)).1 ?_
  refine callsIn_of_wp_marks Tryz.func5 rfl trivial ?_ rfl
  simp only [Tryz.ntmps5, List.size_toArray, List.length_cons, List.length_nil, Nat.reduceAdd, Nat.reduceSub, Array.replicate_succ, Array.replicate_zero, List.push_toArray, List.append_toArray, List.nil_append, List.cons_append]
  refine wpIn_wide.2 ?_
  go_wp2_with fail
  refine HAW.out.mono ?_
  rintro e w1 ⟨rfl, hB1⟩
  have HB1 := Lib.hid hB1
  clear hB1 HAW
  go_wp2_with fail
  refine (HBU.out w1 HB1.out).mono ?_
  rintro e w2 ⟨rfl, ⟨V, C, VX, all, hP2, hal⟩, hB2⟩
  have HB2 := Lib.hid (HB1.out.trans (hB2.mono HB1.out.size))
  have HP2 := Lib.hid hP2
  have HAL := Lib.hid hal
  obtain ⟨T, hTT⟩ : ∃ T, T = w1.heap.size + 1 := ⟨_, rfl⟩
  obtain ⟨bx, hbx⟩ : ∃ T, T = w1.heap.size + 2 := ⟨_, rfl⟩
  obtain ⟨base, hbase⟩ : ∃ T, T = w1.heap.size := ⟨_, rfl⟩
  rw [← hTT, ← hbx, ← hbase] at HP2
  rw [← hTT, ← hbx]
  have HBS := Lib.hid (show w.heap.size ≤ base from by rw [hbase]; exact HB1.out.size)
  clear hB2 hP2 hal HBU hTT hbx hbase
  obtain ⟨tb, htb⟩ : ∃ tb, tb = w2.heap.size := ⟨_, rfl⟩
  obtain ⟨w3, hw3⟩ : ∃ w3, w3 = w2.alloc (.cells #[tQ T] 39) := ⟨_, rfl⟩
  have hb3 : Below w2.heap.size w2 w3 := by rw [hw3]; exact (Below.refl _ _).alloc (Nat.le_refl _) _
  have HP3 := Lib.hid (HP2.out.below hb3)
  have HB3 := Lib.hid (HB2.out.trans (hb3.mono HB2.out.size))
  have HTB := Lib.hid (show Blk w3 tb [tQ T] from by rw [hw3, htb]; exact Blk.new w2 _ _)
  have htl : tb < w3.heap.size := HTB.out.lt
  have HBT := Lib.hid (show w.heap.size ≤ tb from by rw [htb]; exact HB2.out.size)
  go_wp2_with fail
  rw [← hw3, ← htb]
  have HNT := Lib.hid (show (∀ q ∈ trS T V C, q < tb) ∧ bx < tb from by rw [htb]; exact ⟨fun q hq => (HP2.out.tr.inS q hq).2, HP2.out.xt.blk.lt⟩)
  clear hw3 htb hb3
  refine (known_any HP3.out.xt (by omega)).mono ?_
  rintro e w4 ⟨v4, q4, rfl, hev, hw4⟩
  have hb4 : Below w3.heap.size w3 w4 := by rw [hw4]; exact below_drewN (Below.refl _ _) q4
  have HP4 := Lib.hid (HP3.out.below hb4)
  have HB4 := Lib.hid (HB3.out.trans (hb4.mono HB3.out.size))
  have HTB4 := Lib.hid (HTB.out.below hb4 htl)
  have HEV := Lib.hid (hev.below hb4 (Nat.le_refl _))
  have hz4 : w4.heap.size = w3.heap.size := by rw [hw4]; rfl
  have HKL := Lib.hid (lastL_len 20 all)
  obtain ⟨K, hK⟩ : ∃ K, K = lastL 20 all := ⟨_, rfl⟩
  rw [← hK] at HEV HKL
  have HK := Lib.hid hK
  clear hK hb4 hw4 hev
  obtain ⟨AK, cK, rfl, hcK1, ⟨hcK2, _⟩, -⟩ := id HEV.out
  go_wp2_with fail
  go_loopw [14, 15, 34] (fun c d i wr => ∃ j : Nat, j ≤ K.length ∧ i = .int .i64 (j : Int) ∧ Tw wr w4.heap.size c d ((K.take j).filter (ofP one two)) ((K.take j).filter (abtP conn)) ∧ Below w4.heap.size w4 wr) (fun _ _ i _ => K.length - (intOf i).toNat)
  case atStart => exact ⟨0, by omega, rfl, by rw [List.take_zero]; exact ⟨OwnV.nil _ _ _, OwnV.nil _ _ _, by simp [Value.ownBlock]⟩, Below.refl _ _⟩
  case round =>
    obtain ⟨j, hjl, rfl, hs, hb⟩ := hrel
    have HS := Lib.hid hs
    have HB := Lib.hid hb
    clear hs hb
    by_cases hlt : j < K.length
    · obtain ⟨g0, o0, hAs, hgl, c0, c1, c2, c3, c4⟩ := (HEV.out.below HB.out (by omega)).five j hlt
      subst hAs
      obtain ⟨y, hy⟩ : ∃ y, y = K[j] := ⟨_, rfl⟩
      rw [← hy] at c0 c1 c2 c3 c4
      have htk : ∀ p : EvL → Bool, (K.take (j + 1)).filter p = (K.take j).filter p ++ (if p y = true then [y] else []) := fun p => by
        rw [List.take_succ_eq_append_getElem hlt, List.filter_append, ← hy]
        cases hp : p y <;> simp [hp]
      have hfl : ∀ p : EvL → Bool, ((K.take j).filter p).length ≤ 1000 := fun p => by
        have h1 := List.length_filter_le p (K.take j)
        have h2 : (K.take j).length ≤ K.length := by rw [List.length_take]; omega
        have := HKL.out
        omega
      have htk1 := htk (ofP one two)
      have htk2 := htk (abtP conn)
      have hfl1 := hfl (ofP one two)
      have hfl2 := hfl (abtP conn)
      obtain ⟨F, hF⟩ : ∃ F, F = (K.take j).filter (ofP one two) := ⟨_, rfl⟩
      obtain ⟨G, hG⟩ : ∃ G, G = (K.take j).filter (abtP conn) := ⟨_, rfl⟩
      rw [← hF] at htk1 hfl1 HS
      rw [← hG] at htk2 hfl2 HS
      have HTK1 := Lib.hid htk1
      have HTK2 := Lib.hid htk2
      have HFL1 := Lib.hid hfl1
      have HFL2 := Lib.hid hfl2
      obtain ⟨A2, hA2⟩ : ∃ A2, A2 = wr.alloc (.cells #[.int .u64 y.n, .int .u64 y.tick, str y.kind, .int .i64 y.conn, str y.text] tEr) := ⟨_, rfl⟩
      have HBA := Lib.hid (show Below wr.heap.size wr A2 from by rw [hA2]; exact (Below.refl _ wr).alloc (Nat.le_refl _) _)
      obtain ⟨A3, hA3⟩ : ∃ A3, A3 = A2.alloc (.cells #[.int .u64 y.n, .int .u64 y.tick, str y.kind, .int .i64 y.conn, str y.text] tEr) := ⟨_, rfl⟩
      have hb3 : Below wr.heap.size wr A3 := by rw [hA3, hA2]; exact ((Below.refl _ wr).alloc (Nat.le_refl _) _).alloc (by simp) _
      have HB3' := Lib.hid hb3
      have HT3 := Lib.hid (HS.out.below hb3)
      have HN3 := Lib.hid (show A3.heap[A2.heap.size]? = some (.cells y.cells.toArray tEr (0, 0)) from by rw [hA3]; exact heap_alloc_new A2 _)
      have HA3 := Lib.hid (show A3 = (wr.alloc (.cells #[.int .u64 y.n, .int .u64 y.tick, str y.kind, .int .i64 y.conn, str y.text] tEr)).alloc (.cells #[.int .u64 y.n, .int .u64 y.tick, str y.kind, .int .i64 y.conn, str y.text] tEr) from by rw [hA3, hA2])
      have HKB := Lib.hid (show Blk A3 wr.heap.size y.cells from by rw [hA3, hA2]; exact (Blk.new wr y.cells tEr).alloc _)
      have HZ := Lib.hid (show A2.heap.size = wr.heap.size + 1 from by rw [hA2]; simp)
      have HZB := Lib.hid (show w4.heap.size ≤ A3.heap.size from by have := hb3.size; have := HB.out.size; omega)
      have HA2' := Lib.hid hA2
      have HZ4 := Lib.hid HB.out.size
      clear htk hfl htk1 htk2 hfl1 hfl2 hF hG hy hA3 hA2 hb3
      cases hq : (y.conn == conn) with
      | false =>
        cases hc1 : (y.kind == one) with
        | true =>
          have p1 : (y.kind == one) = true := hc1
          have p3 : (y.conn == conn) = false := hq
          have HP1 := Lib.hid (show (if ofP one two y = true then [y] else []) = [y] from by unfold ofP; rw [hc1]; rfl)
          have HP2' := Lib.hid (show (if abtP conn y = true then [y] else []) = [] from by unfold abtP; rw [hq]; rfl)
          go_wp2_with (at_builtin; (refine wpList_app_ev evTr rfl (.tmp 48) (.tmp 50) rfl w4.heap.size u14 F y rfl (by have := HT3.out.a; rw [HA3.out] at this; exact this) (wr.heap.size + 1) rfl (by have := HN3.out; rw [HA3.out, HZ.out] at this; exact this) (by have := HFL1.out; omega) (by have := HZB.out; rw [HA3.out] at this; exact this) ?_); intro v5 w5 hO5 hg5 ho5; rw [← HA3.out] at hg5 ho5; have HT5 := Lib.hid (HT3.out.push hO5 hg5 ho5); have HB5 := Lib.hid ((HB.out.trans (HB3'.out.mono HZ4.out)).trans (HT3.out.a.belowBase hg5 HZB.out)); have hk5 : Blk w5 wr.heap.size y.cells := (HKB.out.grown hg5 (fun q => by have := (HS.out.a.lt _ q.symm).2; omega)); have f0 : w5.cell? ⟨wr.heap.size, 0, none⟩ = some (.int .u64 y.n) := hk5.at (o := 0) rfl; have f1 : w5.cell? ⟨wr.heap.size, 1, none⟩ = some (.int .u64 y.tick) := hk5.at (o := 1) rfl; have f2 : w5.cell? ⟨wr.heap.size, 2, none⟩ = some (str y.kind) := hk5.at (o := 2) rfl; have f3 : w5.cell? ⟨wr.heap.size, 3, none⟩ = some (.int .i64 y.conn) := hk5.at (o := 3) rfl; have f4 : w5.cell? ⟨wr.heap.size, 4, none⟩ = some (str y.text) := hk5.at (o := 4) rfl; have HZ5 := Lib.hid HB5.out.size; clear hO5 hg5 ho5 hk5)
          go_roundw
          case rel => exact ⟨j + 1, by omega, by go_num, by rw [HTK1.out, HTK2.out, HP1.out, HP2'.out, List.append_nil]; exact HT5.out, HB5.out⟩
          case measure => simp [intOf]; omega
        | false =>
          cases hc2 : (y.kind == two) with
          | false =>
            have p1 : (y.kind == one) = false := hc1
            have p2 : (y.kind == two) = false := hc2
            have p3 : (y.conn == conn) = false := hq
            have HP1 := Lib.hid (show (if ofP one two y = true then [y] else []) = [] from by unfold ofP; rw [hc1, hc2]; rfl)
            have HP2' := Lib.hid (show (if abtP conn y = true then [y] else []) = [] from by unfold abtP; rw [hq]; rfl)
            go_wp2_with fail
            go_roundw
            case rel => exact ⟨j + 1, by omega, by go_num, by rw [HTK1.out, HTK2.out, HP1.out, HP2'.out, List.append_nil, List.append_nil]; exact (by rw [← HA2'.out]; exact HS.out.below HBA.out), (by rw [← HA2'.out]; exact HB.out.trans (HBA.out.mono HZ4.out))⟩
            case measure => simp [intOf]; omega
          | true =>
            have p1 : (y.kind == one) = false := hc1
            have p2 : (y.kind == two) = true := hc2
            have p3 : (y.conn == conn) = false := hq
            have HP1 := Lib.hid (show (if ofP one two y = true then [y] else []) = [y] from by unfold ofP; rw [hc1, hc2]; rfl)
            have HP2' := Lib.hid (show (if abtP conn y = true then [y] else []) = [] from by unfold abtP; rw [hq]; rfl)
            go_wp2_with (at_builtin; (refine wpList_app_ev evTr rfl (.tmp 48) (.tmp 50) rfl w4.heap.size u14 F y rfl (by have := HT3.out.a; rw [HA3.out] at this; exact this) (wr.heap.size + 1) rfl (by have := HN3.out; rw [HA3.out, HZ.out] at this; exact this) (by have := HFL1.out; omega) (by have := HZB.out; rw [HA3.out] at this; exact this) ?_); intro v5 w5 hO5 hg5 ho5; rw [← HA3.out] at hg5 ho5; have HT5 := Lib.hid (HT3.out.push hO5 hg5 ho5); have HB5 := Lib.hid ((HB.out.trans (HB3'.out.mono HZ4.out)).trans (HT3.out.a.belowBase hg5 HZB.out)); have hk5 : Blk w5 wr.heap.size y.cells := (HKB.out.grown hg5 (fun q => by have := (HS.out.a.lt _ q.symm).2; omega)); have f0 : w5.cell? ⟨wr.heap.size, 0, none⟩ = some (.int .u64 y.n) := hk5.at (o := 0) rfl; have f1 : w5.cell? ⟨wr.heap.size, 1, none⟩ = some (.int .u64 y.tick) := hk5.at (o := 1) rfl; have f2 : w5.cell? ⟨wr.heap.size, 2, none⟩ = some (str y.kind) := hk5.at (o := 2) rfl; have f3 : w5.cell? ⟨wr.heap.size, 3, none⟩ = some (.int .i64 y.conn) := hk5.at (o := 3) rfl; have f4 : w5.cell? ⟨wr.heap.size, 4, none⟩ = some (str y.text) := hk5.at (o := 4) rfl; have HZ5 := Lib.hid HB5.out.size; clear hO5 hg5 ho5 hk5)
            go_roundw
            case rel => exact ⟨j + 1, by omega, by go_num, by rw [HTK1.out, HTK2.out, HP1.out, HP2'.out, List.append_nil]; exact HT5.out, HB5.out⟩
            case measure => simp [intOf]; omega
      | true =>
        cases hc1 : (y.kind == one) with
        | true =>
          have p1 : (y.kind == one) = true := hc1
          have p3 : (y.conn == conn) = true := hq
          have HP1 := Lib.hid (show (if ofP one two y = true then [y] else []) = [y] from by unfold ofP; rw [hc1]; rfl)
          have HP2' := Lib.hid (show (if abtP conn y = true then [y] else []) = [y] from by unfold abtP; rw [hq]; rfl)
          go_wp2_with (first | (at_builtin; (refine wpList_app_ev evTr rfl (.tmp 48) (.tmp 50) rfl w4.heap.size u14 F y rfl (by have := HT3.out.a; rw [HA3.out] at this; exact this) (wr.heap.size + 1) rfl (by have := HN3.out; rw [HA3.out, HZ.out] at this; exact this) (by have := HFL1.out; omega) (by have := HZB.out; rw [HA3.out] at this; exact this) ?_); intro v5 w5 hO5 hg5 ho5; rw [← HA3.out] at hg5 ho5; have HT5 := Lib.hid (HT3.out.push hO5 hg5 ho5); have HB5 := Lib.hid ((HB.out.trans (HB3'.out.mono HZ4.out)).trans (HT3.out.a.belowBase hg5 HZB.out)); have hk5 : Blk w5 wr.heap.size y.cells := (HKB.out.grown hg5 (fun q => by have := (HS.out.a.lt _ q.symm).2; omega)); have f0 : w5.cell? ⟨wr.heap.size, 0, none⟩ = some (.int .u64 y.n) := hk5.at (o := 0) rfl; have f1 : w5.cell? ⟨wr.heap.size, 1, none⟩ = some (.int .u64 y.tick) := hk5.at (o := 1) rfl; have f2 : w5.cell? ⟨wr.heap.size, 2, none⟩ = some (str y.kind) := hk5.at (o := 2) rfl; have f3 : w5.cell? ⟨wr.heap.size, 3, none⟩ = some (.int .i64 y.conn) := hk5.at (o := 3) rfl; have f4 : w5.cell? ⟨wr.heap.size, 4, none⟩ = some (str y.text) := hk5.at (o := 4) rfl; have HZ5 := Lib.hid HB5.out.size; clear hO5 hg5 ho5 hk5) | (at_builtin; (refine wpList_app_ev evTr rfl (.tmp 56) (.tmp 58) rfl w4.heap.size u15 G y rfl ((HT5.out.below ((Below.refl _ w5).alloc (Nat.le_refl _) _)).b) w5.heap.size rfl (heap_alloc_new w5 _) (by have := HFL2.out; omega) (by have := HZ5.out; simp; omega) ?_); intro v6 w6 hO6 hg6 ho6; have HT6 := Lib.hid ((HT5.out.below ((Below.refl _ w5).alloc (Nat.le_refl _) (.cells y.cells.toArray tEr))).symm.push hO6 hg6 ho6).symm; have HB6 := Lib.hid ((HB5.out.trans (((Below.refl _ w5).alloc (Nat.le_refl _) (.cells y.cells.toArray tEr)).mono HZ5.out)).trans (OwnV.belowBase (HT5.out.below ((Below.refl _ w5).alloc (Nat.le_refl _) (.cells y.cells.toArray tEr))).b hg6 (by have := HZ5.out; simp; omega))); clear hO6 hg6 ho6))
          go_roundw
          case rel => exact ⟨j + 1, by omega, by go_num, by rw [HTK1.out, HTK2.out, HP1.out, HP2'.out]; exact HT6.out, HB6.out⟩
          case measure => simp [intOf]; omega
        | false =>
          cases hc2 : (y.kind == two) with
          | false =>
            have p1 : (y.kind == one) = false := hc1
            have p2 : (y.kind == two) = false := hc2
            have p3 : (y.conn == conn) = true := hq
            have HP1 := Lib.hid (show (if ofP one two y = true then [y] else []) = [] from by unfold ofP; rw [hc1, hc2]; rfl)
            have HP2' := Lib.hid (show (if abtP conn y = true then [y] else []) = [y] from by unfold abtP; rw [hq]; rfl)
            go_wp2_with (at_builtin; (refine wpList_app_ev evTr rfl (.tmp 56) (.tmp 58) rfl w4.heap.size u15 G y rfl (by have := HT3.out.b; rw [HA3.out] at this; exact this) (wr.heap.size + 1) rfl (by have := HN3.out; rw [HA3.out, HZ.out] at this; exact this) (by have := HFL2.out; omega) (by have := HZB.out; rw [HA3.out] at this; exact this) ?_); intro v6 w6 hO6 hg6 ho6; rw [← HA3.out] at hg6 ho6; have HT6 := Lib.hid (HT3.out.symm.push hO6 hg6 ho6).symm; have HB6 := Lib.hid ((HB.out.trans (HB3'.out.mono HZ4.out)).trans (HT3.out.b.belowBase hg6 HZB.out)); clear hO6 hg6 ho6)
            go_roundw
            case rel => exact ⟨j + 1, by omega, by go_num, by rw [HTK1.out, HTK2.out, HP1.out, HP2'.out, List.append_nil]; exact HT6.out, HB6.out⟩
            case measure => simp [intOf]; omega
          | true =>
            have p1 : (y.kind == one) = false := hc1
            have p2 : (y.kind == two) = true := hc2
            have p3 : (y.conn == conn) = true := hq
            have HP1 := Lib.hid (show (if ofP one two y = true then [y] else []) = [y] from by unfold ofP; rw [hc1, hc2]; rfl)
            have HP2' := Lib.hid (show (if abtP conn y = true then [y] else []) = [y] from by unfold abtP; rw [hq]; rfl)
            go_wp2_with (first | (at_builtin; (refine wpList_app_ev evTr rfl (.tmp 48) (.tmp 50) rfl w4.heap.size u14 F y rfl (by have := HT3.out.a; rw [HA3.out] at this; exact this) (wr.heap.size + 1) rfl (by have := HN3.out; rw [HA3.out, HZ.out] at this; exact this) (by have := HFL1.out; omega) (by have := HZB.out; rw [HA3.out] at this; exact this) ?_); intro v5 w5 hO5 hg5 ho5; rw [← HA3.out] at hg5 ho5; have HT5 := Lib.hid (HT3.out.push hO5 hg5 ho5); have HB5 := Lib.hid ((HB.out.trans (HB3'.out.mono HZ4.out)).trans (HT3.out.a.belowBase hg5 HZB.out)); have hk5 : Blk w5 wr.heap.size y.cells := (HKB.out.grown hg5 (fun q => by have := (HS.out.a.lt _ q.symm).2; omega)); have f0 : w5.cell? ⟨wr.heap.size, 0, none⟩ = some (.int .u64 y.n) := hk5.at (o := 0) rfl; have f1 : w5.cell? ⟨wr.heap.size, 1, none⟩ = some (.int .u64 y.tick) := hk5.at (o := 1) rfl; have f2 : w5.cell? ⟨wr.heap.size, 2, none⟩ = some (str y.kind) := hk5.at (o := 2) rfl; have f3 : w5.cell? ⟨wr.heap.size, 3, none⟩ = some (.int .i64 y.conn) := hk5.at (o := 3) rfl; have f4 : w5.cell? ⟨wr.heap.size, 4, none⟩ = some (str y.text) := hk5.at (o := 4) rfl; have HZ5 := Lib.hid HB5.out.size; clear hO5 hg5 ho5 hk5) | (at_builtin; (refine wpList_app_ev evTr rfl (.tmp 56) (.tmp 58) rfl w4.heap.size u15 G y rfl ((HT5.out.below ((Below.refl _ w5).alloc (Nat.le_refl _) _)).b) w5.heap.size rfl (heap_alloc_new w5 _) (by have := HFL2.out; omega) (by have := HZ5.out; simp; omega) ?_); intro v6 w6 hO6 hg6 ho6; have HT6 := Lib.hid ((HT5.out.below ((Below.refl _ w5).alloc (Nat.le_refl _) (.cells y.cells.toArray tEr))).symm.push hO6 hg6 ho6).symm; have HB6 := Lib.hid ((HB5.out.trans (((Below.refl _ w5).alloc (Nat.le_refl _) (.cells y.cells.toArray tEr)).mono HZ5.out)).trans (OwnV.belowBase (HT5.out.below ((Below.refl _ w5).alloc (Nat.le_refl _) (.cells y.cells.toArray tEr))).b hg6 (by have := HZ5.out; simp; omega))); clear hO6 hg6 ho6))
            go_roundw
            case rel => exact ⟨j + 1, by omega, by go_num, by rw [HTK1.out, HTK2.out, HP1.out, HP2'.out]; exact HT6.out, HB6.out⟩
            case measure => simp [intOf]; omega
    · have hjx : j = K.length := by omega
      rw [hjx, List.take_length] at HS
      have HP5 := Lib.hid (HP4.out.below HB.out)
      have HB5 := Lib.hid (HB4.out.trans (HB.out.mono (by have := HB4.out.size; omega)))
      have HTB5 := Lib.hid (HTB4.out.below HB.out (by omega))
      have k5 : wr.cell? ⟨tb, 0, none⟩ = some (tQ T) := HTB5.out.at (o := 0) rfl
      go_wp2_with fail
      obtain ⟨W6, hW6⟩ : ∃ W6, W6 = wr.alloc (.cells #[str one, str two] 9) := ⟨_, rfl⟩
      have hb6 : Below wr.heap.size wr W6 := by rw [hW6]; exact (Below.refl _ wr).alloc (Nat.le_refl _) _
      have HP6 := Lib.hid (HP5.out.below hb6)
      have HB6 := Lib.hid (HB5.out.trans (hb6.mono HB5.out.size))
      have HTB6 := Lib.hid (HTB5.out.below hb6 HTB5.out.lt)
      have HS6 := Lib.hid (HS.out.below hb6)
      have HQ6 := Lib.hid (show Blk W6 wr.heap.size [str one, str two] from by rw [hW6]; exact Blk.new wr _ _)
      rw [← hW6]
      clear hW6 hb6
      refine (of_tr HP6.out.tr wr.heap.size one two HQ6.out).mono ?_
      rintro e W7 ⟨g7, rfl, hb7, hC⟩
      have HC7 := Lib.hid hC
      have HB7 := Lib.hid hb7
      clear hC hb7
      go_wp2_with fail
      refine HC7.out.mono ?_
      rintro e W8 ⟨vC1, rfl, hO8, hb8⟩
      have HO8 := Lib.hid (show OwnV tEv W8 W6.heap.size vC1 (K.filter (ofP one two)) from by rw [HK.out]; exact hO8)
      have HB8 := Lib.hid hb8
      clear hO8 hb8 HC7
      go_wp2_with fail
      have HFL := Lib.hid (show (K.filter (ofP one two)).length ≤ 1000 ∧ (K.filter (abtP conn)).length ≤ 1000 from by have h1 := List.length_filter_le (ofP one two) K; have h2 := List.length_filter_le (abtP conn) K; have := HKL.out; omega)
      refine (back_any W8.heap.size vC1 (K.filter (ofP one two)) W8 (HO8.out.evIn.more (Nat.le_refl _)) (Nat.le_refl _) HFL.out.1).mono ?_
      rintro e W9 ⟨vK, rfl, hO9, hb9⟩
      have HO9 := Lib.hid hO9
      have HB9 := Lib.hid (HB8.out.trans (hb9.mono HB8.out.size))
      clear hO9 hb9 HO8
      go_wp2_with fail
      refine (equalEv_same W9.heap.size W9.heap.size vK u14 (K.filter (ofP one two)) W9 HO9.out.evIn ((HS6.out.below HB9.out).a.evIn) HFL.out.1).mono ?_
      rintro e W10 ⟨rfl, q10, hW10⟩
      have hb10 : Below W9.heap.size W9 W10 := by rw [hW10]; exact below_drewN (Below.refl _ _) q10
      have HB10 := Lib.hid (HB6.out.trans ((HB9.out.trans (hb10.mono HB9.out.size)).mono HB6.out.size))
      have HP10 := Lib.hid (HP6.out.below (HB9.out.trans (hb10.mono HB9.out.size)))
      have HTB10 := Lib.hid (HTB6.out.below (HB9.out.trans (hb10.mono HB9.out.size)) HTB6.out.lt)
      have HS10 := Lib.hid (HS6.out.below (HB9.out.trans (hb10.mono HB9.out.size)))
      clear hb10 hW10 HO9 HB9 HP6 HB6 HTB6 HS6 HQ6 HB8 HB7 HP5 HB5 HTB5 HS k5
      have k10 : W10.cell? ⟨tb, 0, none⟩ = some (tQ T) := HTB10.out.at (o := 0) rfl
      go_wp2_with fail
      refine (about_tr HP10.out.tr conn).mono ?_
      rintro e W11 ⟨g11, rfl, hb11, hC⟩
      have HC11 := Lib.hid hC
      clear hC hb11
      go_wp2_with fail
      refine HC11.out.mono ?_
      rintro e W12 ⟨vC, rfl, hO12, hb12⟩
      have HO12 := Lib.hid (show OwnV tEv W12 W10.heap.size vC (K.filter (abtP conn)) from by rw [HK.out]; exact hO12)
      have HB12 := Lib.hid hb12
      clear hO12 hb12 HC11
      go_wp2_with fail
      refine (back_any W12.heap.size vC (K.filter (abtP conn)) W12 (HO12.out.evIn.more (Nat.le_refl _)) (Nat.le_refl _) HFL.out.2).mono ?_
      rintro e W13 ⟨vK2, rfl, hO13, hb13⟩
      have HO13 := Lib.hid hO13
      have HB13 := Lib.hid (HB12.out.trans (hb13.mono HB12.out.size))
      clear hO13 hb13 HO12
      go_wp2_with fail
      refine (equalEv_same W13.heap.size W13.heap.size vK2 u15 (K.filter (abtP conn)) W13 HO13.out.evIn ((HS10.out.below HB13.out).b.evIn) HFL.out.2).mono ?_
      rintro e W14 ⟨rfl, q14, hW14⟩
      have hb14 : Below W13.heap.size W13 W14 := by rw [hW14]; exact below_drewN (Below.refl _ _) q14
      have HB14 := Lib.hid (HB10.out.trans ((HB13.out.trans (hb14.mono HB13.out.size)).mono HB10.out.size))
      have HP14 := Lib.hid (HP10.out.below (HB13.out.trans (hb14.mono HB13.out.size)))
      have HTB14 := Lib.hid (HTB10.out.below (HB13.out.trans (hb14.mono HB13.out.size)) HTB10.out.lt)
      clear hb14 hW14 HO13 HB13 HP10 HB10 HTB10 HS10 HB12 k10
      have k14 : W14.cell? ⟨tb, 0, none⟩ = some (tQ T) := HTB14.out.at (o := 0) rfl
      have hm0 : 0 ≤ r % 9 := by omega
      have hm1 : r % 9 < 9 := by omega
      have htm : r.tmod 9 = r % 9 := by rw [Int.tmod_eq_emod_of_nonneg HR0.out]
      have hw8 : IntKind.u8.wrap (r % 9) = r % 9 := IntWalk.u8_in _ (by omega)
      have hwi : IntKind.i64.wrap (r % 9) = r % 9 := IntWalk.i64_in _ (by omega)
      go_wp2_with fail
      obtain ⟨nb, hnb⟩ : ∃ nb, nb = W14.heap.size := ⟨_, rfl⟩
      obtain ⟨W15, hW15⟩ : ∃ x, x = (W14.alloc (.cells #[.int .i64 0] 3)).alloc (.cells #[.int .i64 (1 + r % 9)] 3) := ⟨_, rfl⟩
      have hb15 : Below W14.heap.size W14 W15 := by rw [hW15]; exact ((Below.refl _ W14).alloc (Nat.le_refl _) _).alloc (by simp) _
      have HP15 := Lib.hid (HP14.out.below hb15)
      have HB15 := Lib.hid (HB14.out.trans (hb15.mono HB14.out.size))
      have HTB15 := Lib.hid (HTB14.out.below hb15 HTB14.out.lt)
      have HN15 := Lib.hid (show Blk W15 nb [.int .i64 0] ∧ Blk W15 (nb + 1) [.int .i64 (1 + r % 9)] from by
        rw [hW15, hnb]
        refine ⟨(Blk.new W14 [.int .i64 0] 3).alloc _, ?_⟩
        have := Blk.new (W14.alloc (.cells #[.int .i64 0] 3)) [.int .i64 (1 + r % 9)] 3
        rw [World.size_alloc] at this
        exact this)
      have HSE := Lib.hid (show tb < nb ∧ base ≤ nb from by rw [hnb]; exact ⟨HTB14.out.lt, by have := HP14.out.tr.geb; have := HP14.out.tr.blk.lt; omega⟩)
      rw [← hW15, ← hnb]
      clear hW15 hb15 hnb HP14 HB14 HTB14 k14
      obtain ⟨XA, XC, eVX, -, -⟩ := HP15.out.xt.own.form
      subst eVX
      refine (known_any HP15.out.xt (by omega)).mono ?_
      rintro e W16 ⟨v16, q16, rfl, hev16, hW16⟩
      have hb16 : Below W15.heap.size W15 W16 := by rw [hW16]; exact below_drewN (Below.refl _ _) q16
      have HP16 := Lib.hid (HP15.out.below hb16)
      have HB16 := Lib.hid (HB15.out.trans (hb16.mono HB15.out.size))
      have HTB16 := Lib.hid (HTB15.out.below hb16 HTB15.out.lt)
      have HN16 := Lib.hid (show Blk W16 nb [.int .i64 0] ∧ Blk W16 (nb + 1) [.int .i64 (1 + r % 9)] from ⟨HN15.out.1.below hb16 HN15.out.1.lt, HN15.out.2.below hb16 HN15.out.2.lt⟩)
      rw [← HK.out] at hev16
      obtain ⟨A16, c16, rfl, -, -, -⟩ := hev16
      have k16 : W16.cell? ⟨tb, 0, none⟩ = some (tQ T) := HTB16.out.at (o := 0) rfl
      clear hW16 hb16 HP15 HB15 HTB15 HN15
      go_wp2_with fail
      refine (trSince (some ⟨T, 0, none⟩) 0 W16).mono ?_
      rintro e W17 ⟨rfl, hW17⟩
      obtain ⟨z, hz⟩ : ∃ z, z = W16.heap.size := ⟨_, rfl⟩
      have hb17 : Below W16.heap.size W16 W17 := by rw [hW17]; unfold thW; exact (((Below.refl _ W16).alloc (Nat.le_refl _) _).alloc (by simp) _).alloc (by simp; omega) _
      have hP17 := HP16.out.below hb17
      have hKF : K.filter (sinP 0) = K := List.filter_eq_self.2 (fun a ha => by
        have h1 := (HP16.out.ok a (by rw [HK.out] at ha; exact List.mem_of_mem_drop ha)).n1
        unfold sinP
        exact decide_eq_true (by omega))
      have hzs : ∀ q ∈ trS T V C, q < nb ∧ q < z := fun q hq => by have h1 := HNT.out.1 q hq; have h2 := HSE.out.1; have h3 := (HP16.out.tr.inS q hq).2; omega
      have hgz : GZ w base T tb bx nb all.length (1 + r % 9) (.slice XA all.length XC) z 0 W17 := by
        have e16 := HN16.out.1.lt
        refine ⟨⟨⟨V, C, _, _, hP17.tr, lastL_len 20 all, fun q hq => ?_⟩, HN16.out.1.below hb17 HN16.out.1.lt, HN16.out.2.below hb17 HN16.out.2.lt, HTB16.out.below hb17 HTB16.out.lt, hP17.xt.blk, HB16.out.trans (hb17.mono HB16.out.size), ⟨by have := HSE.out.1; omega, by have := HSE.out.1; have := HNT.out.2; omega, HSE.out.2, HBS.out⟩⟩, fun q hq => ?_, ?_, ?_, ?_⟩
        · have h1 := hzs q hq; have h2 := HNT.out.1 q hq; exact ⟨by omega, by omega, by omega, (HP16.out.ap q hq).1⟩
        · rw [finS_eq hP17.tr] at hq
          rcases List.mem_cons.1 hq with rfl | hq
          · omega
          · have := hzs q hq; omega
        · rw [hW17, hz]; unfold thW; exact ((Blk.new W16 [.int .u64 0] 22).alloc _).alloc _
        · have := (Blk.new (W16.alloc (.cells #[.int .u64 0] 22)) [.pointer (some ⟨T, 0, none⟩)] 39).alloc (.cells #[sinceF W16.heap.size] 99)
          rw [World.size_alloc] at this
          rw [hW17, hz]; exact this
        · have := Blk.new ((W16.alloc (.cells #[.int .u64 0] 22)).alloc (.cells #[.pointer (some ⟨T, 0, none⟩)] 39)) [sinceF W16.heap.size] 99
          rw [World.size_alloc, World.size_alloc] at this
          rw [hW17, hz]; exact this
      have HGZ := Lib.hid hgz
      have HZB := Lib.hid (show base ≤ W17.heap.size ∧ T < W17.heap.size ∧ z = W16.heap.size from ⟨hP17.tr.size, hP17.tr.blk.lt, hz⟩)
      have HSQ := Lib.hid (thSeq_since (finS_mv nb T (T + 1) (by omega)) (sinP 0) (fun A => A.cell? ⟨z, 0, none⟩ = some (.int .u64 0)) (z + 1) T z V K W17 hP17.tr.blk.lt (fun e A h => sinW z 0 e A h) (hP17.tr.blk.at (o := 1) rfl) (by rw [HK.out]; exact hP17.tr.own.evIn) (by have := HKL.out; omega) (30 - 1) (by omega))
      have HKF := Lib.hid hKF
      rw [← hz]
      clear hgz hKF hzs hP17 hb17 hW17 hz k16 HP16 HB16 HTB16 HN16
      go_wp2_with fail
      refine (wpIn_wide (n := 30)).1 ?_
      refine wpIn_rangeFunc_g rfl (by omega) (gf := 74) (lb := #[.pointer (some ⟨z + 1, 0, none⟩), .pointer (some ⟨z + 1 + 1, 0, none⟩)]) rfl trivial (fun _ _ => rfl) (encs := fun x : EvL => #[evA x]) StV (KpV (finS nb T) (T + 1)) (fun _ pre x _ => pre ++ [x] <+: K.filter (sinP 0)) (fun ys => ys = K.filter (sinP 0))
        (fun A => A.cell? ⟨z + 1, 0, none⟩ = some (.pointer (some ⟨T, 0, none⟩)) ∧ A.cell? ⟨z + 1 + 1, 0, none⟩ = some (.func (Fn.func 50) #[] #[.pointer (some ⟨z, 0, none⟩)]) ∧ A.cell? ⟨z, 0, none⟩ = some (.int .u64 0) ∧ ∀ k ∈ finS nb T A, k < A.heap.size)
        (fun pre A => GZ w base T tb bx nb all.length (1 + r % 9) (.slice XA all.length XC) z pre.length A ∧ (pre.length : Int) < 1 + r % 9) (fun c pre A => c = .exit 2 ∧ GZ w base T tb bx nb all.length (1 + r % 9) (.slice XA all.length XC) z pre.length A ∧ (pre.length : Int) = 1 + r % 9 ∧ pre.length ≤ K.length)
        HSQ.out (fun pre A h => ⟨h.1.z1.at (o := 0) rfl, h.1.z2.at (o := 0) rfl, h.1.z0.at (o := 0) rfl, h.1.g.inS⟩) (fun _ => rfl)
        (fun _ _ _ _ h _ hk => h.block _ hk) (fun _ _ _ h => h.size) (fun _ _ _ h k => h.trans k) (fun _ _ _ _ hl h hc => KpV.put (finS_mv nb T (T + 1) (by omega)) (by have := HZB.out; omega) h hc)
        (fun pre A B h hst => ⟨h.1.below hst, h.2⟩) (fun _ pre A B h hst => ⟨h.1, h.2.1.below hst, h.2.2⟩)
        (fun pre A l o o' h hl ho hc => ⟨h.1.put (by have := HZB.out; omega) (by have := HZB.out; omega) ho hc, h.2⟩) (fun _ pre A l o o' h hl ho hc => ⟨h.1, h.2.1.put (by have := HZB.out; omega) (by have := HZB.out; omega) ho hc, h.2.2⟩)
        (fun _ _ _ _ _ _ _ h _ _ _ => h)
        (fun W' hb hs => ⟨HGZ.out.below hb, by show (0 : Int) < 1 + r % 9; omega⟩)
        (fun x a' => a' = { tmps := #[vl, str one, str two, .int .i64 conn, .int .u8 r, undef, undef, undef, undef, undef, .bool false, .pointer (some ⟨tb, 0, none⟩), tQ bx, .bool true, u14, u15, undef, u17, .pointer (some ⟨nb, 0, none⟩), .pointer (some ⟨nb + 1, 0, none⟩), .int .i64 (K.length : Int), .bool true, .bool false, .tuple #[tQ T, tQ bx, .bool true], vl, .tuple #[tQ T, tQ bx, .bool true], tQ T, tQ bx, .bool true, .bool true, .bool false, tQ bx, .slice AK K.length cK, .int .i64 (K.length : Int), .int .i64 (K.length : Int), .bool false, u36, u37, u38, u39, u40, u41, u42, u43, u44, u45, u46, u47, u48, u49, u50, u51, u52, u53, u54, u55, u56, u57, u58, u59, u60, tQ T, str one, str two, .slice (some ⟨wr.heap.size, 0, none⟩) 2 2, thV g7, vC1, vK, u14, .bool true, .bool false, .bool false, tQ T, .int .i64 conn, thV g11, vC, vK2, u15, .bool true, .bool false, .bool false, .int .u8 r, .int .u8 (r % 9), .int .i64 (r % 9), .int .i64 (1 + r % 9), tQ bx, .slice A16 K.length c16, .int .i64 (K.length : Int), tQ T, thV (z + 1), evA x, undef, undef, undef, undef, undef, undef, undef, undef, undef, undef, undef, undef, undef, undef, undef, undef, undef, undef, undef, undef, undef, undef, undef, undef, undef], defers := [] })
        ?assign ?body ?done ?stop
      case assign =>
        rintro k x A K9 hK
        have HK9 := Lib.hid hK; clear hK
        gi_wp2
        exact HK9.out _ rfl
      case stop =>
        rintro D c pre A hD hz' ⟨rfl, hgl, hm1, hm2⟩ hK
        obtain ⟨m, hm⟩ : ∃ m, m = pre.length := ⟨_, rfl⟩
        rw [← hm] at hgl hm1 hm2
        clear hm
        have hmin : min (1 + r % 9) (K.length : Int) = (m : Int) := by omega
        have cn := hgl.g.bn.at (o := 0) rfl
        have ck := hgl.g.bk.at (o := 0) rfl
        have ct := hgl.g.bt.at (o := 0) rfl
        have cx := hgl.g.fx.at (o := 1) rfl
        obtain ⟨V9, C9, L9, ch9, hT9, -, -⟩ := hgl.g.tr
        have HLA := Lib.hid (fun n => trLast_any (hT9.below (below_drewN (Below.refl A.heap.size A) n)))
        have hm40 : m ≤ 20 := by have := HKL.out; omega
        have hal40 : all.length ≤ 40 := HAL.out
        have hwl : IntKind.u64.wrap ((all.length : Int) + (m : Int)) = ((all.length + m : Nat) : Int) := by rw [IntWalk.u64_in _ (by omega)]; omega
        have HGL := Lib.hid hgl
        have HKD := Lib.hid hK
        clear hgl hT9 hK
        refine wpIn_wide.2 ?_
        go_wp2_with fail
        go_quiet (first | (go_at_call 20; with_reducible exact Calls.quiet_of_same (HLA.out _)))
        go_wp2_with fail
        refine ⟨by simp, .inl ⟨_, _, rfl, run_takeDeferred (show (A.drewN nq).heap[D]? = some (.deferred (some [])) from HKD.out), ?_⟩⟩
        exact ⟨_, results_tmp (t := 10) rfl _ _ _, rfl, below_putObj (below_drewN HGL.out.g.low nq) (by have := HGL.out.g.low.size; exact this) (by have := HBS.out; have := HZB.out; omega)⟩
      case done =>
        rintro D ys A hD hz' rfl ⟨hgl, hm1⟩ hK
        rw [HKF.out] at hgl hm1
        obtain ⟨m, hm⟩ : ∃ m, m = K.length := ⟨_, rfl⟩
        rw [← hm] at hgl hm1
        have hm2 : m ≤ K.length := by omega
        have hmin : min (1 + r % 9) (K.length : Int) = (m : Int) := by omega
        have cn := hgl.g.bn.at (o := 0) rfl
        have ck := hgl.g.bk.at (o := 0) rfl
        have ct := hgl.g.bt.at (o := 0) rfl
        have cx := hgl.g.fx.at (o := 1) rfl
        obtain ⟨V9, C9, L9, ch9, hT9, -, -⟩ := hgl.g.tr
        have HLA := Lib.hid (fun n => trLast_any (hT9.below (below_drewN (Below.refl A.heap.size A) n)))
        have hm40 : m ≤ 20 := by have := HKL.out; omega
        have hal40 : all.length ≤ 40 := HAL.out
        have hwl : IntKind.u64.wrap ((all.length : Int) + (m : Int)) = ((all.length + m : Nat) : Int) := by rw [IntWalk.u64_in _ (by omega)]; omega
        have HGL := Lib.hid hgl
        have HKD := Lib.hid hK
        clear hgl hT9 hK
        go_wp2_with fail
        go_quiet (first | (go_at_call 20; with_reducible exact Calls.quiet_of_same (HLA.out _)))
        go_wp2_with fail
        refine ⟨by simp, .inl ⟨_, _, rfl, run_takeDeferred (show (A.drewN nq).heap[D]? = some (.deferred (some [])) from HKD.out), ?_⟩⟩
        exact ⟨_, results_tmp (t := 10) rfl _ _ _, rfl, below_putObj (below_drewN HGL.out.g.low nq) (by have := HGL.out.g.low.size; exact this) (by have := HBS.out; have := HZB.out; omega)⟩
      case body =>
        rintro lp bb pre x a' A hbb hbz ⟨hgl, hlm⟩ hpre rfl
        obtain ⟨k, hk⟩ : ∃ k, k = pre.length := ⟨_, rfl⟩
        have HLS := Lib.hid (show (pre ++ [x]).length = k + 1 from by rw [List.length_append, hk]; rfl)
        have hkl : k + 1 ≤ K.length := by have := hpre.length_le; rw [HKF.out, HLS.out] at this; exact this
        rw [← hk] at hgl hlm
        have HG := Lib.hid hgl
        have HPRE := Lib.hid hk
        have c1 := hgl.g.bt.at (o := 0) rfl
        clear hgl hpre hk
        gi_wp2
        have hk20 : k ≤ 19 := by have := HKL.out; omega
        refine ⟨trivial, CallsIn.inRound _ ((callsIn_wide.2 (HG.out.g.add (by have := HAL.out; omega) (T + 1) W17.heap.size)).mono ?_)⟩
        rintro e A2 ⟨⟨n2, f2, rfl⟩, c2, fz2, hg2, hkp, hkf⟩
        have HG2 := Lib.hid hg2
        have HKP := Lib.hid hkp
        have HKFr := Lib.hid hkf
        have cn4 := hg2.bn.at (o := 0) rfl
        have cm4 := hg2.bk.at (o := 0) rfl
        rw [Int.natCast_succ] at cn4
        have HZ2 := Lib.hid (HG.out.kp hg2 hkp)
        clear hg2 hkp hkf c1
        by_cases hend : (k : Int) + 1 = 1 + r % 9
        · rw [hend] at cn4 cm4 HG2 HZ2 HKP HKFr
          gi_wp2
          exact ⟨HKFr.out, rfl, by rw [HLS.out]; exact HZ2.out, by rw [HLS.out]; omega, by rw [HLS.out]; omega⟩
        · have hbe : ((k : Int) + 1 == 1 + r % 9) = false := beq_eq_false_iff_ne.2 hend
          gi_wp2
          exact ⟨HKFr.out, HKP.out, by rw [HLS.out]; exact HZ2.out, by rw [HLS.out]; omega⟩
theorem traceFinds_w (B : Nat) (v0 : Value) (l0 : List OpT) (l1 l2 : List UInt8) (n3 n4 : Int) (w : World) (h0 : OpsT w B v0 l0) (_h1 : l1.length ≤ 9223372036854775807) (_h2 : l2.length ≤ 9223372036854775807) (_h3 : (Lit.int .i64 n3).wf = true) (h4 : (Lit.int .u8 n4).wf = true) (hB : B ≤ w.heap.size) (hT : TabA w) (hE : PowE w) :
    Calls Tryz.prog 5 #[v0, str l1, str l2, .int .i64 n3, .int .u8 n4] w fun e w' => e = .returned (.bool true) ∧ Below w.heap.size w w' := by
  have h5 : 0 ≤ n4 ∧ n4 ≤ 255 := by
    simp [Lit.wf, IntKind.min, IntKind.max, IntKind.bits, IntKind.signed] at h4
    omega
  exact traceFinds_law B v0 l0 l1 l2 n3 n4 h5.1 h5.2 w h0 hB hT hE
end Go.Proofs.YtockimgedckheaaGreatDoor
