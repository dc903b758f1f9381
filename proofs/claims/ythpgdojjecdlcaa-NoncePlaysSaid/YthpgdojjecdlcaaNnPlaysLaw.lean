/- The statement NoncePlays' own text, walked. NoncePlays, its arguments as a row hands them. -/
import Derived.Test.YthpgdojjecdlcaaNnTwo
import Derived.Deep.DeepCutAuto
import Derived.Deep.CutBlock
set_option maxRecDepth 100000
namespace Go.Proofs.Ythpgdojjecdlcaa
open Go.RowKit Go.Shelf
/-- The law's pair at Q: two in step, or two that are nil. -/
def Play (B0 Q : Nat) (N : Int) (j : Nat) (w : World) : Prop :=
  B0 ≤ Q ∧ ((∃ S T m K X f l GS v, K ≤ 64 ∧ PP w B0 S T m K X Q f l GS N v j) ∨ BlkT w Q tPr [tN, tN, .slice none 0 0, u64v N])
section
variable {w w' : World} {B0 Q : Nat} {N : Int} {j : Nat}
theorem Play.keep (h : Play B0 Q N j w) (hb : Below w.heap.size w w') : Play B0 Q N j w' := by
  obtain ⟨h0, ⟨S, T, m, K, X, f, l, GS, v, hk, h⟩ | h⟩ := h
  · exact ⟨h0, .inl ⟨S, T, m, K, X, f, l, GS, v, hk, h.keep hb⟩⟩
  · exact ⟨h0, .inr (h.below hb h.lt)⟩
theorem Play.b0 (h : Play B0 Q N j w) : B0 ≤ w.heap.size := by
  obtain ⟨h0, ⟨S, T, m, K, X, f, l, GS, v, hk, h⟩ | h⟩ := h
  · exact h.dn.b0
  · have := h.lt; omega
theorem Play.do (h : Play B0 Q N j w) (hj : j ≤ 100) (hN0 : 0 ≤ N) (hN1 : N ≤ 1000000) (od : Int) (ox : List UInt8) (owh : Int) (oow : Bool) (oc ot obk : Int) (hok : OpN.ok ⟨od, ox, owh, oow, oc, ot, obk⟩) :
    Calls Try.prog 10 #[tP Q, .agg #[.int .u8 od, strT ox, .int .u8 owh, .bool oow, .int .u32 oc, .int .u32 ot, .int .u8 obk]] w fun e w' => e = .returned (.bool true) ∧ Play B0 Q (N + ot % 100) (j + 1) w' ∧ Below B0 w w' := by
  obtain ⟨h0, ⟨S, T, m, K, X, f, l, GS, v, hk, h⟩ | h⟩ := h
  · refine (do_any h hj hN0 hN1 od ox owh oow oc ot obk hok).mono ?_
    rintro e w' ⟨rfl, f', l', GS', v', hp, hb⟩
    exact ⟨rfl, ⟨h0, .inl ⟨S, T, m, K, X, f', l', GS', v', hk, hp⟩⟩, hb⟩
  · refine (do_nil h h0 hN0 hN1 od ox owh oow oc ot obk hok).mono ?_
    rintro e w' ⟨rfl, hq, hb⟩
    exact ⟨rfl, ⟨h0, .inr hq⟩, hb⟩
theorem Play.same (h : Play B0 Q N j w) : Calls Try.prog 11 #[tP Q] w fun e w' => e = .returned (.bool true) ∧ Below w.heap.size w w' := by
  obtain ⟨h0, ⟨S, T, m, K, X, f, l, GS, v, hk, h⟩ | h⟩ := h
  · exact same_pp h hk
  · exact same_nil h
theorem LI.begin (wd : Int) (K : Nat) (h1 : 1 ≤ K) (h2 : K ≤ 4096) (h3 : 0 ≤ wd) : LI ⟨wd, 0, 0, 0, false⟩ [] K 0 0 :=
  ⟨⟨by simp, fun q h => by simp at h, fun q h => by simp at h⟩, ⟨h3, fun _ => rfl, by simp, h1, h2, Int.le_refl _, by show (0 : Int) + 1 < _; omega, Int.le_refl _⟩, fun q h => by simp at h, by simp, fun q h => by simp at h⟩
/-- The pair that was built behind New, neither of them nil. -/
theorem Play.start {w2 W : World} {b K S T m : Nat} {wd : Int} (hK : 1 ≤ K) (hK2 : K ≤ 64) (hwd : 0 ≤ wd) (hn : NS w2 b S T m K ⟨wd, 0, 0, 0, false⟩ [])
    (hX : W = (w2.alloc (.cells #[.int .i64 (K : Int), u64v wd, .slice none 0 0, u64v 0, u64v 0, u64v 0, .bool false] tX)).alloc (.cells #[tP S, tP w2.heap.size, .slice none 0 0, u64v 0] tPr)) :
    Play b (w2.heap.size + 1) 0 0 W ∧ Below w2.heap.size w2 W := by
  have hBW : Below w2.heap.size w2 W := by rw [hX]; exact ((Below.refl _ w2).alloc (Nat.le_refl _) _).alloc (by simp) _
  have hx : BlkT W w2.heap.size tX (rxC K ⟨wd, 0, 0, 0, false⟩ (.slice none 0 0)) := by rw [hX]; exact BlkT.alloc (heap_alloc_new w2 _) _
  have hq : BlkT W (w2.heap.size + 1) tPr [tP S, tP w2.heap.size, .slice none 0 0, u64v 0] := by
    rw [hX]
    have := heap_alloc_new (w2.alloc (.cells #[.int .i64 (K : Int), u64v wd, .slice none 0 0, u64v 0, u64v 0, u64v 0, .bool false] tX)) (.cells #[tP S, tP w2.heap.size, .slice none 0 0, u64v 0] tPr)
    rwa [World.size_alloc] at this
  have hbb := hn.tb.base_le
  exact ⟨⟨by omega, .inl ⟨S, T, m, K, w2.heap.size, _, _, _, _, hK2, ⟨⟨hn.keep hBW, ⟨_, hx, ER.nil _ _⟩, hbb⟩, LI.begin wd K hK (by omega) hwd, hq, OwnT.nil _ _, fun n h => by simp at h, by simp, by omega⟩⟩⟩, hBW⟩
/-- The same where both were made nil. -/
theorem Play.nil {w2 W : World} {o : Obj} (hX : W = (w2.alloc o).alloc (.cells #[tN, tN, .slice none 0 0, u64v 0] tPr)) : Play w2.heap.size (w2.heap.size + 1) 0 0 W ∧ Below w2.heap.size w2 W := by
  have hq : BlkT W (w2.heap.size + 1) tPr [tN, tN, .slice none 0 0, u64v 0] := by
    rw [hX]
    have := heap_alloc_new (w2.alloc o) (.cells #[tN, tN, .slice none 0 0, u64v 0] tPr)
    rwa [World.size_alloc] at this
  exact ⟨⟨by omega, .inr hq⟩, by rw [hX]; exact ((Below.refl _ w2).alloc (Nat.le_refl _) _).alloc (by simp) _⟩
end
/-- What New answers. -/
def NewP (r wd : Int) (b : Nat) (sv : Value) (ev : Int) (w' : World) : Prop :=
  (rightB r wd = false ∧ sv = tN ∧ ev = 1) ∨ (rightB r wd = true ∧ ev = 0 ∧ ∃ (K : Nat) (S T m : Nat), r = (K : Int) ∧ 1 ≤ K ∧ K ≤ 64 ∧ sv = tP S ∧ NS w' b S T m K ⟨wd, 0, 0, 0, false⟩ [])
theorem new_all (r wd : Int) (w : World) (w0 : 0 ≤ wd) :
    Calls Try.prog 8 #[.agg #[.int .i64 r, .int .u64 wd]] w fun e w' => ∃ sv ev, e = .returned (.tuple #[sv, .int .i64 ev]) ∧ NewP r wd w.heap.size sv ev w' ∧ Below w.heap.size w w' := by
  cases hrb : rightB r wd with
  | false =>
    refine (new_ns_bad r wd w hrb w0).mono ?_
    rintro e w2 ⟨rfl, hb2⟩
    exact ⟨_, _, rfl, .inl ⟨hrb, rfl, rfl⟩, hb2⟩
  | true =>
    obtain ⟨K, rfl⟩ : ∃ K : Nat, r = (K : Int) := ⟨r.toNat, by unfold rightB at hrb; rw [decide_eq_true_eq] at hrb; omega⟩
    have hk : 1 ≤ K ∧ K ≤ 64 ∧ 1 ≤ wd ∧ wd ≤ 1099511627776 := by unfold rightB at hrb; rw [decide_eq_true_eq] at hrb; omega
    refine (new_ns K wd w hk.1 hk.2.1 hk.2.2.1 hk.2.2.2).mono ?_
    rintro e w2 ⟨S, T, m, rfl, h2, hb2⟩
    exact ⟨_, _, rfl, .inr ⟨hrb, rfl, K, S, T, m, rfl, hk.1, hk.2.1, rfl, h2⟩, hb2⟩
set_option maxHeartbeats 8000000 in
theorem noncePlays_law (none_ : Bool) (r wd : Int) (B : Nat) (v : Value) (ls : List OpN) (w : World) (hr1 : -9223372036854775808 ≤ r ∧ r ≤ 9223372036854775807) (hw1 : 0 ≤ wd ∧ wd ≤ 18446744073709551615) (hv : NOps w B v ls) (hB : B ≤ w.heap.size) :
    Calls Try.prog 3 #[.bool none_, .int .i64 r, .int .u64 wd, v] w fun e w' => e = .returned (.bool true) ∧ Below w.heap.size w w' := by
  have HV := Lib.hid hv
  obtain ⟨A, c, rfl, hc1, hc2, _⟩ := hv
  have HAW := Lib.hid (fun w => awake12 w)
  go_enter Try.func3, Try.ntmps3
  go_wp2_with fail
  refine (HAW.out w).mono ?_
  rintro e w1 ⟨rfl, hB1⟩
  have HB1 := Lib.hid hB1; clear hB1
  have HRT := Lib.hid (fun W => right_any r wd W)
  go_wp2_with fail
  refine (new_all r wd w1 hw1.1).mono ?_
  rintro e w2 ⟨sv, ev, rfl, hnp, hb2⟩
  have HNP := Lib.hid hnp
  have HB2 := Lib.hid (HB1.out.trans (hb2.mono HB1.out.size))
  have HB12 := Lib.hid hb2
  clear hnp hb2
  go_wp2_with fail
  refine (HRT.out _).mono ?_
  rintro e w3 ⟨rfl, hw3⟩
  subst hw3
  clear HRT HAW
  rcases HNP.out with ⟨hr, rfl, rfl⟩ | ⟨hr, rfl, K, S, T, m, rfl, hK1, hK2, rfl, hns⟩
  · rw [hr]
    clear HNP hr
    cases none_
    all_goals
      go_wp2_with fail
      obtain ⟨W, hW⟩ : ∃ W, W = (w2.alloc (.cells #[.int .i64 r, u64v wd, .slice none 0 0, u64v 0, u64v 0, u64v 0, .bool false] tX)).alloc (.cells #[tN, tN, .slice none 0 0, u64v 0] tPr) := ⟨_, rfl⟩
      have HST : Hid (∃ B0, w.heap.size ≤ B0 ∧ Play B0 (w2.heap.size + 1) 0 0 W ∧ Below w.heap.size w W) := Lib.hid ⟨_, HB2.out.size, (Play.nil hW).1, HB2.out.trans ((Play.nil hW).2.mono HB2.out.size)⟩
      obtain ⟨B0, hB0, hPL⟩ := HST.out
      obtain ⟨hPL, hL⟩ := hPL
      rw [← hW]
      obtain ⟨Q, hQ⟩ : ∃ Q, Q = w2.heap.size + 1 := ⟨_, rfl⟩
      rw [← hQ] at hPL ⊢
      have HP0 := Lib.hid hPL
      have HL0 := Lib.hid hL
      have HWB := Lib.hid hB0
      clear hPL hL hB0 hQ hW HST
      go_loopw [65] (fun i wr => ∃ (j : Nat) (N : Int), i = .int .i64 (j : Int) ∧ j ≤ ls.length ∧ j ≤ 50 ∧ 0 ≤ N ∧ N ≤ 99 * (j : Int) ∧ Play B0 Q N j wr ∧ Below w.heap.size w wr) (fun i _ => ls.length - (intOf i).toNat)
      case atStart => exact ⟨0, 0, rfl, by omega, by omega, by omega, by omega, HP0.out, HL0.out⟩
      case round =>
        clear HP0 HL0
        obtain ⟨j, N, rfl, hjl, hj50, hN0, hN1, hPL, hL⟩ := hrel
        have HPL := Lib.hid hPL
        have HL := Lib.hid hL
        by_cases hlt : j < ls.length
        · obtain ⟨b, o, rfl, hb, hcell, hok⟩ : ∃ b o, A = some ⟨b, o, none⟩ ∧ b < B ∧ (∀ k v, (opC ls[j])[k]? = some v → w.cell? ⟨b, o + j * 7 + k, none⟩ = some v) ∧ ls[j].ok := by
            obtain ⟨A', c', e, _, _, h3⟩ := HV.out
            obtain ⟨b, o, rfl, hb, hbs⟩ := h3 (by omega)
            cases e
            exact ⟨b, o, rfl, hb, (hbs j hlt).1, (hbs j hlt).2⟩
          obtain ⟨⟨od, ox, owh, oow, oc, ot, obk⟩, hop⟩ : ∃ q, q = ls[j] := ⟨_, rfl⟩
          rw [← hop] at hcell hok
          clear hop
          have hcw : ∀ k v, (opC ⟨od, ox, owh, oow, oc, ot, obk⟩)[k]? = some v → wr.cell? ⟨b, o + j * 7 + k, none⟩ = some v := fun k v hk => (hL.cell (p := ⟨b, o + j * 7 + k, none⟩) (by show b < w.heap.size; omega)).trans (hcell k v hk)
          have c0 : wr.cell? ⟨b, o + j * 7, none⟩ = some (.int .u8 od) := hcw 0 _ rfl
          have c1 : wr.cell? ⟨b, o + j * 7 + 1, none⟩ = some (strT ox) := hcw 1 _ rfl
          have c2 : wr.cell? ⟨b, o + j * 7 + 2, none⟩ = some (.int .u8 owh) := hcw 2 _ rfl
          have c3 : wr.cell? ⟨b, o + j * 7 + 3, none⟩ = some (.bool oow) := hcw 3 _ rfl
          have c4 : wr.cell? ⟨b, o + j * 7 + 4, none⟩ = some (.int .u32 oc) := hcw 4 _ rfl
          have c5 : wr.cell? ⟨b, o + j * 7 + 5, none⟩ = some (.int .u32 ot) := hcw 5 _ rfl
          have c6 : wr.cell? ⟨b, o + j * 7 + 6, none⟩ = some (.int .u8 obk) := hcw 6 _ rfl
          have HOK := Lib.hid hok
          have hot := hok.t
          simp only at hot
          clear hcw hcell hok hPL hL hb
          by_cases h50 : j < 50
          · obtain ⟨W5, hW5⟩ : ∃ W5, W5 = wr.alloc (.cells #[.int .u8 od, strT ox, .int .u8 owh, .bool oow, .int .u32 oc, .int .u32 ot, .int .u8 obk] tOp) := ⟨_, rfl⟩
            have hBW : Below wr.heap.size wr W5 := by rw [hW5]; exact (Below.refl _ wr).alloc (Nat.le_refl _) _
            have hP : BlkT W5 wr.heap.size tOp [.int .u8 od, strT ox, .int .u8 owh, .bool oow, .int .u32 oc, .int .u32 ot, .int .u8 obk] := by rw [hW5]; exact heap_alloc_new wr _
            have HPW := Lib.hid (HPL.out.keep hBW)
            have HLW := Lib.hid (HL.out.trans (hBW.mono HL.out.size))
            clear hBW HPL HL hP
            go_wp2_with fail
            rw [← hW5]
            refine (HPW.out.do (by omega) hN0 (by omega) od ox owh oow oc ot obk HOK.out).mono ?_
            rintro e w5 ⟨rfl, hpl, hbl⟩
            have HP5 := Lib.hid hpl
            have HL5 := Lib.hid (HLW.out.trans (hbl.mono HWB.out))
            clear hpl hbl HPW HLW hW5 c0 c1 c2 c3 c4 c5 c6
            go_wp2_with fail
            refine HP5.out.same.mono ?_
            rintro e w6 ⟨rfl, hb6⟩
            have HP6 := Lib.hid (HP5.out.keep hb6)
            have HL6 := Lib.hid (HL5.out.trans (hb6.mono HL5.out.size))
            clear hb6 HP5 HL5
            go_wp2_with fail
            go_roundw
            case rel => exact ⟨j + 1, N + ot % 100, by go_num, by omega, by omega, by omega, by omega, HP6.out, HL6.out⟩
            case measure => simp [intOf]; omega
          · go_wp2_with fail
            go_ret
            exact ⟨rfl, HL.out.alloc HL.out.size _⟩
        · go_wp2_with fail
          go_ret
          exact ⟨rfl, hL⟩
  · rw [hr]
    have HNS := Lib.hid hns
    clear HNP hr hns
    cases none_
    · go_wp2_with fail
      obtain ⟨W, hW⟩ : ∃ W, W = (w2.alloc (.cells #[.int .i64 (K : Int), u64v wd, .slice none 0 0, u64v 0, u64v 0, u64v 0, .bool false] tX)).alloc (.cells #[tP S, tP w2.heap.size, .slice none 0 0, u64v 0] tPr) := ⟨_, rfl⟩
      have HST : Hid (∃ B0, w.heap.size ≤ B0 ∧ Play B0 (w2.heap.size + 1) 0 0 W ∧ Below w.heap.size w W) := Lib.hid ⟨_, HB1.out.size, (Play.start hK1 hK2 hw1.1 HNS.out hW).1, HB2.out.trans ((Play.start hK1 hK2 hw1.1 HNS.out hW).2.mono HB2.out.size)⟩
      obtain ⟨B0, hB0, hPL⟩ := HST.out
      obtain ⟨hPL, hL⟩ := hPL
      rw [← hW]
      obtain ⟨Q, hQ⟩ : ∃ Q, Q = w2.heap.size + 1 := ⟨_, rfl⟩
      rw [← hQ] at hPL ⊢
      have HP0 := Lib.hid hPL
      have HL0 := Lib.hid hL
      have HWB := Lib.hid hB0
      clear hPL hL hB0 hQ hW HST
      go_loopw [65] (fun i wr => ∃ (j : Nat) (N : Int), i = .int .i64 (j : Int) ∧ j ≤ ls.length ∧ j ≤ 50 ∧ 0 ≤ N ∧ N ≤ 99 * (j : Int) ∧ Play B0 Q N j wr ∧ Below w.heap.size w wr) (fun i _ => ls.length - (intOf i).toNat)
      case atStart => exact ⟨0, 0, rfl, by omega, by omega, by omega, by omega, HP0.out, HL0.out⟩
      case round =>
        clear HP0 HL0
        obtain ⟨j, N, rfl, hjl, hj50, hN0, hN1, hPL, hL⟩ := hrel
        have HPL := Lib.hid hPL
        have HL := Lib.hid hL
        by_cases hlt : j < ls.length
        · obtain ⟨b, o, rfl, hb, hcell, hok⟩ : ∃ b o, A = some ⟨b, o, none⟩ ∧ b < B ∧ (∀ k v, (opC ls[j])[k]? = some v → w.cell? ⟨b, o + j * 7 + k, none⟩ = some v) ∧ ls[j].ok := by
            obtain ⟨A', c', e, _, _, h3⟩ := HV.out
            obtain ⟨b, o, rfl, hb, hbs⟩ := h3 (by omega)
            cases e
            exact ⟨b, o, rfl, hb, (hbs j hlt).1, (hbs j hlt).2⟩
          obtain ⟨⟨od, ox, owh, oow, oc, ot, obk⟩, hop⟩ : ∃ q, q = ls[j] := ⟨_, rfl⟩
          rw [← hop] at hcell hok
          clear hop
          have hcw : ∀ k v, (opC ⟨od, ox, owh, oow, oc, ot, obk⟩)[k]? = some v → wr.cell? ⟨b, o + j * 7 + k, none⟩ = some v := fun k v hk => (hL.cell (p := ⟨b, o + j * 7 + k, none⟩) (by show b < w.heap.size; omega)).trans (hcell k v hk)
          have c0 : wr.cell? ⟨b, o + j * 7, none⟩ = some (.int .u8 od) := hcw 0 _ rfl
          have c1 : wr.cell? ⟨b, o + j * 7 + 1, none⟩ = some (strT ox) := hcw 1 _ rfl
          have c2 : wr.cell? ⟨b, o + j * 7 + 2, none⟩ = some (.int .u8 owh) := hcw 2 _ rfl
          have c3 : wr.cell? ⟨b, o + j * 7 + 3, none⟩ = some (.bool oow) := hcw 3 _ rfl
          have c4 : wr.cell? ⟨b, o + j * 7 + 4, none⟩ = some (.int .u32 oc) := hcw 4 _ rfl
          have c5 : wr.cell? ⟨b, o + j * 7 + 5, none⟩ = some (.int .u32 ot) := hcw 5 _ rfl
          have c6 : wr.cell? ⟨b, o + j * 7 + 6, none⟩ = some (.int .u8 obk) := hcw 6 _ rfl
          have HOK := Lib.hid hok
          have hot := hok.t
          simp only at hot
          clear hcw hcell hok hPL hL hb
          by_cases h50 : j < 50
          · obtain ⟨W5, hW5⟩ : ∃ W5, W5 = wr.alloc (.cells #[.int .u8 od, strT ox, .int .u8 owh, .bool oow, .int .u32 oc, .int .u32 ot, .int .u8 obk] tOp) := ⟨_, rfl⟩
            have hBW : Below wr.heap.size wr W5 := by rw [hW5]; exact (Below.refl _ wr).alloc (Nat.le_refl _) _
            have hP : BlkT W5 wr.heap.size tOp [.int .u8 od, strT ox, .int .u8 owh, .bool oow, .int .u32 oc, .int .u32 ot, .int .u8 obk] := by rw [hW5]; exact heap_alloc_new wr _
            have HPW := Lib.hid (HPL.out.keep hBW)
            have HLW := Lib.hid (HL.out.trans (hBW.mono HL.out.size))
            clear hBW HPL HL hP
            go_wp2_with fail
            rw [← hW5]
            refine (HPW.out.do (by omega) hN0 (by omega) od ox owh oow oc ot obk HOK.out).mono ?_
            rintro e w5 ⟨rfl, hpl, hbl⟩
            have HP5 := Lib.hid hpl
            have HL5 := Lib.hid (HLW.out.trans (hbl.mono HWB.out))
            clear hpl hbl HPW HLW hW5 c0 c1 c2 c3 c4 c5 c6
            go_wp2_with fail
            refine HP5.out.same.mono ?_
            rintro e w6 ⟨rfl, hb6⟩
            have HP6 := Lib.hid (HP5.out.keep hb6)
            have HL6 := Lib.hid (HL5.out.trans (hb6.mono HL5.out.size))
            clear hb6 HP5 HL5
            go_wp2_with fail
            go_roundw
            case rel => exact ⟨j + 1, N + ot % 100, by go_num, by omega, by omega, by omega, by omega, HP6.out, HL6.out⟩
            case measure => simp [intOf]; omega
          · go_wp2_with fail
            go_ret
            exact ⟨rfl, HL.out.alloc HL.out.size _⟩
        · go_wp2_with fail
          go_ret
          exact ⟨rfl, hL⟩
    · go_wp2_with fail
      obtain ⟨W, hW⟩ : ∃ W, W = (w2.alloc (.cells #[.int .i64 (K : Int), u64v wd, .slice none 0 0, u64v 0, u64v 0, u64v 0, .bool false] tX)).alloc (.cells #[tN, tN, .slice none 0 0, u64v 0] tPr) := ⟨_, rfl⟩
      have HST : Hid (∃ B0, w.heap.size ≤ B0 ∧ Play B0 (w2.heap.size + 1) 0 0 W ∧ Below w.heap.size w W) := Lib.hid ⟨_, HB2.out.size, (Play.nil hW).1, HB2.out.trans ((Play.nil hW).2.mono HB2.out.size)⟩
      obtain ⟨B0, hB0, hPL⟩ := HST.out
      obtain ⟨hPL, hL⟩ := hPL
      rw [← hW]
      obtain ⟨Q, hQ⟩ : ∃ Q, Q = w2.heap.size + 1 := ⟨_, rfl⟩
      rw [← hQ] at hPL ⊢
      have HP0 := Lib.hid hPL
      have HL0 := Lib.hid hL
      have HWB := Lib.hid hB0
      clear hPL hL hB0 hQ hW HST
      go_loopw [65] (fun i wr => ∃ (j : Nat) (N : Int), i = .int .i64 (j : Int) ∧ j ≤ ls.length ∧ j ≤ 50 ∧ 0 ≤ N ∧ N ≤ 99 * (j : Int) ∧ Play B0 Q N j wr ∧ Below w.heap.size w wr) (fun i _ => ls.length - (intOf i).toNat)
      case atStart => exact ⟨0, 0, rfl, by omega, by omega, by omega, by omega, HP0.out, HL0.out⟩
      case round =>
        clear HP0 HL0
        obtain ⟨j, N, rfl, hjl, hj50, hN0, hN1, hPL, hL⟩ := hrel
        have HPL := Lib.hid hPL
        have HL := Lib.hid hL
        by_cases hlt : j < ls.length
        · obtain ⟨b, o, rfl, hb, hcell, hok⟩ : ∃ b o, A = some ⟨b, o, none⟩ ∧ b < B ∧ (∀ k v, (opC ls[j])[k]? = some v → w.cell? ⟨b, o + j * 7 + k, none⟩ = some v) ∧ ls[j].ok := by
            obtain ⟨A', c', e, _, _, h3⟩ := HV.out
            obtain ⟨b, o, rfl, hb, hbs⟩ := h3 (by omega)
            cases e
            exact ⟨b, o, rfl, hb, (hbs j hlt).1, (hbs j hlt).2⟩
          obtain ⟨⟨od, ox, owh, oow, oc, ot, obk⟩, hop⟩ : ∃ q, q = ls[j] := ⟨_, rfl⟩
          rw [← hop] at hcell hok
          clear hop
          have hcw : ∀ k v, (opC ⟨od, ox, owh, oow, oc, ot, obk⟩)[k]? = some v → wr.cell? ⟨b, o + j * 7 + k, none⟩ = some v := fun k v hk => (hL.cell (p := ⟨b, o + j * 7 + k, none⟩) (by show b < w.heap.size; omega)).trans (hcell k v hk)
          have c0 : wr.cell? ⟨b, o + j * 7, none⟩ = some (.int .u8 od) := hcw 0 _ rfl
          have c1 : wr.cell? ⟨b, o + j * 7 + 1, none⟩ = some (strT ox) := hcw 1 _ rfl
          have c2 : wr.cell? ⟨b, o + j * 7 + 2, none⟩ = some (.int .u8 owh) := hcw 2 _ rfl
          have c3 : wr.cell? ⟨b, o + j * 7 + 3, none⟩ = some (.bool oow) := hcw 3 _ rfl
          have c4 : wr.cell? ⟨b, o + j * 7 + 4, none⟩ = some (.int .u32 oc) := hcw 4 _ rfl
          have c5 : wr.cell? ⟨b, o + j * 7 + 5, none⟩ = some (.int .u32 ot) := hcw 5 _ rfl
          have c6 : wr.cell? ⟨b, o + j * 7 + 6, none⟩ = some (.int .u8 obk) := hcw 6 _ rfl
          have HOK := Lib.hid hok
          have hot := hok.t
          simp only at hot
          clear hcw hcell hok hPL hL hb
          by_cases h50 : j < 50
          · obtain ⟨W5, hW5⟩ : ∃ W5, W5 = wr.alloc (.cells #[.int .u8 od, strT ox, .int .u8 owh, .bool oow, .int .u32 oc, .int .u32 ot, .int .u8 obk] tOp) := ⟨_, rfl⟩
            have hBW : Below wr.heap.size wr W5 := by rw [hW5]; exact (Below.refl _ wr).alloc (Nat.le_refl _) _
            have hP : BlkT W5 wr.heap.size tOp [.int .u8 od, strT ox, .int .u8 owh, .bool oow, .int .u32 oc, .int .u32 ot, .int .u8 obk] := by rw [hW5]; exact heap_alloc_new wr _
            have HPW := Lib.hid (HPL.out.keep hBW)
            have HLW := Lib.hid (HL.out.trans (hBW.mono HL.out.size))
            clear hBW HPL HL hP
            go_wp2_with fail
            rw [← hW5]
            refine (HPW.out.do (by omega) hN0 (by omega) od ox owh oow oc ot obk HOK.out).mono ?_
            rintro e w5 ⟨rfl, hpl, hbl⟩
            have HP5 := Lib.hid hpl
            have HL5 := Lib.hid (HLW.out.trans (hbl.mono HWB.out))
            clear hpl hbl HPW HLW hW5 c0 c1 c2 c3 c4 c5 c6
            go_wp2_with fail
            refine HP5.out.same.mono ?_
            rintro e w6 ⟨rfl, hb6⟩
            have HP6 := Lib.hid (HP5.out.keep hb6)
            have HL6 := Lib.hid (HL5.out.trans (hb6.mono HL5.out.size))
            clear hb6 HP5 HL5
            go_wp2_with fail
            go_roundw
            case rel => exact ⟨j + 1, N + ot % 100, by go_num, by omega, by omega, by omega, by omega, HP6.out, HL6.out⟩
            case measure => simp [intOf]; omega
          · go_wp2_with fail
            go_ret
            exact ⟨rfl, HL.out.alloc HL.out.size _⟩
        · go_wp2_with fail
          go_ret
          exact ⟨rfl, hL⟩
end Go.Proofs.Ythpgdojjecdlcaa
namespace Go.Proofs.Ythpgdojjecdlcaa
open Go.RowKit
theorem noncePlays_w (B : Nat) (b : Bool) (r wd : Int) (v : Value) (ls : List OpN) (w : World) (h1 : (Lit.int .i64 r).wf = true) (h2 : (Lit.int .u64 wd).wf = true) (hv : NOps w B v ls) (hB : B ≤ w.heap.size) :
    Calls Try.prog 3 #[.bool b, .int .i64 r, .int .u64 wd, v] w fun e w' => e = .returned (.bool true) ∧ Below w.heap.size w w' := by
  have k1 : -9223372036854775808 ≤ r ∧ r ≤ 9223372036854775807 := by
    simp [Lit.wf, IntKind.min, IntKind.max, IntKind.bits, IntKind.signed] at h1
    omega
  have k2 : 0 ≤ wd ∧ wd ≤ 18446744073709551615 := by
    simp [Lit.wf, IntKind.min, IntKind.max, IntKind.bits, IntKind.signed] at h2
    omega
  exact noncePlays_law b r wd B v ls w k1 k2 hv hB
end Go.Proofs.Ythpgdojjecdlcaa
