/- NonceRoom: the pair at its beginning; what a sweep leaves is what may yet be taken. The statement NonceRoom's own text, walked. NonceRoom, its arguments as a row hands them. -/
import Derived.Test.YthpgdojjecdlcaaNnStep
import Derived.Test.YthpgdojjecdlcaaNnEnt
import Derived.StillTailTactics
import Derived.Deep.DeepCutAuto
import Derived.Deep.CutBlock
set_option maxRecDepth 100000
namespace Go.Proofs.Ythpgdojjecdlcaa
open Go.RowKit Go.Shelf
section
variable {w w1 w' : World} {base S T m K : Nat} {f : NF} {l : PL} {N : Int} {j : Nat}
theorem NS.lower (h : NS w base S T m K f l) {b : Nat} (hb : b ≤ base) : NS w b S T m K f l := by
  obtain ⟨⟨xs, ht, e, h1, h2, h3⟩, hblk, hlo⟩ := h
  exact ⟨⟨xs, ht, e, Nat.le_trans hb h1, Nat.le_trans hb h2, fun x hx => Nat.le_trans hb (h3 x hx)⟩, hblk, Nat.le_trans hb hlo⟩
theorem LI.start (wd : Int) (K : Nat) (h1 : 1 ≤ K) (h2 : K ≤ 4096) (h3 : 0 ≤ wd) : LI ⟨wd, 0, 0, 0, false⟩ [] K 0 0 :=
  ⟨⟨by simp, fun q h => by simp at h, fun q h => by simp at h⟩, ⟨h3, fun _ => rfl, by simp, h1, h2, Int.le_refl _, by show (0 : Int) + 1 < _; omega, Int.le_refl _⟩, fun q h => by simp at h, by simp, fun q h => by simp at h⟩
theorem sw_check (h : LI f l K N j) (q : List UInt8 × VT) (hq : q ∈ swL f N l) : (fiN f (swL f N l) q.2.s N).2 = 0 := by
  have hs : (swL f N l).Sublist l := List.filter_sublist
  have h2 := h.sub hs
  have hg : goneB f N q.2 = false := by
    have := (List.mem_filter.1 hq).2
    simpa using this
  have hk := h2.wf.ky q hq
  have ht := h2.tm q hq
  have hget : getL (swL f N l) (drL q.2.s) = some q.2 := getL_of _ h2.wf.kn (by rw [← hk]; exact hq)
  unfold fiN
  rw [hget]
  simp only
  rw [if_neg (by simp), if_neg (by rw [hg]; simp; omega)]
theorem sw_again (f : NF) (N : Int) (l : PL) : swN f N (swL f N l) = 0 := by
  unfold swN swL
  rw [List.filter_filter]
  have : (l.filter fun q => goneB f N q.2 && !goneB f N q.2) = [] := by
    rw [List.filter_eq_nil_iff]
    intro q _
    cases goneB f N q.2 <;> simp
  rw [this]
  rfl
/-- The law's pair, New having answered: X the reference's Store, Q the pair. -/
theorem PP.start {wd : Int} {W : World} (hK : 1 ≤ K) (hK2 : K ≤ 4096) (hwd : 0 ≤ wd)
    (hX : W = (w.alloc (.cells #[.int .i64 (K : Int), u64v wd, .slice none 0 0, u64v 0, u64v 0, u64v 0, .bool false] tX)).alloc (.cells #[.pointer none, tP w.heap.size, .slice none 0 0, u64v 0] tPr))
    (hn : NS w1 W.heap.size S T m K ⟨wd, 0, 0, 0, false⟩ []) (hb : Below W.heap.size W w1) :
    w1.cell? ⟨w.heap.size + 1, 0, none⟩ = some (.pointer none) ∧ w1.frozen? ⟨w.heap.size + 1, 0, none⟩ = false ∧
    PP (w1.setCell ⟨w.heap.size + 1, 0, none⟩ (tP S)) w.heap.size S T m K w.heap.size (w.heap.size + 1) ⟨wd, 0, 0, 0, false⟩ [] [] 0 (.slice none 0 0) 0 ∧
    Below w.heap.size w (w1.setCell ⟨w.heap.size + 1, 0, none⟩ (tP S)) := by
  have hzW : W.heap.size = w.heap.size + 2 := by rw [hX]; simp
  have hBW : Below w.heap.size w W := by rw [hX]; exact ((Below.refl _ w).alloc (Nat.le_refl _) _).alloc (by simp) _
  have hx : BlkT W w.heap.size tX (rxC K ⟨wd, 0, 0, 0, false⟩ (.slice none 0 0)) := by rw [hX]; exact BlkT.alloc (heap_alloc_new w _) _
  have hq : BlkT W (w.heap.size + 1) tPr [.pointer none, tP w.heap.size, .slice none 0 0, u64v 0] := by
    rw [hX]
    have := heap_alloc_new (w.alloc (.cells #[.int .i64 (K : Int), u64v wd, .slice none 0 0, u64v 0, u64v 0, u64v 0, .bool false] tX)) (.cells #[.pointer none, tP w.heap.size, .slice none 0 0, u64v 0] tPr)
    rwa [World.size_alloc] at this
  have hx1 := hx.below hb hx.lt
  have hq1 := hq.below hb hq.lt
  have hg := grown_set w1 ⟨w.heap.size + 1, 0, none⟩ (tP S)
  have hn2 := hn.lower (b := w.heap.size) (by omega)
  refine ⟨hq1.at rfl, hq1.free 0, ⟨⟨hn2.grown hg (fun g e => ?_), ⟨_, hx1.setOther (a := ⟨w.heap.size + 1, 0, none⟩) (by show w.heap.size + 1 ≠ w.heap.size; omega) _, ER.nil _ _⟩, Nat.le_refl _⟩, LI.start wd K hK hK2 hwd, hq1.set 0 _, OwnT.nil _ _, fun n h => by simp at h, by simp, by omega⟩, ?_⟩
  · cases e; exact ⟨_, _, _, hq1, by decide, by decide, by decide⟩
  · exact (hBW.trans (hb.mono (by omega))).setCell (p := ⟨w.heap.size + 1, 0, none⟩) (by show w.heap.size ≤ w.heap.size + 1; omega) _
end
end Go.Proofs.Ythpgdojjecdlcaa
set_option maxRecDepth 100000
namespace Go.Proofs.Ythpgdojjecdlcaa
open Go.RowKit Go.Shelf
set_option maxHeartbeats 8000000 in
theorem nonceRoom_law (ua ub : Int) (B : Nat) (v : Value) (ls : List OpN) (w : World) (h1 : 0 ≤ ua ∧ ua ≤ 255) (h2 : 0 ≤ ub ∧ ub ≤ 65535) (hv : NOps w B v ls) (hB : B ≤ w.heap.size) :
    Calls Try.prog 6 #[.int .u8 ua, .int .u16 ub, v] w fun e w' => e = .returned (.bool true) ∧ Below w.heap.size w w' := by
  obtain ⟨K, hK⟩ : ∃ K : Nat, (K : Int) = 1 + ua % 6 := ⟨(1 + ua % 6).toNat, by omega⟩
  obtain ⟨wd, hwd⟩ : ∃ wd : Int, wd = 1 + ub % 300 := ⟨_, rfl⟩
  have hK1 : 1 ≤ K := by omega
  have hK2 : K ≤ 6 := by omega
  have hw1 : 1 ≤ wd := by omega
  have hw2 : wd ≤ 300 := by omega
  have hm1 : 0 ≤ ua % 6 ∧ ua % 6 < 6 := by omega
  have hm2 : 0 ≤ ub % 300 ∧ ub % 300 < 300 := by omega
  have HK := Lib.hid hK; clear hK
  have HWD := Lib.hid hwd; clear hwd
  have HV := Lib.hid hv
  obtain ⟨A, c, rfl, hc1, hc2, _⟩ := hv
  go_enter Try.func6, Try.ntmps6
  go_wp2_with fail
  refine (awake12 w).mono ?_
  rintro e w1 ⟨rfl, hB1⟩
  have HB1 := Lib.hid hB1; clear hB1
  go_wp2_with fail
  rw [← HK.out, ← HWD.out]
  obtain ⟨W, hW⟩ : ∃ W, W = (w1.alloc (.cells #[.int .i64 (K : Int), u64v wd, .slice none 0 0, u64v 0, u64v 0, u64v 0, .bool false] tX)).alloc (.cells #[.pointer none, tP w1.heap.size, .slice none 0 0, u64v 0] tPr) := ⟨_, rfl⟩
  rw [← hW]
  refine (new_ns K wd W hK1 (by omega) hw1 (by omega)).mono ?_
  rintro e w2 ⟨S, T, m, rfl, h2, hb2⟩
  obtain ⟨q0, z0, hpp, hbl⟩ := PP.start hK1 (by omega) (by omega) hW h2 hb2
  have HPP := Lib.hid hpp
  have HBL := Lib.hid (HB1.out.trans (hbl.mono HB1.out.size))
  clear h2 hb2 hW hpp hbl
  go_upto_block 0 with fail
  obtain ⟨X, hX⟩ : ∃ X, X = w1.heap.size := ⟨_, rfl⟩
  obtain ⟨Q, hQ⟩ : ∃ Q, Q = w1.heap.size + 1 := ⟨_, rfl⟩
  obtain ⟨B0, hB0⟩ : ∃ B0, B0 = w1.heap.size := ⟨_, rfl⟩
  obtain ⟨W3, hW3⟩ : ∃ W3, W3 = w2.setCell ⟨w1.heap.size + 1, 0, none⟩ (tP S) := ⟨_, rfl⟩
  have HWB : Hid (w.heap.size ≤ B0) := Lib.hid (by rw [hB0]; exact HB1.out.size)
  have HP0 : Hid (PP W3 B0 S T m K X Q ⟨wd, 0, 0, 0, false⟩ [] [] 0 (.slice none 0 0) 0) := Lib.hid (by rw [hW3, hB0, hX, hQ]; exact HPP.out)
  have HL0 : Hid (Below w.heap.size w W3) := Lib.hid (by rw [hW3]; exact HBL.out)
  try rw [← hW3]
  try rw [← hQ]
  try rw [← hX]
  clear hW3 hX hQ hB0 HPP HBL HB1 q0 z0
  go_cut [46] (fun _ wx => ∃ (j : Nat) (f : NF) (l : PLn) (GS : List (List UInt8)) (v : Value) (N : Int), 0 ≤ N ∧ N ≤ 99 * 50 ∧ PP wx B0 S T m K X Q f l GS N v j ∧ Below w.heap.size w wx)
  case first =>
    go_wp2_with fail
    go_loopw [46] (fun i wr => ∃ (j : Nat) (f : NF) (l : PLn) (GS : List (List UInt8)) (v : Value) (N : Int), i = .int .i64 (j : Int) ∧ j ≤ ls.length ∧ j ≤ 50 ∧ 0 ≤ N ∧ N ≤ 99 * (j : Int) ∧ PP wr B0 S T m K X Q f l GS N v j ∧ Below w.heap.size w wr) (fun i _ => ls.length - (intOf i).toNat)
    case atStart => exact ⟨0, _, _, _, _, _, rfl, by omega, by omega, by omega, by omega, HP0.out, HL0.out⟩
    case round =>
      clear HP0 HL0
      obtain ⟨j, f, l, GS, v, N, rfl, hjl, hj50, hN0, hN1, hPP, hL⟩ := hrel
      have HPP := Lib.hid hPP
      have HL := Lib.hid hL
      by_cases hlt : j < ls.length
      · obtain ⟨b, o, rfl, hb, hcell, hok⟩ : ∃ b o, A = some ⟨b, o, none⟩ ∧ b < B ∧ (∀ k v, (opC ls[j])[k]? = some v → w.cell? ⟨b, o + j * 7 + k, none⟩ = some v) ∧ ls[j].ok := by
          obtain ⟨A', c', e, _, _, h3⟩ := HV.out
          obtain ⟨b, o, rfl, hb, hbs⟩ := h3 (by omega)
          cases e
          exact ⟨b, o, rfl, hb, (hbs j hlt).1, (hbs j hlt).2⟩
        obtain ⟨⟨od, ox, owh, oow, oc, ot, obk⟩, hop⟩ : ∃ q, q = ls[j] := ⟨_, rfl⟩
        rw [← hop] at hcell hok
        clear hop
        have hcw : ∀ k v, (opC ⟨od, ox, owh, oow, oc, ot, obk⟩)[k]? = some v → wr.cell? ⟨b, o + j * 7 + k, none⟩ = some v := fun k v hk => (hL.cell (p := ⟨b, o + j * 7 + k, none⟩) (by show b < w.heap.size; omega)).trans (hcell k v hk)
        have c0 : wr.cell? ⟨b, o + j * 7, none⟩ = some (.int .u8 od) := hcw 0 _ rfl
        have c1 : wr.cell? ⟨b, o + j * 7 + 1, none⟩ = some (strT ox) := hcw 1 _ rfl
        have c2 : wr.cell? ⟨b, o + j * 7 + 2, none⟩ = some (.int .u8 owh) := hcw 2 _ rfl
        have c3 : wr.cell? ⟨b, o + j * 7 + 3, none⟩ = some (.bool oow) := hcw 3 _ rfl
        have c4 : wr.cell? ⟨b, o + j * 7 + 4, none⟩ = some (.int .u32 oc) := hcw 4 _ rfl
        have c5 : wr.cell? ⟨b, o + j * 7 + 5, none⟩ = some (.int .u32 ot) := hcw 5 _ rfl
        have c6 : wr.cell? ⟨b, o + j * 7 + 6, none⟩ = some (.int .u8 obk) := hcw 6 _ rfl
        have HOK : Hid (OpN.ok ⟨od, ox, owh, oow, oc, ot, 0⟩) := Lib.hid ⟨hok.d, hok.x, hok.wh, hok.c, hok.t, by show (0 : Int) ≤ 0 ∧ (0 : Int) ≤ 255; omega⟩
        have hot := hok.t
        simp only at hot
        clear hcw hcell hok hPP hL hb
        by_cases h50 : j < 50
        · obtain ⟨W, hW⟩ : ∃ W, W = wr.alloc (.cells #[.int .u8 od, strT ox, .int .u8 owh, .bool oow, .int .u32 oc, .int .u32 ot, .int .u8 0] tOp) := ⟨_, rfl⟩
          have hBW : Below wr.heap.size wr W := by rw [hW]; exact (Below.refl _ wr).alloc (Nat.le_refl _) _
          have HPW := Lib.hid (HPP.out.keep hBW)
          have HLW := Lib.hid (HL.out.trans (hBW.mono HL.out.size))
          clear hBW HPP HL
          go_wp2_with fail
          rw [← hW]
          refine (do_any HPW.out (by omega) hN0 (by omega) od ox owh oow oc ot 0 HOK.out).mono ?_
          rintro e w5 ⟨rfl, f', l', GS', v', hpp, hbl⟩
          have q0 : w5.cell? ⟨Q, 0, none⟩ = some (tP S) := hpp.pb.at rfl
          have hle : ((l'.length : Nat) : Int) ≤ (K : Int) := by have := hpp.li.rf.cnt; omega
          have HP5 := Lib.hid hpp
          have HL5 := Lib.hid (HLW.out.trans (hbl.mono HWB.out))
          clear hpp hbl HPW HLW hW c0 c1 c2 c3 c4 c5 c6
          go_wp2_with fail
          refine (nlen_any HP5.out.dn.ns).mono ?_
          rintro e w6 ⟨rfl, hw6⟩
          subst hw6
          go_wp2_with fail
          exact ⟨⟨j + 1, f', l', GS', v', N + ot % 100, by go_num, by omega, by omega, by omega, by omega, HP5.out, HL5.out⟩, by simp [intOf]; omega⟩
        · go_wp2_with fail
          go_meet
          exact ⟨j, f, l, GS, v, N, hN0, by omega, HPP.out.keep ((Below.refl _ wr).alloc (Nat.le_refl _) _), HL.out.alloc HL.out.size _⟩
      · go_wp2_with fail
        go_meet
        exact ⟨j, f, l, GS, v, N, hN0, by omega, hPP, hL⟩
  case rest =>
    clear HP0 HL0
    obtain ⟨j, f, l, GS, v, N, hN0, hN1, hPP, hL⟩ := hcut
    obtain ⟨W4, hW4⟩ : ∃ W4, W4 = wc := ⟨_, rfl⟩
    rw [← hW4] at hPP hL ⊢
    clear hW4
    have HPP := Lib.hid hPP
    have HL := Lib.hid hL
    have q0 : W4.cell? ⟨Q, 0, none⟩ = some (tP S) := hPP.pb.at rfl
    have q3 : W4.cell? ⟨Q, 3, none⟩ = some (u64v N) := hPP.pb.at rfl
    clear hPP hL
    go_wp2_with fail
    go_still_tail 8, (by kernel_rfl)
    change wpList _ _ _ _ _ W4.drew
    go_wp2_with fail
    refine (sweep_ns (HPP.out.dn.ns.keep (Below.refl _ _).drew) N hN0 (by omega) (HPP.out.li.ok (by omega))).mono ?_
    rintro e w5 ⟨rfl, h5, f5⟩
    obtain ⟨l2, hl2⟩ : ∃ l2, l2 = swL f N l := ⟨_, rfl⟩
    have HCK : Hid (∀ q ∈ l2, (fiN f l2 q.2.s N).2 = 0) := Lib.hid (by rw [hl2]; exact sw_check HPP.out.li)
    have HAG : Hid (swN f N l2 = 0) := Lib.hid (by rw [hl2]; exact sw_again f N l)
    have HLI : Hid (LI f l2 K N j) := Lib.hid (by rw [hl2]; exact HPP.out.li.sub List.filter_sublist)
    rw [← hl2] at h5
    have hq5 : BlkT w5 Q tPr [tP S, tP X, v, u64v N] := f5.kp Q _ HPP.out.pb.drew (Oth.cells (by decide)) (HPP.out.pb.nmap HPP.out.dn.ns.mapM)
    have q50 : w5.cell? ⟨Q, 0, none⟩ = some (tP S) := hq5.at rfl
    have H5 := Lib.hid h5
    have HQ5 := Lib.hid hq5
    have HL5 : Hid (Below w.heap.size w w5) := Lib.hid (HL.out.drew.trans (f5.low.mono HWB.out))
    have hsw : ∃ z, z = swN f N l := ⟨_, rfl⟩
    obtain ⟨z, hz⟩ := hsw
    rw [← hz]
    clear h5 f5 hq5 hl2 HPP HL q0 q3 hz
    go_wp2_with fail
    refine (first_en H5.out 1000 (by omega) (by omega)).mono ?_
    rintro e w6 ⟨v6, rfl, h6, hb6⟩
    have hl6 : l2.length ≤ 6 := by have := HLI.out.rf.cnt; omega
    rw [List.take_of_length_le (by omega)] at h6
    obtain ⟨A6, c6, rfl⟩ := EN.form h6
    have H6 := Lib.hid (H5.out.keep hb6)
    have HQ6 := Lib.hid (HQ5.out.below hb6 HQ5.out.lt)
    have HE6 := Lib.hid h6
    have HL6 := Lib.hid (HL5.out.trans (hb6.mono HL5.out.size))
    obtain ⟨n, hn⟩ : ∃ n, n = l2.length := ⟨_, rfl⟩
    have HN := Lib.hid hn
    rw [← hn] at HE6 hl6 ⊢
    obtain ⟨b6, hb⟩ : ∃ b6, b6 = w5.heap.size := ⟨_, rfl⟩
    rw [← hb] at HE6
    clear hb6 h6 hn hb H5 HQ5 HL5 q50
    go_wp2_with fail
    go_loopw [83] (fun i wr => ∃ j : Nat, j ≤ n ∧ i = .int .i64 (j : Int) ∧ NS wr B0 S T m K f l2 ∧ BlkT wr Q tPr [tP S, tP X, v, u64v N] ∧ wr.ownsRow b6 tNe 4 (.slice A6 n c6) n (neC l2) ∧ Below w.heap.size w wr) (fun i _ => n - (intOf i).toNat)
    case atStart => exact ⟨0, by omega, rfl, H6.out, HQ6.out, by have := HE6.out; unfold EN at this; rw [← HN.out] at this; exact this, HL6.out⟩
    case round =>
      clear H6 HQ6 HE6 HL6
      obtain ⟨i, hi, rfl, hNS, hQ, hrow, hL⟩ := hrel
      have HNS := Lib.hid hNS
      have HQ := Lib.hid hQ
      have HROW := Lib.hid hrow
      have HL := Lib.hid hL
      by_cases hlt : i < n
      · obtain ⟨g, hAg⟩ : ∃ g, A6 = some ⟨g, 0, none⟩ := by
          rcases hrow.2 with ⟨e, _⟩ | ⟨g, cap', cur, e, _⟩
          · injection e with _ e2 _; omega
          · injection e with e1 _ _; exact ⟨g, e1⟩
        subst hAg
        have hil : i < l2.length := by rw [← HN.out]; exact hlt
        obtain ⟨g0, g1, g2, g3⟩ := neC_at l2 i hil
        have hck := HCK.out _ (List.getElem_mem hil)
        have hsl := HLI.out.sl _ (List.getElem_mem hil)
        obtain ⟨⟨s, a, sp, ct⟩, hy⟩ : ∃ y, y = (l2[i]).2 := ⟨_, rfl⟩
        rw [← hy] at g0 g1 g2 g3 hck hsl
        simp only at hsl hck
        have c0 : wr.cell? ⟨g, i * 4, none⟩ = some (strT s) := (World.ownsRow.cellAt hrow (i * 4) (by omega)).trans g0
        have c1 : wr.cell? ⟨g, i * 4 + 1, none⟩ = some (u64v a) := (World.ownsRow.cellAt hrow (i * 4 + 1) (by omega)).trans g1
        have c2 : wr.cell? ⟨g, i * 4 + 2, none⟩ = some (.bool sp) := (World.ownsRow.cellAt hrow (i * 4 + 2) (by omega)).trans g2
        have c3 : wr.cell? ⟨g, i * 4 + 3, none⟩ = some (.int .u32 ct) := (World.ownsRow.cellAt hrow (i * 4 + 3) (by omega)).trans g3
        obtain ⟨W7, hW7⟩ : ∃ W7, W7 = wr.alloc (.cells #[strT s, u64v a, .bool sp, .int .u32 ct] tNe) := ⟨_, rfl⟩
        have hBW : Below wr.heap.size wr W7 := by rw [hW7]; exact (Below.refl _ wr).alloc (Nat.le_refl _) _
        have hP : BlkT W7 wr.heap.size tNe [strT s, u64v a, .bool sp, .int .u32 ct] := by rw [hW7]; exact heap_alloc_new wr _
        have d0 : W7.cell? ⟨wr.heap.size, 0, none⟩ = some (strT s) := hP.at rfl
        have q0 : W7.cell? ⟨Q, 0, none⟩ = some (tP S) := (hQ.below hBW hQ.lt).at rfl
        have q3 : W7.cell? ⟨Q, 3, none⟩ = some (u64v N) := (hQ.below hBW hQ.lt).at rfl
        have HC := Lib.hid (check_ns ((hNS.keep hBW).keep (Below.refl _ W7).drew) s N (by omega) hN0 (by omega) (HLI.out.ok (by omega)))

        rw [hck] at HC
        have HBW := Lib.hid hBW
        clear hBW hP hck hsl hy g0 g1 g2 g3 hrow hNS hQ hL
        go_wp2_with fail
        rw [← hW7]
        clear hW7 c0 c1 c2 c3
        go_still_tail 10, (by kernel_rfl)
        change wpList _ _ _ _ _ W7.drew
        go_wp2_with fail
        refine HC.out.mono ?_
        rintro e w8 ⟨rfl, hb8⟩
        have hb9 := HBW.out.drew.trans (hb8.mono HBW.out.size)
        have H8 := Lib.hid (HNS.out.keep hb9)
        have HQ8 := Lib.hid (HQ.out.below hb9 HQ.out.lt)
        have HR8 := Lib.hid (enRow_below HROW.out hb9)
        have HL8 := Lib.hid (HL.out.trans (hb9.mono HL.out.size))
        clear hb8 hb9 HC HBW d0 q0 q3
        go_wp2_with fail
        go_roundw
        case rel => exact ⟨i + 1, by omega, by go_num, H8.out, HQ8.out, HR8.out, HL8.out⟩
        case measure => simp [intOf]; omega
      · obtain rfl : i = n := by omega
        have q0 : wr.cell? ⟨Q, 0, none⟩ = some (tP S) := hQ.at rfl
        clear hNS hQ hrow hL
        go_wp2_with fail
        refine (first_en HNS.out 2 (by omega) (by omega)).mono ?_
        rintro e w7 ⟨v7, rfl, h7, hb7⟩
        obtain ⟨A7, c7, rfl⟩ := EN.form h7
        have hl7 : (l2.take 2).length ≤ 2 := by rw [List.length_take]; omega
        obtain ⟨n7, hn7⟩ : ∃ n7, n7 = (l2.take 2).length := ⟨_, rfl⟩
        rw [← hn7] at hl7 ⊢
        have H7 := Lib.hid (HNS.out.keep hb7)
        have HQ7 := Lib.hid (HQ.out.below hb7 HQ.out.lt)
        have HL7 := Lib.hid (HL.out.trans (hb7.mono HL.out.size))
        have q70 : w7.cell? ⟨Q, 0, none⟩ = some (tP S) := HQ7.out.at rfl
        have q73 : w7.cell? ⟨Q, 3, none⟩ = some (u64v N) := HQ7.out.at rfl
        clear h7 hb7 hn7 HNS HQ HROW HL q0
        go_wp2_with fail
        go_still_tail 8, (by kernel_rfl)
        change wpList _ _ _ _ _ w7.drew
        go_wp2_with fail
        refine (sweep_ns (H7.out.keep (Below.refl _ _).drew) N hN0 (by omega) (HLI.out.ok (by omega))).mono ?_
        rintro e w8 ⟨rfl, h8, f8⟩
        rw [HAG.out]
        have HL8 : Hid (Below w.heap.size w w8) := Lib.hid (HL7.out.drew.trans (f8.low.mono HWB.out))
        clear h8 f8 q70 q73 H7 HQ7 HL7
        go_wp2_with fail
        go_ret
        exact ⟨by first | rfl | (simp; done) | (simp; omega), HL8.out⟩
end Go.Proofs.Ythpgdojjecdlcaa
namespace Go.Proofs.Ythpgdojjecdlcaa
open Go.RowKit
theorem nonceRoom_w (B : Nat) (u1 u2 : Int) (v : Value) (ls : List OpN) (w : World) (h1 : (Lit.int .u8 u1).wf = true) (h2 : (Lit.int .u16 u2).wf = true) (hv : NOps w B v ls) (hB : B ≤ w.heap.size) :
    Calls Try.prog 6 #[.int .u8 u1, .int .u16 u2, v] w fun e w' => e = .returned (.bool true) ∧ Below w.heap.size w w' := by
  have k1 : 0 ≤ u1 ∧ u1 ≤ 255 := by
    simp [Lit.wf, IntKind.min, IntKind.max, IntKind.bits, IntKind.signed] at h1
    omega
  have k2 : 0 ≤ u2 ∧ u2 ≤ 65535 := by
    simp [Lit.wf, IntKind.min, IntKind.max, IntKind.bits, IntKind.signed] at h2
    omega
  exact nonceRoom_law u1 u2 B v ls w k1 k2 hv hB
end Go.Proofs.Ythpgdojjecdlcaa
