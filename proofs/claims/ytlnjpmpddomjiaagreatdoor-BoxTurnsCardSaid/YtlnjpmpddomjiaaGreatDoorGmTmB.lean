/- box's reference: lists of ints, and whether two are alike. box's reference: a term in memory, and whether two are alike. -/
import Derived.Test.YtlnjpmpddomjiaaGreatDoorGmTmA
import Derived.Test.YtlnjpmpddomjiaaGreatDoorGmSame
set_option maxRecDepth 100000
namespace Go.Proofs.YtlnjpmpddomjiaaGreatDoor
open Go.RowKit
attribute [local go_sem] Oper.semAt_some
/-- Ints that lie below block B, nil or not. -/
def IsL (w : World) (B : Nat) (v : Value) (ls : List Int) : Prop :=
  ∃ A c, v = .slice A ls.length c ∧ ls.length ≤ c ∧ c ≤ 9223372036854775807 ∧ (0 < ls.length → ∃ g o, A = some ⟨g, o, none⟩ ∧ g < B ∧ ∀ j (hj : j < ls.length), w.cell? ⟨g, o + j, none⟩ = some (.int .i64 ls[j]))
theorem IsL.below {w w' : World} {B B' : Nat} {v : Value} {ls : List Int} (h : IsL w B v ls) (hb : Below B' w w') (hB : B ≤ B') : IsL w' B v ls := by
  obtain ⟨A, c, e, h1, h2, h⟩ := h
  refine ⟨A, c, e, h1, h2, fun hl => ?_⟩
  obtain ⟨g, o, hg, hlt, h3⟩ := h hl
  exact ⟨g, o, hg, hlt, fun j hj => (hb.cell (p := ⟨g, o + j, none⟩) (by show g < B'; omega)).trans (h3 j hj)⟩
theorem IsL.nil (w : World) (B : Nat) : IsL w B (.slice none 0 0) [] := ⟨none, 0, rfl, by simp, by omega, fun h => by simp at h⟩
set_option maxHeartbeats 2000000 in
theorem ints_any (B : Nat) (v1 v2 : Value) (a b : List Int) (w : World) (h1 : IsL w B v1 a) (h2 : IsL w B v2 b) (hB : B ≤ w.heap.size) (hb : b.length ≤ 10000) :
    Calls Tryz.prog 32 #[v1, v2] w fun e w' => e = .returned (.bool (decide (a = b))) ∧ Below w.heap.size w w' := by
  have P3 := Lib.hid h1
  have Q3 := Lib.hid h2
  obtain ⟨A1, c1, rfl, -⟩ := h1
  obtain ⟨A2, c2, rfl, -⟩ := h2
  by_cases hne : a.length = b.length
  · obtain ⟨n, hn⟩ : ∃ n : Nat, n = a.length := ⟨_, rfl⟩
    have hnb : b.length = n := by omega
    rw [hnb] at Q3 ⊢
    rw [← hn] at P3 ⊢
    have HA := Lib.hid hn
    have HB := Lib.hid hnb
    have HN := Lib.hid (show n ≤ 10000 from by omega)
    clear hn hnb hne hb
    go_enter Tryz.func32, Tryz.ntmps32
    go_wp2_with fail
    go_loopw [5, 13] (fun _ i wr => ∃ j : Nat, j ≤ n ∧ i = .int .i64 (j : Int) ∧ a.take j = b.take j ∧ Below w.heap.size w wr) (fun _ i _ => n - (intOf i).toNat)
    case atStart => exact ⟨0, by omega, rfl, by simp, Below.refl _ _⟩
    case round =>
      obtain ⟨j, hj, rfl, hz, hbl⟩ := hrel
      have HZ := Lib.hid hz
      have HBl := Lib.hid hbl
      have hjb : j ≤ 10000 := by have := HN.out; omega
      clear hz
      by_cases hlt : j < n
      · obtain ⟨A1', c1', e1, _, _, p3⟩ := P3.out
        obtain ⟨g1, o1, rfl, hg1, hc1⟩ := p3 (by have := HA.out; omega)
        obtain ⟨A2', c2', e2, _, _, q3⟩ := Q3.out
        obtain ⟨g2, o2, rfl, hg2, hc2⟩ := q3 (by have := HB.out; omega)
        injection e1 with e1 _ _
        injection e2 with e2 _ _
        subst e1; subst e2
        obtain ⟨x, hx⟩ : ∃ x, x = a[j]'(by have := HA.out; omega) := ⟨_, rfl⟩
        obtain ⟨y, hy⟩ : ∃ y, y = b[j]'(by have := HB.out; omega) := ⟨_, rfl⟩
        have d1 : wr.cell? ⟨g1, o1 + j, none⟩ = some (.int .i64 x) := by rw [hx]; exact (hbl.cell (p := ⟨g1, o1 + j, none⟩) (by show g1 < _; omega)).trans (hc1 j (by have := HA.out; omega))
        have d2 : wr.cell? ⟨g2, o2 + j, none⟩ = some (.int .i64 y) := by rw [hy]; exact (hbl.cell (p := ⟨g2, o2 + j, none⟩) (by show g2 < _; omega)).trans (hc2 j (by have := HB.out; omega))
        have HXY := Lib.hid (And.intro hx hy)
        clear p3 q3 hc1 hc2 hx hy hbl
        by_cases hxy : x = y
        · have hne : (x == y) = true := by simp [hxy]
          have HNX := Lib.hid (show a.take (j + 1) = b.take (j + 1) from by
            rw [List.take_succ_eq_append_getElem (by have := HA.out; omega), List.take_succ_eq_append_getElem (by have := HB.out; omega), HZ.out, ← HXY.out.1, ← HXY.out.2, hxy])
          subst hxy
          clear hne
          go_wp2_with fail
          go_quiet (fail)
          go_wp2_with fail
          go_roundw
          case rel => exact ⟨j + 1, by omega, by go_num, HNX.out, below_drewN HBl.out nq⟩
          case measure => simp [intOf]; omega
        · have hne : (x == y) = false := beq_eq_false_iff_ne.2 hxy
          have HAB := Lib.hid (show decide (a = b) = false from decide_eq_false (fun e => hxy (by rw [HXY.out.1, HXY.out.2]; simp only [e])))
          clear hxy
          go_wp2_with fail
          go_quiet (fail)
          go_wp2_with fail
          go_ret
          exact ⟨by rw [HAB.out]; rfl, below_drewN HBl.out nq⟩
      · obtain rfl : j = n := by omega
        have HAB := Lib.hid (show decide (a = b) = true from decide_eq_true (by
          have h := HZ.out
          rwa [List.take_of_length_le (by have := HA.out; omega), List.take_of_length_le (by have := HB.out; omega)] at h))
        go_wp2_with fail
        go_ret
        exact ⟨by rw [HAB.out]; rfl, HBl.out⟩
  · have e1 : ((a.length : Int) == (b.length : Int)) = false := by rw [beq_eq_false_iff_ne]; omega
    have e2 : decide (a = b) = false := decide_eq_false (fun e => hne (by rw [e]))
    rw [e2]
    clear e2 P3 Q3
    go_enter Tryz.func32, Tryz.ntmps32
    go_wp2_with fail
    go_ret
    exact ⟨rfl, Below.refl _ _⟩
end Go.Proofs.YtlnjpmpddomjiaaGreatDoor
set_option maxRecDepth 100000
namespace Go.Proofs.YtlnjpmpddomjiaaGreatDoor
open Go.RowKit
attribute [local go_sem] Oper.semAt_some
/-- What a term of the reference says. -/
structure TmV where
  kind : Int
  key : List UInt8
  text : List UInt8
  rounds : Int
  lst : List Int
  mask : List UInt8
deriving DecidableEq
/-- The term q lies in memory below block B and says t. -/
structure TmS (w : World) (B : Nat) (q : TmL) (t : TmV) : Prop where
  kind : q.kind = t.kind
  key : Sl w B (.slice q.KA q.km q.kc) t.key
  text : Sl w B (.slice q.TA q.tm q.tc) t.text
  rounds : q.rounds = t.rounds
  lst : IsL w B (.slice q.LA q.lm q.lc) t.lst
  mask : Sl w B (.slice q.MA q.mm q.mc) t.mask
theorem TmS.below {w w' : World} {B B' : Nat} {q : TmL} {t : TmV} (h : TmS w B q t) (hb : Below B' w w') (hB : B ≤ B') : TmS w' B q t :=
  ⟨h.kind, h.key.below hb hB, h.text.below hb hB, h.rounds, h.lst.below hb hB, h.mask.below hb hB⟩
theorem sameTm_any (B : Nat) (p q : TmL) (s t : TmV) (w : World) (hp : TmS w B p s) (hq : TmS w B q t) (hB : B ≤ w.heap.size) (ht : t.lst.length ≤ 10000) :
    Calls Tryz.prog 11 #[tmA p, tmA q] w fun e w' => e = .returned (.bool (decide (s = t))) ∧ Below w.heap.size w w' := by
  obtain ⟨W, hW⟩ : ∃ W, W = (w.alloc (.cells p.cells.toArray tTm)).alloc (.cells q.cells.toArray tTm) := ⟨_, rfl⟩
  have hb : Below w.heap.size w W := by rw [hW]; exact ((Below.refl _ _).alloc (Nat.le_refl _) _).alloc (by simp) _
  have HB := Lib.hid hb
  have HP := Lib.hid (hp.below hb hB)
  have HQ := Lib.hid (hq.below hb hB)
  have h1 : Blk W w.heap.size p.cells := by rw [hW]; exact (Blk.new w p.cells tTm).below ((Below.refl _ _).alloc (Nat.le_refl _) _) (by simp)
  have h2 : Blk W (w.heap.size + 1) q.cells := by rw [hW]; exact Blk.newAt (w.alloc (.cells p.cells.toArray tTm)) _ _ (by simp) rfl
  obtain ⟨kd1, KA1, km1, kc1, TA1, tm1, tc1, rd1, LA1, lm1, lc1, MA1, mm1, mc1⟩ := p
  obtain ⟨kd2, KA2, km2, kc2, TA2, tm2, tc2, rd2, LA2, lm2, lc2, MA2, mm2, mc2⟩ := q
  obtain ⟨sk, sky, stx, srd, sl, sm⟩ := s
  obtain ⟨tk, tky, ttx, trd, tl, tm⟩ := t
  have a0 := h1.at (o := 0) rfl
  have a1 := h1.at (o := 1) rfl
  have a2 := h1.at (o := 2) rfl
  have a3 := h1.at (o := 3) rfl
  have a4 := h1.at (o := 4) rfl
  have a5 := h1.at (o := 5) rfl
  have b0 := h2.at (o := 0) rfl
  have b1 := h2.at (o := 1) rfl
  have b2 := h2.at (o := 2) rfl
  have b3 := h2.at (o := 3) rfl
  have b4 := h2.at (o := 4) rfl
  have b5 := h2.at (o := 5) rfl
  have E1 := Lib.hid (same_any B B _ _ sky tky W HP.out.key HQ.out.key)
  have E2 := Lib.hid (same_any B B _ _ stx ttx W HP.out.text HQ.out.text)
  have E3 := Lib.hid (ints_any B _ _ sl tl W HP.out.lst HQ.out.lst (by have := HB.out.size; omega) ht)
  have E4 := Lib.hid (fun (W' : World) (hb' : Below W.heap.size W W') => same_any B B _ _ sm tm W' (HP.out.mask.below hb' (by have := HB.out.size; omega)) (HQ.out.mask.below hb' (by have := HB.out.size; omega)))
  have hk1 : kd1 = sk := HP.out.kind
  have hk2 : kd2 = tk := HQ.out.kind
  have hr1 : rd1 = srd := HP.out.rounds
  have hr2 : rd2 = trd := HQ.out.rounds
  subst hk1 hk2 hr1 hr2
  obtain ⟨RES, hRES⟩ : ∃ R : Bool, R = decide ((⟨kd1, sky, stx, rd1, sl, sm⟩ : TmV) = ⟨kd2, tky, ttx, rd2, tl, tm⟩) := ⟨_, rfl⟩
  have HR := Lib.hid hRES
  rw [← hRES]
  unfold TmL.cells at hW
  simp only at hW
  clear hp hq ht HP HQ h1 h2 hb hRES
  unfold tmA
  go_enter Tryz.func11, Tryz.ntmps11
  by_cases ck : kd1 = kd2
  · subst ck
    go_wp2_with fail
    rw [← hW]
    clear hW
    refine E1.out.mono ?_
    rintro e W1 ⟨rfl, rfl⟩
    by_cases cy : sky = tky
    · have dy : (sky == tky) = true := by rw [cy]; exact beq_self_eq_true _
      rw [dy]
      clear dy
      go_wp2_with fail
      refine E2.out.mono ?_
      rintro e W2 ⟨rfl, rfl⟩
      by_cases cx : stx = ttx
      · have dx : (stx == ttx) = true := by rw [cx]; exact beq_self_eq_true _
        rw [dx]
        clear dx
        by_cases cr : rd1 = rd2
        · subst cr
          go_wp2_with fail
          refine E3.out.mono ?_
          rintro e W3 ⟨rfl, hb3⟩
          have HB3 := Lib.hid (HB.out.trans (hb3.mono HB.out.size))
          have E5 := Lib.hid (E4.out W3 hb3)
          have a5' : W3.cell? ⟨w.heap.size, 5, none⟩ = some (.slice MA1 mm1 mc1) := (hb3.cell (p := ⟨w.heap.size, 5, none⟩) (World.block_lt_of_cell? _ _ a5)).trans a5
          have b5' : W3.cell? ⟨w.heap.size + 1, 5, none⟩ = some (.slice MA2 mm2 mc2) := (hb3.cell (p := ⟨w.heap.size + 1, 5, none⟩) (World.block_lt_of_cell? _ _ b5)).trans b5
          clear hb3 a0 a1 a2 a3 a4 a5 b0 b1 b2 b3 b4 b5
          by_cases cl : sl = tl
          · rw [decide_eq_true cl]
            go_wp2_with fail
            refine E5.out.mono ?_
            rintro e W4 ⟨rfl, rfl⟩
            have HQ := Lib.hid (show RES = (sm == tm) from by
              rw [HR.out, cy, cx, cl]
              by_cases cm : sm = tm
              · rw [cm]; simp
              · rw [beq_eq_false_iff_ne.2 cm]; exact decide_eq_false (fun e => cm (by injection e)))
            go_wp2_with fail
            go_ret
            exact ⟨by rw [HQ.out]; rfl, HB3.out⟩
          · rw [decide_eq_false cl]
            have HF := Lib.hid (show RES = false from by rw [HR.out]; exact decide_eq_false (fun e => cl (by injection e)))
            go_wp2_with fail
            go_ret
            exact ⟨by rw [HF.out]; rfl, HB3.out⟩
        · have d : (rd1 == rd2) = false := beq_eq_false_iff_ne.2 cr
          have HF := Lib.hid (show RES = false from by rw [HR.out]; exact decide_eq_false (fun e => cr (by injection e)))
          go_wp2_with fail
          go_ret
          exact ⟨by rw [HF.out]; rfl, HB.out⟩
      · rw [beq_eq_false_iff_ne.2 cx]
        have HF := Lib.hid (show RES = false from by rw [HR.out]; exact decide_eq_false (fun e => cx (by injection e)))
        go_wp2_with fail
        go_ret
        exact ⟨by rw [HF.out]; rfl, HB.out⟩
    · rw [beq_eq_false_iff_ne.2 cy]
      have HF := Lib.hid (show RES = false from by rw [HR.out]; exact decide_eq_false (fun e => cy (by injection e)))
      go_wp2_with fail
      go_ret
      exact ⟨by rw [HF.out]; rfl, HB.out⟩
  · have d : (kd1 == kd2) = false := beq_eq_false_iff_ne.2 ck
    have HF := Lib.hid (show RES = false from by rw [HR.out]; exact decide_eq_false (fun e => ck (by injection e)))
    go_wp2_with fail
    rw [← hW]
    clear hW
    go_ret
    exact ⟨by rw [HF.out]; rfl, HB.out⟩
end Go.Proofs.YtlnjpmpddomjiaaGreatDoor
