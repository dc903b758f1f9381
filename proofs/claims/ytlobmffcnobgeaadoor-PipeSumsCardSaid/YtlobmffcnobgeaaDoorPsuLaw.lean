/- The statement PipeSums' own text, walked. -/
import Derived.Test.YtlobmffcnobgeaaDoorPdY
import Derived.Test.YtlobmffcnobgeaaDoorPsRef
set_option maxRecDepth 100000
namespace Go.Proofs.YtlobmffcnobgeaaDoor
open Go.RowKit Go.Shelf
attribute [local go_sem] Oper.semAt_some
theorem tabB_lt {w : World} (h : TabB w) : 0 < w.heap.size := World.block_lt_of_cell? w ⟨0, 0, none⟩ (h 0 (by omega))
/-- Both in step, behind so many steps. -/
def Plb (w0 w : World) (n base b c room : Nat) (H : Nat → Nat) : Prop :=
  Below w0.heap.size w0 w ∧ ∃ V X A Y, w0.heap.size ≤ base ∧ PB w base b c room V H X A Y ∧ RelA X Y ∧ ∀ i, i < 2 → (Y i).all.length ≤ 300 * n
theorem Plb.step {w0 w : World} {n base b c room : Nat} {H : Nat → Nat} (h : Plb w0 w n base b c room H) (hn : n ≤ 60) (dd k m st : Int) (Bv : Nat) (v : Value) (l : List UInt8) (hv : Sl w Bv v l) (hBv : Bv ≤ w0.heap.size) (hdd : 0 ≤ dd ∧ dd ≤ 255) (hst : 0 ≤ st ∧ st ≤ 255) :
    Calls Tryd.prog 8 #[tP b, tP c, .agg #[.int .u8 dd, .int .i64 k, v, .int .i64 m, .int .u8 st]] w fun e w' => e = .returned (.bool true) ∧ Plb w0 w' (n + 1) base b c room H := by
  obtain ⟨hb, V, X, A, Y, hge, hpb, hrel, hbig⟩ := h
  refine (do_pb hpb hrel (fun i hi => by have := hbig i hi; omega) dd k m st Bv v l hv (Nat.le_trans hBv hge) hdd hst).mono ?_
  rintro e w' ⟨rfl, V', X', A', Y', h1, h2, h3, h4⟩
  exact ⟨rfl, hb.trans (h4.mono hge), V', X', A', Y', hge, h1, h2, fun i hi => by have := h3 i hi; have := hbig i hi; omega⟩
theorem Plb.on {w0 w w' : World} {n base b c room : Nat} {H : Nat → Nat} (h : Plb w0 w n base b c room H) (hb : Below w.heap.size w w') : Plb w0 w' n base b c room H := by
  obtain ⟨hb0, V, X, A, Y, hge, hpb, hrel, hbig⟩ := h
  exact ⟨hb0.trans (hb.mono hb0.size), V, X, A, Y, hge, hpb.below hb, hrel, hbig⟩
def rnew2 : WayR := ⟨[], 0, false, 0⟩
theorem plb_start {w0 w w' : World} {room : Nat} {b : Nat} {V : Nat → Value} {H : Nat → Nat} (hb0 : Below w0.heap.size w0 w) (base : Nat) (hge : w0.heap.size ≤ base) (hp : PP w base b room V H (fun _ => wnew)) (hw : w' = w.alloc (.cells #[.int .i64 (room : Int), .slice none 0 0, .int .i64 0, .bool false, .int .i64 0, .slice none 0 0, .int .i64 0, .bool false, .int .i64 0] 34)) :
    Plb w0 w' 0 base b w.heap.size room H := by
  have hB : Below w.heap.size w w' := by rw [hw]; exact (Below.refl _ _).alloc (Nat.le_refl _) _
  have hk : Blk w' w.heap.size (rxc room (fun _ => .slice none 0 0) (fun _ => rnew2)) := by rw [hw]; exact Blk.newAt w _ _ rfl rfl
  have hS : pxS w.heap.size (fun _ => Value.slice none 0 0) = [w.heap.size] := rfl
  refine ⟨hb0.trans (hB.mono hb0.size), V, fun _ => wnew, fun _ => .slice none 0 0, fun _ => rnew2, hge, ⟨hp.below hB, ⟨hk, fun i hi => OwnB.nil _ _, (fun i hi e => by cases e), hp.size, fun i hi => by show 0 + 0 ≤ 0; omega, fun i hi => by show 0 ≤ 400000; omega, hp.r2, fun i hi => by show 0 - 0 - 0 ≤ room; omega⟩, fun j hj hm => ?_⟩, fun i hi => rel_new, fun i hi => by show 0 ≤ _; omega⟩
  rw [hS, List.mem_singleton] at hm
  have := (hp.inS j hj).2
  omega
set_option maxHeartbeats 4000000 in
theorem pipeSums_law (B : Nat) (rm : Int) (v : Value) (ls : List OpP) (w : World) (hrm : (Lit.int .u16 rm).wf = true) (hv : POps w B v ls) (hB : B ≤ w.heap.size) (hT : TabA w) (hTB : TabB w) :
    Calls Tryd.prog 4 #[.int .u16 rm, v] w fun e w' => e = .returned (.bool true) ∧ Below w.heap.size w w' := by
  have hG := tab_lt hT
  have hGB := tabB_lt hTB
  have HA := Lib.hid (awake22 w hT hG)
  have HV := Lib.hid hv
  have HT := Lib.hid hT; clear hT
  have HTB := Lib.hid hTB; clear hTB
  have hr : 0 ≤ rm ∧ rm ≤ 65535 := by
    simp [Lit.wf, IntKind.min, IntKind.max, IntKind.bits, IntKind.signed] at hrm
    omega
  obtain ⟨hr0, hr1⟩ := hr
  obtain ⟨q, hq⟩ : ∃ q, rm % 600 = q := ⟨_, rfl⟩
  have hq0 : 0 ≤ q ∧ q ≤ 599 := by omega
  obtain ⟨R, hR⟩ : ∃ R : Nat, 1 + q = (R : Int) := ⟨(1 + q).toNat, by omega⟩
  have hR12 : 1 ≤ R ∧ R ≤ 4096 := by omega
  obtain ⟨hq0, hq1⟩ := hq0
  obtain ⟨hR1, hR2⟩ := hR12
  obtain ⟨SA, SC, rfl, hn1, hn2, _⟩ := hv
  clear hrm
  go_enter Tryd.func4, Tryd.ntmps4
  go_wp2_with fail
  refine HA.out.mono ?_
  rintro e w1 ⟨rfl, hB1⟩
  have hz1 := hB1.size
  have HB1 := Lib.hid hB1
  go_wp2_with fail
  refine (new_pp R w1 hR1 hR2 (HT.out.below hB1 hG) (by omega)).mono ?_
  rintro e w2 ⟨V0, H, rfl, hP2, hB2⟩
  have HPl := Lib.hid (plb_start (HB1.out.trans (hB2.mono hz1)) w1.heap.size hz1 hP2 rfl)
  clear hP2 hB2 hB1 hq hR
  go_wp2_with fail
  go_loopw [9, 10, 32] (fun _ _ i wr => ∃ j : Nat, j ≤ ls.length ∧ i = .int .i64 (j : Int) ∧ Plb w wr (min j 40) w1.heap.size w1.heap.size w2.heap.size R H) (fun _ _ i _ => ls.length - (intOf i).toNat)
  case atStart => exact ⟨0, by omega, rfl, HPl.out⟩
  case round =>
    obtain ⟨j, hj, rfl, hpl⟩ := hrel
    have HPlr := Lib.hid hpl
    have HBr := Lib.hid hpl.1
    clear hpl
    by_cases hlt : j < ls.length
    · have hlt' : (j : Int) < (ls.length : Int) := by omega
      obtain ⟨A2, C2, hv2, _, _, hx⟩ := HV.out
      injection hv2 with hv21 hv22 hv23
      subst hv21; subst hv23
      obtain ⟨sb, so, rfl, hsb, hx⟩ := hx (by omega)
      obtain ⟨hc0, hok, hsl0⟩ := hx j hlt
      have hc : ∀ k v, (opC ls[j])[k]? = some v → wr.cell? ⟨sb, so + j * 5 + k, none⟩ = some v := fun k v hv => (HBr.out.cell (p := ⟨sb, so + j * 5 + k, none⟩) (by show sb < w.heap.size; omega)).trans (hc0 k v hv)
      clear hc0
      obtain ⟨o, ho⟩ : ∃ o, o = ls[j] := ⟨_, rfl⟩
      rw [← ho] at hc hok hsl0
      clear hx ho hv22
      obtain ⟨dd, k, vv, l, m, st⟩ := o
      have hdd := hok.d
      have hst := hok.st
      simp only at hdd hst hsl0
      have k0 := hc 0 _ rfl
      have k1 := hc 1 _ rfl
      have k2 := hc 2 _ rfl
      have k3 := hc 3 _ rfl
      have k4 := hc 4 _ rfl
      rw [Nat.add_zero] at k0
      have HST := Lib.hid (fun W (h : Plb w W (min j 40) w1.heap.size w1.heap.size w2.heap.size R H) => h.step (by omega) dd k m st B vv l (hsl0.below h.1 hB) hB hdd hst)
      obtain ⟨VA, VC, rfl, _, _, _, _⟩ := id hsl0
      clear hc hok hsl0 hdd hst
      by_cases hj40 : j < 40
      · have hlt5 : (j : Int) < 40 := by omega
        have Hmin := Lib.hid (show min j 40 + 1 = min (j + 1) 40 from by omega)
        go_wp2_with fail
        refine (HST.out _ (HPlr.out.on ((Below.refl _ _).alloc (Nat.le_refl _) _))).mono ?_
        rintro e w5 ⟨rfl, hpl5⟩
        rw [Hmin.out] at hpl5
        have HP5 := Lib.hid hpl5
        clear hpl5
        go_wp2_with fail
        exact ⟨⟨j + 1, by omega, by go_num, HP5.out⟩, by simp [intOf]; omega⟩
      · have hlt5 : ¬ (j : Int) < 40 := by omega
        have HPo := Lib.hid (fun (o : Obj) => (show Plb w (wr.alloc o) (min (j + 1) 40) w1.heap.size w1.heap.size w2.heap.size R H from by
          have := HPlr.out.on ((Below.refl _ _).alloc (Nat.le_refl _) o)
          rwa [show min j 40 = min (j + 1) 40 from by omega] at this))
        go_wp2_with fail
        exact ⟨⟨j + 1, by omega, by go_num, HPo.out _⟩, by simp [intOf]; omega⟩
    · obtain rfl : j = ls.length := by omega
      have HPl2 := Lib.hid (show Plb w wr 40 w1.heap.size w1.heap.size w2.heap.size R H from by
        obtain ⟨hb0, V, X, A, Y, hge, hpb, hrel, hbig⟩ := HPlr.out
        exact ⟨hb0, V, X, A, Y, hge, hpb, hrel, fun i hi => by have := hbig i hi; omega⟩)
      clear HPlr
      go_wp2_with fail
      go_loopw [11, 12, 13, 47] (fun _ _ _ i wq => ∃ n : Nat, n ≤ 2 ∧ i = .int .i64 (n : Int) ∧ Plb w wq 40 w1.heap.size w1.heap.size w2.heap.size R H) (fun _ _ _ i _ => 2 - (intOf i).toNat)
      case atStart => exact ⟨0, by omega, rfl, HPl2.out⟩
      case round =>
        obtain ⟨n, hn, rfl, hpl⟩ := hrel
        obtain ⟨hbw, V, X, A, Y, hge, hpb, hrl, hbig⟩ := id hpl
        have HPq := Lib.hid hpl
        have HP := Lib.hid hpb
        have HREL := Lib.hid hrl
        have HBQ := Lib.hid hbw
        clear hpl hpb hrl hbw
        rcases (show n = 0 ∨ n = 1 ∨ n = 2 by omega) with rfl | rfl | rfl
        · have HLk := Lib.hid (look_0 HP.out.p)
          go_wp2_with fail
          refine HLk.out.mono ?_
          rintro e w3 ⟨u, rfl, hO3, hB3⟩
          obtain ⟨uA, uC, rfl, _, _, _, _⟩ := hO3.sl
          obtain ⟨uN, huN⟩ : ∃ n, n = (sumL (X 0).read).length := ⟨_, rfl⟩
          rw [← huN] at hO3 ⊢
          clear huN
          unfold lookV
          have hp3 := HP.out.below hB3
          obtain ⟨AA, C, hA, _, hc1, hc2, _⟩ := (hp3.x.own 0 (by omega)).sl
          have hfit := hp3.x.fit 0 (by omega)
          have hbg := hp3.x.big 0 (by omega)
          have hrd := (HREL.out 0 (by omega)).rd
          have hslA := hp3.x.own 0 (by omega)
          rw [hA] at hslA
          obtain ⟨A2, c2, e2, _, _, _, hslT⟩ := hslA.sl.take (Y 0).rd (by omega)
          injection e2 with e3 _ e4
          subst e3; subst e4
          rw [hrd] at hslT
          have hlenr : (X 0).read.length ≤ 12000 := by rw [(HREL.out 0 (by omega)).readLen]; have := hbig 0 (by omega); omega
          have k0 : w3.cell? ⟨w2.heap.size, 1, none⟩ = some (.slice AA (Y 0).all.length C) := by rw [← hA]; exact hp3.x.blk.at (o := 1) rfl
          have k1 : w3.cell? ⟨w2.heap.size, 2, none⟩ = some (.int .i64 ((Y 0).rd : Int)) := hp3.x.blk.at (o := 2) rfl
          have hcl := hp3.x.blk.lt
          obtain ⟨K, hK⟩ : ∃ K, K = (Y 0).all.length := ⟨_, rfl⟩
          obtain ⟨R0, hR0⟩ : ∃ R, R = (Y 0).rd := ⟨_, rfl⟩
          rw [← hK] at k0 hfit hc1 hbg
          rw [← hR0] at k1 hfit hslT
          have hrun := slice_h AA K C R0 (by omega)
          obtain ⟨M, hM⟩ : ∃ M, M = (X 0).read := ⟨_, rfl⟩
          rw [← hM] at hO3 hslT hlenr ⊢
          generalize ((X 0).buf.length : Int) = f0
          generalize (X 0).shut = f1
          generalize un (X 0).wrote = f2
          generalize un M.length = f3
          obtain ⟨W6, hW6⟩ : ∃ W, w3.alloc (.cells #[.int .i64 f0, .bool f1, .int .u64 f2, .int .u64 f3, .slice uA uN uC] 43) = W := ⟨_, rfl⟩
          have hB6 : Below w3.heap.size w3 W6 := by rw [← hW6]; exact (Below.refl _ _).alloc (Nat.le_refl _) _
          have hK6 : Blk W6 w3.heap.size [.int .i64 f0, .bool f1, .int .u64 f2, .int .u64 f3, .slice uA uN uC] := by rw [← hW6]; exact Blk.newA w3 #[.int .i64 f0, .bool f1, .int .u64 f2, .int .u64 f3, .slice uA uN uC] _
          have HB36 := Lib.hid (HBQ.out.trans ((hB3.trans (hB6.mono hB3.size)).mono HBQ.out.size))
          have HP6 := Lib.hid ((HPq.out.on hB3).on hB6)
          have HTB6 := Lib.hid (HTB.out.below HB36.out hGB)
          have HO6 := Lib.hid ((hO3.below hB6).sl)
          have HS6 := Lib.hid ((hslT.below hB6 (Nat.le_refl _)).more hB6.size)
          have HSs := Lib.hid (show W6.cell? ⟨w3.heap.size, 4, none⟩ = some (.slice uA uN uC) ∧ W6.cell? ⟨w2.heap.size, 1, none⟩ = some (.slice AA K C) ∧ W6.cell? ⟨w2.heap.size, 2, none⟩ = some (.int .i64 (R0 : Int)) from ⟨hK6.at (o := 4) rfl, (hB6.cell (p := ⟨w2.heap.size, 1, none⟩) hcl).trans k0, (hB6.cell (p := ⟨w2.heap.size, 2, none⟩) hcl).trans k1⟩)
          have hcl6 : w2.heap.size < W6.heap.size := by have := hB6.size; omega
          have hg6 : w3.heap.size < W6.heap.size := hK6.lt
          clear hp3 hA hfit hbg hrd hslA hslT hK hR0 hM hB3 hB6 hK6 hO3 k0 k1 HLk hbig hge
          go_wp2_with fail
          obtain ⟨g6, hgg⟩ : ∃ g, g = w3.heap.size := ⟨_, rfl⟩
          rw [← hgg] at HSs hg6 ⊢
          clear hgg
          refine wp_region_noPanic ?_
          refine wp_region_held (S := fun w' => w'.cell? ⟨g6, 4, none⟩ = some (.slice uA uN uC) ∧ w'.cell? ⟨w2.heap.size, 1, none⟩ = some (.slice AA K C) ∧ w'.cell? ⟨w2.heap.size, 2, none⟩ = some (.int .i64 (R0 : Int))) (by kernel_rfl) ?_
          change wpAnyH _ _ _ _ _ _ _ _ W6.drew
          have HS := Lib.hid (show W6.drew.cell? ⟨g6, 4, none⟩ = some (.slice uA uN uC) ∧ W6.drew.cell? ⟨w2.heap.size, 1, none⟩ = some (.slice AA K C) ∧ W6.drew.cell? ⟨w2.heap.size, 2, none⟩ = some (.int .i64 (R0 : Int)) from HSs.out)
          refine takeH 0 56 (.int .i64 0) rfl rfl (by kernel_rfl) (by kernel_rfl) (by kernel_rfl) (fun _ _ _ h => h) rfl (fun w' h => by obtain ⟨z0, z1, z2⟩ := h; go_simp) HS.out ?_
          go_frame
          refine takeH 1 57 (.bool false) rfl rfl (by kernel_rfl) (by kernel_rfl) (by kernel_rfl) (fun _ _ _ h => h) rfl (fun w' h => by obtain ⟨z0, z1, z2⟩ := h; go_simp) HS.out ?_
          go_frame
          refine takeH 2 58 (.bool false) rfl rfl (by kernel_rfl) (by kernel_rfl) (by kernel_rfl) (fun _ _ _ h => h) rfl (fun w' h => by obtain ⟨z0, z1, z2⟩ := h; go_simp) HS.out ?_
          go_frame
          refine takeH 3 59 (.pointer (some ⟨g6, 4, none⟩)) rfl rfl (by kernel_rfl) (by kernel_rfl) (by kernel_rfl) (fun _ _ _ h => h) rfl (fun w' h => by obtain ⟨z0, z1, z2⟩ := h; go_simp) HS.out ?_
          go_frame
          refine takeH 4 60 (.slice uA uN uC) rfl rfl (by kernel_rfl) (by kernel_rfl) (by kernel_rfl) (fun _ _ _ h => h) rfl (fun w' h => by obtain ⟨z0, z1, z2⟩ := h; go_simp) HS.out ?_
          go_frame
          refine takeH 5 61 (tP w2.heap.size) rfl rfl (by kernel_rfl) (by kernel_rfl) (by kernel_rfl) (fun _ _ _ h => h) rfl (fun w' h => by obtain ⟨z0, z1, z2⟩ := h; go_simp) HS.out ?_
          go_frame
          refine takeH 6 62 (.int .i64 0) rfl rfl (by kernel_rfl) (by kernel_rfl) (by kernel_rfl) (fun _ _ _ h => h) rfl (fun w' h => by obtain ⟨z0, z1, z2⟩ := h; go_simp) HS.out ?_
          go_frame
          refine takeH 7 63 (tP w2.heap.size) rfl rfl (by kernel_rfl) (by kernel_rfl) (by kernel_rfl) (fun _ _ _ h => h) rfl (fun w' h => by obtain ⟨z0, z1, z2⟩ := h; go_simp) HS.out ?_
          go_frame
          refine takeH 8 64 (.pointer (some ⟨w2.heap.size, 1, none⟩)) rfl rfl (by kernel_rfl) (by kernel_rfl) (by kernel_rfl) (fun _ _ _ h => h) rfl (fun w' h => by obtain ⟨z0, z1, z2⟩ := h; go_simp) HS.out ?_
          go_frame
          refine takeH 9 65 (.pointer (some ⟨w2.heap.size, 1, none⟩)) rfl rfl (by kernel_rfl) (by kernel_rfl) (by kernel_rfl) (fun _ _ _ h => h) rfl (fun w' h => by obtain ⟨z0, z1, z2⟩ := h; go_simp) HS.out ?_
          go_frame
          refine takeH 10 66 (.pointer (some ⟨w2.heap.size, 1, none⟩)) rfl rfl (by kernel_rfl) (by kernel_rfl) (by kernel_rfl) (fun _ _ _ h => h) rfl (fun w' h => by obtain ⟨z0, z1, z2⟩ := h; go_simp) HS.out ?_
          go_frame
          refine takeH 11 67 (.slice AA K C) rfl rfl (by kernel_rfl) (by kernel_rfl) (by kernel_rfl) (fun _ _ _ h => h) rfl (fun w' h => by obtain ⟨z0, z1, z2⟩ := h; go_simp) HS.out ?_
          go_frame
          refine takeH 12 68 (tP w2.heap.size) rfl rfl (by kernel_rfl) (by kernel_rfl) (by kernel_rfl) (fun _ _ _ h => h) rfl (fun w' h => by obtain ⟨z0, z1, z2⟩ := h; go_simp) HS.out ?_
          go_frame
          refine takeH 13 69 (.int .i64 0) rfl rfl (by kernel_rfl) (by kernel_rfl) (by kernel_rfl) (fun _ _ _ h => h) rfl (fun w' h => by obtain ⟨z0, z1, z2⟩ := h; go_simp) HS.out ?_
          go_frame
          refine takeH 14 70 (tP w2.heap.size) rfl rfl (by kernel_rfl) (by kernel_rfl) (by kernel_rfl) (fun _ _ _ h => h) rfl (fun w' h => by obtain ⟨z0, z1, z2⟩ := h; go_simp) HS.out ?_
          go_frame
          refine takeH 15 71 (.pointer (some ⟨w2.heap.size, 1, none⟩)) rfl rfl (by kernel_rfl) (by kernel_rfl) (by kernel_rfl) (fun _ _ _ h => h) rfl (fun w' h => by obtain ⟨z0, z1, z2⟩ := h; go_simp) HS.out ?_
          go_frame
          refine takeH 16 72 (.pointer (some ⟨w2.heap.size, 1, none⟩)) rfl rfl (by kernel_rfl) (by kernel_rfl) (by kernel_rfl) (fun _ _ _ h => h) rfl (fun w' h => by obtain ⟨z0, z1, z2⟩ := h; go_simp) HS.out ?_
          go_frame
          refine takeH 17 73 (.pointer (some ⟨w2.heap.size, 2, none⟩)) rfl rfl (by kernel_rfl) (by kernel_rfl) (by kernel_rfl) (fun _ _ _ h => h) rfl (fun w' h => by obtain ⟨z0, z1, z2⟩ := h; go_simp) HS.out ?_
          go_frame
          refine takeH 18 74 (.int .i64 (R0 : Int)) rfl rfl (by kernel_rfl) (by kernel_rfl) (by kernel_rfl) (fun _ _ _ h => h) rfl (fun w' h => by obtain ⟨z0, z1, z2⟩ := h; go_simp) HS.out ?_
          go_frame
          refine takeH 19 75 (.slice AA R0 C) rfl rfl (by kernel_rfl) (by kernel_rfl) (by kernel_rfl) (fun _ _ _ h => h) rfl (fun w' h => by obtain ⟨z0, z1, z2⟩ := h; go_simp) HS.out ?_
          go_frame
          refine wpAnyH_all (rs := [20]) (by kernel_rfl) (by simp) ?_
          simp only [List.mem_singleton, forall_eq]
          refine wpOp_callD 76 rfl rfl rfl 12 #[.slice AA R0 C] (by go_simp) ?_
          refine (refSum_any W6.heap.size (.slice AA R0 C) M W6.drew HTB6.out (by have := tabB_lt HTB6.out; exact this) (by exact HS6.out) (Nat.le_refl _) (by omega)).mono ?_
          rintro e w7 ⟨v7, rfl, hO7, hB7⟩
          have hb7 : Below W6.heap.size W6 w7 := ⟨hB7.os, hB7.tape, hB7.output, hB7.size, hB7.block⟩
          have HS7 := Lib.hid (show w7.cell? ⟨g6, 4, none⟩ = some (.slice uA uN uC) ∧ w7.cell? ⟨w2.heap.size, 1, none⟩ = some (.slice AA K C) ∧ w7.cell? ⟨w2.heap.size, 2, none⟩ = some (.int .i64 (R0 : Int)) from ⟨(hb7.cell (p := ⟨g6, 4, none⟩) hg6).trans HSs.out.1, (hb7.cell (p := ⟨w2.heap.size, 1, none⟩) hcl6).trans HSs.out.2.1, (hb7.cell (p := ⟨w2.heap.size, 2, none⟩) hcl6).trans HSs.out.2.2⟩)
          have HSm := Lib.hid (same_true W6.heap.size w7.heap.size (.slice uA uN uC) v7 (sumL M) w7 (HO6.out.below hb7 (Nat.le_refl _)) hO7.sl)
          have HPz := Lib.hid (HP6.out.on hb7)
          obtain ⟨A7, C7, rfl, _, _, _, _⟩ := hO7.sl
          obtain ⟨N7, hN7⟩ : ∃ n, n = (sumL M).length := ⟨_, rfl⟩
          rw [← hN7] at HSm ⊢
          clear hN7 hO7 hB7 hb7
          refine ⟨_, rfl, HS7.out, ?_⟩
          go_frame
          refine wpAnyH_all (rs := [21]) (by kernel_rfl) (by simp) ?_
          simp only [List.mem_singleton, forall_eq]
          refine wpOp_callD 77 rfl rfl rfl 11 #[.slice uA uN uC, .slice A7 N7 C7] (by go_simp) ?_
          refine HSm.out.mono ?_
          rintro e w8 ⟨rfl, hw8⟩
          subst hw8
          refine ⟨_, rfl, HS7.out, ?_⟩
          go_frame
          refine takeH 22 78 (.bool false) rfl rfl (by kernel_rfl) (by kernel_rfl) (by kernel_rfl) (fun _ _ _ h => h) rfl (fun w' h => by go_simp) HS7.out ?_
          go_frame
          refine takeH 23 79 (.bool false) rfl rfl (by kernel_rfl) (by kernel_rfl) (by kernel_rfl) (fun _ _ _ h => h) rfl (fun w' h => by go_simp) HS7.out ?_
          go_frame
          refine wpAnyH_done (by kernel_rfl) ?_ _
          refine NoPanic.normal ?_
          go_wp2_with fail
          exact ⟨⟨1, by omega, rfl, HPz.out⟩, by simp [intOf]⟩
        · have HLk := Lib.hid (look_1 HP.out.p)
          go_wp2_with fail
          refine HLk.out.mono ?_
          rintro e w3 ⟨u, rfl, hO3, hB3⟩
          obtain ⟨uA, uC, rfl, _, _, _, _⟩ := hO3.sl
          obtain ⟨uN, huN⟩ : ∃ n, n = (sumL (X 1).read).length := ⟨_, rfl⟩
          rw [← huN] at hO3 ⊢
          clear huN
          unfold lookV
          have hp3 := HP.out.below hB3
          obtain ⟨AA, C, hA, _, hc1, hc2, _⟩ := (hp3.x.own 1 (by omega)).sl
          have hfit := hp3.x.fit 1 (by omega)
          have hbg := hp3.x.big 1 (by omega)
          have hrd := (HREL.out 1 (by omega)).rd
          have hslA := hp3.x.own 1 (by omega)
          rw [hA] at hslA
          obtain ⟨A2, c2, e2, _, _, _, hslT⟩ := hslA.sl.take (Y 1).rd (by omega)
          injection e2 with e3 _ e4
          subst e3; subst e4
          rw [hrd] at hslT
          have hlenr : (X 1).read.length ≤ 12000 := by rw [(HREL.out 1 (by omega)).readLen]; have := hbig 1 (by omega); omega
          have k0 : w3.cell? ⟨w2.heap.size, 5, none⟩ = some (.slice AA (Y 1).all.length C) := by rw [← hA]; exact hp3.x.blk.at (o := 5) rfl
          have k1 : w3.cell? ⟨w2.heap.size, 6, none⟩ = some (.int .i64 ((Y 1).rd : Int)) := hp3.x.blk.at (o := 6) rfl
          have hcl := hp3.x.blk.lt
          obtain ⟨K, hK⟩ : ∃ K, K = (Y 1).all.length := ⟨_, rfl⟩
          obtain ⟨R0, hR0⟩ : ∃ R, R = (Y 1).rd := ⟨_, rfl⟩
          rw [← hK] at k0 hfit hc1 hbg
          rw [← hR0] at k1 hfit hslT
          have hrun := slice_h AA K C R0 (by omega)
          obtain ⟨M, hM⟩ : ∃ M, M = (X 1).read := ⟨_, rfl⟩
          rw [← hM] at hO3 hslT hlenr ⊢
          generalize ((X 1).buf.length : Int) = f0
          generalize (X 1).shut = f1
          generalize un (X 1).wrote = f2
          generalize un M.length = f3
          obtain ⟨W6, hW6⟩ : ∃ W, w3.alloc (.cells #[.int .i64 f0, .bool f1, .int .u64 f2, .int .u64 f3, .slice uA uN uC] 43) = W := ⟨_, rfl⟩
          have hB6 : Below w3.heap.size w3 W6 := by rw [← hW6]; exact (Below.refl _ _).alloc (Nat.le_refl _) _
          have hK6 : Blk W6 w3.heap.size [.int .i64 f0, .bool f1, .int .u64 f2, .int .u64 f3, .slice uA uN uC] := by rw [← hW6]; exact Blk.newA w3 #[.int .i64 f0, .bool f1, .int .u64 f2, .int .u64 f3, .slice uA uN uC] _
          have HB36 := Lib.hid (HBQ.out.trans ((hB3.trans (hB6.mono hB3.size)).mono HBQ.out.size))
          have HP6 := Lib.hid ((HPq.out.on hB3).on hB6)
          have HTB6 := Lib.hid (HTB.out.below HB36.out hGB)
          have HO6 := Lib.hid ((hO3.below hB6).sl)
          have HS6 := Lib.hid ((hslT.below hB6 (Nat.le_refl _)).more hB6.size)
          have HSs := Lib.hid (show W6.cell? ⟨w3.heap.size, 4, none⟩ = some (.slice uA uN uC) ∧ W6.cell? ⟨w2.heap.size, 5, none⟩ = some (.slice AA K C) ∧ W6.cell? ⟨w2.heap.size, 6, none⟩ = some (.int .i64 (R0 : Int)) from ⟨hK6.at (o := 4) rfl, (hB6.cell (p := ⟨w2.heap.size, 5, none⟩) hcl).trans k0, (hB6.cell (p := ⟨w2.heap.size, 6, none⟩) hcl).trans k1⟩)
          have hcl6 : w2.heap.size < W6.heap.size := by have := hB6.size; omega
          have hg6 : w3.heap.size < W6.heap.size := hK6.lt
          clear hp3 hA hfit hbg hrd hslA hslT hK hR0 hM hB3 hB6 hK6 hO3 k0 k1 HLk hbig hge
          go_wp2_with fail
          obtain ⟨g6, hgg⟩ : ∃ g, g = w3.heap.size := ⟨_, rfl⟩
          rw [← hgg] at HSs hg6 ⊢
          clear hgg
          refine wp_region_noPanic ?_
          refine wp_region_held (S := fun w' => w'.cell? ⟨g6, 4, none⟩ = some (.slice uA uN uC) ∧ w'.cell? ⟨w2.heap.size, 5, none⟩ = some (.slice AA K C) ∧ w'.cell? ⟨w2.heap.size, 6, none⟩ = some (.int .i64 (R0 : Int))) (by kernel_rfl) ?_
          change wpAnyH _ _ _ _ _ _ _ _ W6.drew
          have HS := Lib.hid (show W6.drew.cell? ⟨g6, 4, none⟩ = some (.slice uA uN uC) ∧ W6.drew.cell? ⟨w2.heap.size, 5, none⟩ = some (.slice AA K C) ∧ W6.drew.cell? ⟨w2.heap.size, 6, none⟩ = some (.int .i64 (R0 : Int)) from HSs.out)
          refine takeH 0 56 (.int .i64 0) rfl rfl (by kernel_rfl) (by kernel_rfl) (by kernel_rfl) (fun _ _ _ h => h) rfl (fun w' h => by obtain ⟨z0, z1, z2⟩ := h; go_simp) HS.out ?_
          go_frame
          refine takeH 1 57 (.bool false) rfl rfl (by kernel_rfl) (by kernel_rfl) (by kernel_rfl) (fun _ _ _ h => h) rfl (fun w' h => by obtain ⟨z0, z1, z2⟩ := h; go_simp) HS.out ?_
          go_frame
          refine takeH 2 58 (.bool false) rfl rfl (by kernel_rfl) (by kernel_rfl) (by kernel_rfl) (fun _ _ _ h => h) rfl (fun w' h => by obtain ⟨z0, z1, z2⟩ := h; go_simp) HS.out ?_
          go_frame
          refine takeH 3 59 (.pointer (some ⟨g6, 4, none⟩)) rfl rfl (by kernel_rfl) (by kernel_rfl) (by kernel_rfl) (fun _ _ _ h => h) rfl (fun w' h => by obtain ⟨z0, z1, z2⟩ := h; go_simp) HS.out ?_
          go_frame
          refine takeH 4 60 (.slice uA uN uC) rfl rfl (by kernel_rfl) (by kernel_rfl) (by kernel_rfl) (fun _ _ _ h => h) rfl (fun w' h => by obtain ⟨z0, z1, z2⟩ := h; go_simp) HS.out ?_
          go_frame
          refine takeH 5 61 (tP w2.heap.size) rfl rfl (by kernel_rfl) (by kernel_rfl) (by kernel_rfl) (fun _ _ _ h => h) rfl (fun w' h => by obtain ⟨z0, z1, z2⟩ := h; go_simp) HS.out ?_
          go_frame
          refine takeH 6 62 (.int .i64 1) rfl rfl (by kernel_rfl) (by kernel_rfl) (by kernel_rfl) (fun _ _ _ h => h) rfl (fun w' h => by obtain ⟨z0, z1, z2⟩ := h; go_simp) HS.out ?_
          go_frame
          refine takeH 7 63 (tP w2.heap.size) rfl rfl (by kernel_rfl) (by kernel_rfl) (by kernel_rfl) (fun _ _ _ h => h) rfl (fun w' h => by obtain ⟨z0, z1, z2⟩ := h; go_simp) HS.out ?_
          go_frame
          refine takeH 8 64 (.pointer (some ⟨w2.heap.size, 1, none⟩)) rfl rfl (by kernel_rfl) (by kernel_rfl) (by kernel_rfl) (fun _ _ _ h => h) rfl (fun w' h => by obtain ⟨z0, z1, z2⟩ := h; go_simp) HS.out ?_
          go_frame
          refine takeH 9 65 (.pointer (some ⟨w2.heap.size, 5, none⟩)) rfl rfl (by kernel_rfl) (by kernel_rfl) (by kernel_rfl) (fun _ _ _ h => h) rfl (fun w' h => by obtain ⟨z0, z1, z2⟩ := h; go_simp) HS.out ?_
          go_frame
          refine takeH 10 66 (.pointer (some ⟨w2.heap.size, 5, none⟩)) rfl rfl (by kernel_rfl) (by kernel_rfl) (by kernel_rfl) (fun _ _ _ h => h) rfl (fun w' h => by obtain ⟨z0, z1, z2⟩ := h; go_simp) HS.out ?_
          go_frame
          refine takeH 11 67 (.slice AA K C) rfl rfl (by kernel_rfl) (by kernel_rfl) (by kernel_rfl) (fun _ _ _ h => h) rfl (fun w' h => by obtain ⟨z0, z1, z2⟩ := h; go_simp) HS.out ?_
          go_frame
          refine takeH 12 68 (tP w2.heap.size) rfl rfl (by kernel_rfl) (by kernel_rfl) (by kernel_rfl) (fun _ _ _ h => h) rfl (fun w' h => by obtain ⟨z0, z1, z2⟩ := h; go_simp) HS.out ?_
          go_frame
          refine takeH 13 69 (.int .i64 1) rfl rfl (by kernel_rfl) (by kernel_rfl) (by kernel_rfl) (fun _ _ _ h => h) rfl (fun w' h => by obtain ⟨z0, z1, z2⟩ := h; go_simp) HS.out ?_
          go_frame
          refine takeH 14 70 (tP w2.heap.size) rfl rfl (by kernel_rfl) (by kernel_rfl) (by kernel_rfl) (fun _ _ _ h => h) rfl (fun w' h => by obtain ⟨z0, z1, z2⟩ := h; go_simp) HS.out ?_
          go_frame
          refine takeH 15 71 (.pointer (some ⟨w2.heap.size, 1, none⟩)) rfl rfl (by kernel_rfl) (by kernel_rfl) (by kernel_rfl) (fun _ _ _ h => h) rfl (fun w' h => by obtain ⟨z0, z1, z2⟩ := h; go_simp) HS.out ?_
          go_frame
          refine takeH 16 72 (.pointer (some ⟨w2.heap.size, 5, none⟩)) rfl rfl (by kernel_rfl) (by kernel_rfl) (by kernel_rfl) (fun _ _ _ h => h) rfl (fun w' h => by obtain ⟨z0, z1, z2⟩ := h; go_simp) HS.out ?_
          go_frame
          refine takeH 17 73 (.pointer (some ⟨w2.heap.size, 6, none⟩)) rfl rfl (by kernel_rfl) (by kernel_rfl) (by kernel_rfl) (fun _ _ _ h => h) rfl (fun w' h => by obtain ⟨z0, z1, z2⟩ := h; go_simp) HS.out ?_
          go_frame
          refine takeH 18 74 (.int .i64 (R0 : Int)) rfl rfl (by kernel_rfl) (by kernel_rfl) (by kernel_rfl) (fun _ _ _ h => h) rfl (fun w' h => by obtain ⟨z0, z1, z2⟩ := h; go_simp) HS.out ?_
          go_frame
          refine takeH 19 75 (.slice AA R0 C) rfl rfl (by kernel_rfl) (by kernel_rfl) (by kernel_rfl) (fun _ _ _ h => h) rfl (fun w' h => by obtain ⟨z0, z1, z2⟩ := h; go_simp) HS.out ?_
          go_frame
          refine wpAnyH_all (rs := [20]) (by kernel_rfl) (by simp) ?_
          simp only [List.mem_singleton, forall_eq]
          refine wpOp_callD 76 rfl rfl rfl 12 #[.slice AA R0 C] (by go_simp) ?_
          refine (refSum_any W6.heap.size (.slice AA R0 C) M W6.drew HTB6.out (by have := tabB_lt HTB6.out; exact this) (by exact HS6.out) (Nat.le_refl _) (by omega)).mono ?_
          rintro e w7 ⟨v7, rfl, hO7, hB7⟩
          have hb7 : Below W6.heap.size W6 w7 := ⟨hB7.os, hB7.tape, hB7.output, hB7.size, hB7.block⟩
          have HS7 := Lib.hid (show w7.cell? ⟨g6, 4, none⟩ = some (.slice uA uN uC) ∧ w7.cell? ⟨w2.heap.size, 5, none⟩ = some (.slice AA K C) ∧ w7.cell? ⟨w2.heap.size, 6, none⟩ = some (.int .i64 (R0 : Int)) from ⟨(hb7.cell (p := ⟨g6, 4, none⟩) hg6).trans HSs.out.1, (hb7.cell (p := ⟨w2.heap.size, 5, none⟩) hcl6).trans HSs.out.2.1, (hb7.cell (p := ⟨w2.heap.size, 6, none⟩) hcl6).trans HSs.out.2.2⟩)
          have HSm := Lib.hid (same_true W6.heap.size w7.heap.size (.slice uA uN uC) v7 (sumL M) w7 (HO6.out.below hb7 (Nat.le_refl _)) hO7.sl)
          have HPz := Lib.hid (HP6.out.on hb7)
          obtain ⟨A7, C7, rfl, _, _, _, _⟩ := hO7.sl
          obtain ⟨N7, hN7⟩ : ∃ n, n = (sumL M).length := ⟨_, rfl⟩
          rw [← hN7] at HSm ⊢
          clear hN7 hO7 hB7 hb7
          refine ⟨_, rfl, HS7.out, ?_⟩
          go_frame
          refine wpAnyH_all (rs := [21]) (by kernel_rfl) (by simp) ?_
          simp only [List.mem_singleton, forall_eq]
          refine wpOp_callD 77 rfl rfl rfl 11 #[.slice uA uN uC, .slice A7 N7 C7] (by go_simp) ?_
          refine HSm.out.mono ?_
          rintro e w8 ⟨rfl, hw8⟩
          subst hw8
          refine ⟨_, rfl, HS7.out, ?_⟩
          go_frame
          refine takeH 22 78 (.bool false) rfl rfl (by kernel_rfl) (by kernel_rfl) (by kernel_rfl) (fun _ _ _ h => h) rfl (fun w' h => by go_simp) HS7.out ?_
          go_frame
          refine takeH 23 79 (.bool false) rfl rfl (by kernel_rfl) (by kernel_rfl) (by kernel_rfl) (fun _ _ _ h => h) rfl (fun w' h => by go_simp) HS7.out ?_
          go_frame
          refine wpAnyH_done (by kernel_rfl) ?_ _
          refine NoPanic.normal ?_
          go_wp2_with fail
          exact ⟨⟨2, by omega, rfl, HPz.out⟩, by simp [intOf]⟩
        · go_wp2_with fail
          go_ret
          exact ⟨rfl, HBQ.out⟩
end Go.Proofs.YtlobmffcnobgeaaDoor
