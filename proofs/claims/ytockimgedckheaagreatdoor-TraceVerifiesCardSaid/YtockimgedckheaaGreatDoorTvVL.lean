/- trace: the law TraceVerifies, for the card. -/
import Derived.Test.YtockimgedckheaaGreatDoorTvK
import Derived.Test.YtockimgedckheaaGreatDoorTvVf
import Derived.Test.YtockimgedckheaaGreatDoorTvIo
set_option maxRecDepth 100000
namespace Go.Proofs.YtockimgedckheaaGreatDoor
open Go Go.RowKit Go.Shelf
attribute [local go_sem] Oper.semAt_some
theorem all_okB {all : List EvL} (h : ∀ e ∈ all, e.Ok) : all.all okB = true := List.all_eq_true.2 (fun e he => (okB_iff e).2 (h e he))
theorem vt_true {all : List EvL} {c : List UInt8} (h : ∀ e ∈ all, e.Ok) : (all.all okB && decide (c = c)) = true := by rw [all_okB h]; simp
theorem chainR_app (c : List UInt8) (a b : List EvL) : chainR (chainR c a) b = chainR c (a ++ b) := by unfold chainR; rw [List.foldl_append]
theorem chainR_cut (c : List UInt8) (l : List EvL) (k : Nat) : chainR (chainR c (l.take k)) (l.drop k) = chainR c l := by rw [chainR_app, List.take_append_drop]
theorem own_some {t : TypeId} {w : World} {base n c : Nat} {A : Option Addr} {l : List EvL} (h : OwnV t w base (.slice A n c) l) (hl : 0 < l.length) : ∃ g, A = some ⟨g, 0, none⟩ ∧ base ≤ g := by
  obtain ⟨h1, ⟨h2, h3⟩ | ⟨g, cap, cur, h0, hb, _⟩⟩ := id h
  · omega
  · injection h0 with e1 _ _; exact ⟨g, e1, hb⟩
theorem vt_cut {all : List EvL} {c : List UInt8} {k : Nat} (h : ∀ e ∈ all, e.Ok) : ((all.drop k).all okB && decide (chainR (chainR c (all.take k)) (all.drop k) = chainR c all)) = true := by
  rw [chainR_cut, all_okB (fun e he => h e (List.mem_of_mem_drop he))]; simp
theorem chain32 (l : List EvL) : (chainR z32 l).length = 32 := by
  rcases List.eq_nil_or_concat l with rfl | ⟨t, e, rfl⟩
  · rfl
  · rw [List.concat_eq_append, chainR_snoc, sumL_length]
theorem eq_dec (a b : List UInt8) : decide (a = b) = (a == b) := by
  by_cases h : a = b
  · subst h; simp
  · rw [decide_eq_false h, beq_eq_false_iff_ne.2 h]
theorem vb_ofB (b : Int) (h0 : 0 ≤ b) (h1 : b ≤ 255) : Value.int .u8 b = vb (UInt8.ofNat b.toNat) := by
  unfold vb bn
  rw [UInt8.toNat_ofNat']
  congr 1
  omega
theorem one_sl (W : World) (x : UInt8) : Sl (W.alloc (.cells #[vb x] 5)) (W.alloc (.cells #[vb x] 5)).heap.size (.slice (some ⟨W.heap.size, 0, none⟩) 1 1) [x] :=
  OwnB.sl (OwnB.of_heap (w := W.alloc (.cells #[vb x] 5)) (base := W.heap.size) (n := 1) (Nat.le_refl _) (heap_alloc_new W _) rfl (by decide) (by simp) (by simp) (Nat.le_refl _))
theorem sin0_all {all : List EvL} (h : ∀ e ∈ all, e.Ok) : all.filter (sinP 0) = all := List.filter_eq_self.2 (fun a ha => by
  have h1 := (h a ha).n1
  unfold sinP
  exact decide_eq_true (by omega))
theorem lastL_all (room : Nat) (all : List EvL) (h : all.length ≤ room) : lastL room all = all := by
  unfold lastL; rw [show all.length - room = 0 by omega, List.drop_zero]
set_option maxHeartbeats 16000000 in
theorem traceVerifies_law (B : Nat) (vl : Value) (ops : List OpT) (i j b : Int) (hi0 : 0 ≤ i) (_hi1 : i ≤ 255) (hj0 : 0 ≤ j) (_hj1 : j ≤ 255) (_hb0 : 0 ≤ b) (_hb1 : b ≤ 255) (w : World) (hops : OpsT w B vl ops) (hB : B ≤ w.heap.size) (hT : TabA w) (hTB : TabB w) (hG : 3 < w.heap.size) (hE : PowE w) :
    Calls Tryz.prog 6 #[vl, .int .u8 i, .int .u8 j, .int .u8 b] w fun e w' => e = .returned (.bool true) ∧ Below w.heap.size w w' := by
  have HAW := Lib.hid (awake23 w hT hE)
  have HBU := Lib.hid (fun W (hb : Below w.heap.size w W) => build_any 40 (by omega) (by omega) B vl ops W (hops.below hb hB) (Nat.le_trans hB hb.size) (hT.below hb (tab_lt hT)) (hE.below hb))
  have HTB := Lib.hid (fun W (hb : Below w.heap.size w W) => (hTB.below hb hG : TabB W))
  have HTA := Lib.hid (fun W (hb : Below w.heap.size w W) => (show TabA W ∧ PowE W from ⟨hT.below hb (tab_lt hT), hE.below hb⟩))
  have HI0 := Lib.hid hi0
  have HJ0 := Lib.hid hj0
  clear hops hT hE hTB hi0 hj0
  go_enter Tryz.func6, Tryz.ntmps6
  go_wp2_with fail
  refine HAW.out.mono ?_
  rintro e w1 ⟨rfl, hB1⟩
  have HB1 := Lib.hid hB1
  clear hB1 HAW
  go_wp2_with fail
  refine (HBU.out w1 HB1.out).mono ?_
  rintro e w2 ⟨rfl, ⟨V, C, VX, all, hP2, hal⟩, hB2⟩
  have HB2 := Lib.hid (HB1.out.trans (hB2.mono HB1.out.size))
  have HP2 := Lib.hid hP2
  have HAL := Lib.hid hal
  obtain ⟨T, hTT⟩ : ∃ T, T = w1.heap.size + 1 := ⟨_, rfl⟩
  obtain ⟨bx, hbx⟩ : ∃ T, T = w1.heap.size + 2 := ⟨_, rfl⟩
  obtain ⟨base, hbase⟩ : ∃ T, T = w1.heap.size := ⟨_, rfl⟩
  rw [← hTT, ← hbx, ← hbase] at HP2
  rw [← hTT, ← hbx]
  clear hB2 hP2 hal HBU hTT hbx hbase
  have HLA := Lib.hid (lastL_all 40 all HAL.out)
  have HOK := Lib.hid HP2.out.ok
  go_wp2_with fail
  refine (trSince (some ⟨T, 0, none⟩) 0 w2).mono ?_
  rintro e w3 ⟨rfl, hw3⟩
  have HSN := Lib.hid (show Calls Tryz.prog 17 #[thV (w2.heap.size + 1)] w3 _ from by rw [hw3]; exact since_tr HP2.out.tr 0)
  clear hw3
  go_wp2_with fail
  refine HSN.out.mono ?_
  rintro e w4 ⟨v4, rfl, hO4, hb4⟩
  have HO4 := Lib.hid (show OwnV tEv w4 (w2.heap.size + 3) v4 all from by rw [HLA.out, sin0_all HOK.out] at hO4; exact hO4)
  have HB4 := Lib.hid (HB2.out.trans (hb4.mono HB2.out.size))
  have HP4 := Lib.hid (HP2.out.below hb4)
  clear hO4 hb4 HSN
  have hmk : ∀ W, (Instr.makeSlice 56 (.int .i64 32) (.int .i64 32)).run Tryz.prog W = .ok (.slice (some ⟨W.heap.size, 0, none⟩) 32 32) (W.alloc (.cells (noughts 32) 5)) := fun W => make_bytes 32 32 (by omega) (by omega) W
  go_wp2_with fail
  obtain ⟨zb, hzb⟩ : ∃ zb, zb = w4.heap.size := ⟨_, rfl⟩
  obtain ⟨w5, hw5⟩ : ∃ w5, w5 = w4.alloc (.cells (noughts 32) 5) := ⟨_, rfl⟩
  have hb5 : Below w4.heap.size w4 w5 := by rw [hw5]; exact (Below.refl _ _).alloc (Nat.le_refl _) _
  have HZ5 := Lib.hid (show Sl w5 w5.heap.size (.slice (some ⟨zb, 0, none⟩) 32 32) z32 from by rw [hw5, hzb]; exact (own_z32 w4).sl)
  have HB5 := Lib.hid (HB4.out.trans (hb5.mono HB4.out.size))
  have HP5 := Lib.hid (HP4.out.below hb5)
  have HO5 := Lib.hid (HO4.out.below hb5)
  rw [← hw5, ← hzb]
  clear hw5 hb5 hzb HP4 HO4 HB4
  refine (trChain_any HP5.out.tr).mono ?_
  rintro e w6 ⟨vH, rfl, hOH, hbH⟩
  have HOH := Lib.hid (show Sl w6 w6.heap.size vH (chainR z32 all) from hOH.sl)
  have HB6 := Lib.hid (HB5.out.trans (hbH.mono HB5.out.size))
  have HP6 := Lib.hid (HP5.out.below hbH)
  have HO6 := Lib.hid (HO5.out.below hbH)
  have HZ6 := Lib.hid ((HZ5.out.below hbH (Nat.le_refl _)).more hbH.size)
  clear hOH hbH HP5 HO5 HB5 HZ5
  have HKD := Lib.hid (show ∀ e ∈ all, e.kind.length ≤ 600 from fun e he => (HOK.out e he).kind)
  have HA6 := Lib.hid (HTA.out w6 HB6.out)
  go_wp2_with fail
  refine (verify_any w6.heap.size w6.heap.size w6.heap.size _ vH z32 (chainR z32 all) v4 all w6 HZ6.out (Nat.le_refl _) rfl HOH.out (Nat.le_refl _) HO6.out.evIn (Nat.le_refl _) (by have := HAL.out; omega) HKD.out HA6.out.1 HA6.out.2).mono ?_
  rintro e w7 ⟨he, hb7⟩
  rw [vt_true HOK.out] at he
  subst he
  have HB7 := Lib.hid (HB6.out.trans (hb7.mono HB6.out.size))
  have HP7 := Lib.hid (HP6.out.below hb7)
  have HO7 := Lib.hid (HO6.out.below hb7)
  have HZ7 := Lib.hid ((HZ6.out.below hb7 (Nat.le_refl _)).more hb7.size)
  clear hb7 HP6 HO6 HB6 HZ6 HA6 HOH
  go_wp2_with fail
  obtain ⟨w8, hw8⟩ : ∃ w8, w8 = w7.alloc (.cells (noughts 32) 5) := ⟨_, rfl⟩
  have hb8 : Below w7.heap.size w7 w8 := by rw [hw8]; exact (Below.refl _ _).alloc (Nat.le_refl _) _
  have HN8 := Lib.hid (show Sl w8 w8.heap.size (.slice (some ⟨w7.heap.size, 0, none⟩) 32 32) z32 from by rw [hw8]; exact (own_z32 w7).sl)
  have HB8 := Lib.hid (HB7.out.trans (hb8.mono HB7.out.size))
  have HP8 := Lib.hid (HP7.out.below hb8)
  have HO8 := Lib.hid (HO7.out.below hb8)
  have HZ8 := Lib.hid ((HZ7.out.below hb8 (Nat.le_refl _)).more hb8.size)
  rw [← hw8]
  clear hw8 hb8 HP7 HO7 HB7 HZ7
  refine (same_true w8.heap.size w8.heap.size _ _ z32 w8 HZ8.out HN8.out).mono ?_
  rintro e w9 ⟨rfl, hX⟩
  subst hX
  clear HN8
  obtain ⟨A8, c8, eV8, hc81, hc82⟩ := HO8.out.form
  subst eV8
  by_cases hz : all.length = 0
  · have hall : all = [] := List.eq_nil_of_length_eq_zero hz
    have HA8 := Lib.hid (HTA.out w8 HB8.out)
    go_wp2_with fail
    refine (verify_any w8.heap.size w8.heap.size w8.heap.size _ _ z32 z32 (.slice none 0 0) [] w8 HZ8.out (Nat.le_refl _) rfl HZ8.out (Nat.le_refl _) ⟨none, 0, rfl, by simp, ⟨by omega, fun _ => rfl⟩, fun h => by simp at h⟩ (Nat.le_refl _) (by simp) (fun e h => by cases h) HA8.out.1 HA8.out.2).mono ?_
    rintro e w10 ⟨he, hb10⟩
    have hvt : (([] : List EvL).all okB && decide (chainR z32 [] = z32)) = true := by simp [chainR]
    rw [hvt] at he
    subst he
    have HB10 := Lib.hid (HB8.out.trans (hb10.mono HB8.out.size))
    clear hb10
    go_wp2_with fail
    go_ret
    exact ⟨rfl, HB10.out⟩
  · have hz' : ¬ ((all.length : Int) = 0) := by omega
    have hzb' : ((all.length : Int) == 0) = false := beq_eq_false_iff_ne.2 hz'
    obtain ⟨k, hk⟩ : ∃ k : Nat, k = (i % (all.length : Int)).toNat := ⟨_, rfl⟩
    have hm0 := Int.emod_nonneg i hz'
    have hm1 := Int.emod_lt_of_pos i (show (0 : Int) < (all.length : Int) by omega)
    have hkl : k < all.length := by omega
    have hw64 : wrap64 i = i := by have := HI0.out; unfold wrap64; omega
    have hkm : i.tmod (all.length : Int) = (k : Int) := by rw [Int.tmod_eq_emod_of_nonneg HI0.out]; omega
    obtain ⟨XA, XC, eVX, hx1, hx2⟩ := HP8.out.xt.own.form
    subst eVX
    have k8 : w8.cell? ⟨bx, 1, none⟩ = some (.slice XA all.length XC) := HP8.out.xt.blk.at (o := 1) rfl
    obtain ⟨g8, eg, -⟩ := own_some HO8.out (by omega)
    subst eg
    have hkn : k ≤ all.length := by omega
    have hkx : k ≤ XC := by omega
    have hkc : k ≤ c8 := by omega
    have hck : ¬ (c8 = k) := by omega
    have hki : (k : Int) ≤ (all.length : Int) := by omega
    have hk0 : (0 : Int) ≤ (k : Int) := by omega
    have HKL := Lib.hid hkl
    have HKN := Lib.hid hkn
    clear hm0 hm1 hk
    go_wp2_with fail
    have hG8 : 3 < w8.heap.size := by have := HB8.out.size; omega
    refine (refChain_any w8.heap.size _ z32 _ (all.take k) w8 HZ8.out (Nat.le_refl _) (by show (List.replicate 32 (0 : UInt8)).length ≤ 100; simp) (HP8.out.xt.own.evIn.takeV HKN.out) (by rw [List.length_take]; have := HAL.out; omega) (fun e he => HKD.out e (List.mem_of_mem_take he)) (HTB.out w8 HB8.out) hG8).mono ?_
    rintro e w10 ⟨vM, rfl, hSM, hb10⟩
    have HSM := Lib.hid hSM
    have HB10 := Lib.hid (HB8.out.trans (hb10.mono HB8.out.size))
    have HP10 := Lib.hid (HP8.out.below hb10)
    have HO10 := Lib.hid (HO8.out.below hb10)
    have HZ10 := Lib.hid ((HZ8.out.below hb10 (Nat.le_refl _)).more hb10.size)
    clear hSM hb10 HB8 HP8 HO8 HZ8 k8 hG8
    go_wp2_with fail
    refine wp_region_noPanic ?_
    refine wp_region_held (S := fun _ => True) (by kernel_rfl) ?_
    change wpAnyH _ _ _ _ _ _ _ _ (World.drew _)
    obtain ⟨X0, hX0⟩ : ∃ V, V = World.drew w10 := ⟨_, rfl⟩
    have hbx0 : Below w10.heap.size w10 X0 := by rw [hX0]; exact (Below.refl _ w10).drew
    have HPX := Lib.hid (HP10.out.below hbx0)
    have HOX := Lib.hid (HO10.out.below hbx0)
    have HZX := Lib.hid ((HZ10.out.below hbx0 (Nat.le_refl _)).more hbx0.size)
    have HMX := Lib.hid ((HSM.out.below hbx0 (Nat.le_refl _)).more hbx0.size)
    have HBX := Lib.hid (HB10.out.trans (hbx0.mono HB10.out.size))
    rw [← hX0]
    clear hX0 hbx0 HP10 HO10 HZ10 HSM HB10
    have HT := trivial
    refine takeH 0 67 vM rfl rfl (by kernel_rfl) (by kernel_rfl) (by kernel_rfl) (fun _ _ _ h => h) rfl (fun w' h => by go_simp) HT ?_
    go_frame
    refine takeH 1 68 (tQ T) rfl rfl (by kernel_rfl) (by kernel_rfl) (by kernel_rfl) (fun _ _ _ h => h) rfl (fun w' h => by go_simp) HT ?_
    go_frame
    refine takeH 3 70 (.slice (some ⟨g8, 0, none⟩) all.length c8) rfl rfl (by kernel_rfl) (by kernel_rfl) (by kernel_rfl) (fun _ _ _ h => h) rfl (fun w' h => by go_simp) HT ?_
    go_frame
    refine takeH 4 71 (.int .i64 (k : Int)) rfl rfl (by kernel_rfl) (by kernel_rfl) (by kernel_rfl) (fun _ _ _ h => h) rfl (fun w' h => by go_simp) HT ?_
    go_frame
    refine takeH 5 72 (.slice (some ⟨g8, k * 5, none⟩) (all.length - k) (c8 - k)) rfl rfl (by kernel_rfl) (by kernel_rfl) (by kernel_rfl) (fun _ _ _ h => h) rfl (fun w' h => by go_simp) HT ?_
    go_frame
    refine wpAnyH_all (rs := [2]) (by kernel_rfl) (by simp) ?_
    simp only [List.mem_singleton, forall_eq]
    refine wpOp_callD 69 rfl rfl rfl 22 #[tQ T] (by go_simp) ?_
    refine (trChain_any HPX.out.tr).mono ?_
    rintro e X1 ⟨vH1, rfl, hOH, hbH⟩
    have HH1 := Lib.hid (show Sl X1 X1.heap.size vH1 (chainR z32 all) from hOH.sl)
    have HB1' := Lib.hid (HBX.out.trans (hbH.mono HBX.out.size))
    have HP1 := Lib.hid (HPX.out.below hbH)
    have HO1 := Lib.hid (HOX.out.below hbH)
    have HZ1 := Lib.hid ((HZX.out.below hbH (Nat.le_refl _)).more hbH.size)
    have HM1 := Lib.hid ((HMX.out.below hbH (Nat.le_refl _)).more hbH.size)
    clear hOH hbH HPX HOX HZX HMX HBX
    refine ⟨_, rfl, trivial, ?_⟩
    go_frame
    have HA1 := Lib.hid (HTA.out X1 HB1'.out)
    refine wpAnyH_all (rs := [6]) (by kernel_rfl) (by simp) ?_
    simp only [List.mem_singleton, forall_eq]
    refine wpOp_callD 73 rfl rfl rfl 27 #[vM, vH1, .slice (some ⟨g8, k * 5, none⟩) (all.length - k) (c8 - k)] (by go_simp) ?_
    refine (verify_any X1.heap.size X1.heap.size X1.heap.size vM vH1 (chainR z32 (all.take k)) (chainR z32 all) _ (all.drop k) X1 HM1.out (Nat.le_refl _) (chain32 _) HH1.out (Nat.le_refl _) (by have := HO1.out.evIn.dropS HKL.out; rw [Nat.zero_add] at this; exact this) (Nat.le_refl _) (by rw [List.length_drop]; have := HAL.out; omega) (fun e he => HKD.out e (List.mem_of_mem_drop he)) HA1.out.1 HA1.out.2).mono ?_
    rintro e X2 ⟨he, hb2⟩
    rw [vt_cut HOK.out] at he
    subst he
    have HB2' := Lib.hid (HB1'.out.trans (hb2.mono HB1'.out.size))
    have HP2' := Lib.hid (HP1.out.below hb2)
    have HO2' := Lib.hid (HO1.out.below hb2)
    have HZ2' := Lib.hid ((HZ1.out.below hb2 (Nat.le_refl _)).more hb2.size)
    clear hb2 HP1 HO1 HZ1 HM1 HH1 HA1 HB1'
    refine ⟨_, rfl, trivial, ?_⟩
    go_frame
    refine takeH 7 74 (.bool false) rfl rfl (by kernel_rfl) (by kernel_rfl) (by kernel_rfl) (fun _ _ _ h => h) rfl (fun w' h => by go_simp) HT ?_
    go_frame
    refine wpAnyH_done (by kernel_rfl) ?_ _
    refine NoPanic.normal ?_
    go_wp2_with fail
    refine (clone_ev _ all X2 HO2'.out.evIn (by have := HAL.out; omega)).mono ?_
    rintro e X3 ⟨vX, rfl, hO3, hb3⟩
    have HX3 := Lib.hid hO3
    have HB3' := Lib.hid (HB2'.out.trans (hb3.mono HB2'.out.size))
    have HP3' := Lib.hid (HP2'.out.below hb3)
    have HO3' := Lib.hid (HO2'.out.below hb3)
    have HZ3' := Lib.hid ((HZ2'.out.below hb3 (Nat.le_refl _)).more hb3.size)
    have H23 := Lib.hid hb3
    clear hO3 hb3
    obtain ⟨AX, cX, eX, hx1', hx2'⟩ := HX3.out.form
    subst eX
    obtain ⟨gX, eg, -⟩ := own_some HX3.out (by have := HKL.out; omega)
    subst eg
    have hw1 : IntKind.i64.wrap ((k : Int) + 1) = (k : Int) + 1 := by rw [IntKind.wrap_i64]; have := HKL.out; have := HAL.out; omega
    rcases (show j % 3 = 0 ∨ j % 3 = 1 ∨ j % 3 = 2 from by omega) with hj | hj | hj
    · have hj3 : j % 3 = 0 := hj
      have htm : j.tmod 3 = 0 := by rw [Int.tmod_eq_emod_of_nonneg HJ0.out]; exact hj
      go_wp2_with fail
      refine (delete_ev X2.heap.size gX cX all k (k + 1) rfl X3 HX3.out HKL.out (by have := HAL.out; omega)).mono ?_
      rintro e Y ⟨rfl, hO, hg⟩
      obtain ⟨vY, hvY⟩ : ∃ v, v = Value.slice (some ⟨gX, 0, none⟩) (all.length - 1) cX := ⟨_, rfl⟩
      obtain ⟨oth, hoth⟩ : ∃ o, o = all.take k ++ all.drop (k + 1) := ⟨_, rfl⟩
      rw [← hvY, ← hoth] at hO
      rw [← hvY]
      have HY := Lib.hid hO
      have HBY := Lib.hid (show Below X2.heap.size X2 Y from H23.out.trans (HX3.out.belowBase hg H23.out.size))
      have HKY := Lib.hid (show ∀ e ∈ oth, e.kind.length ≤ 600 from fun e he => by
        rw [hoth] at he
        rcases List.mem_append.1 he with he | he
        · exact HKD.out e (List.mem_of_mem_take he)
        · exact HKD.out e (List.mem_of_mem_drop he))
      have HLY := Lib.hid (show oth.length ≤ 50 from by rw [hoth, List.length_append, List.length_take, List.length_drop]; have := HAL.out; omega)
      clear hO hg hvY hoth HX3
      obtain ⟨AY, cY, eY, hy1, hy2⟩ := HY.out.form
      subst eY
      go_wp2_with fail
      go_loopw [17, 109] (fun v i wr => ∃ m : Nat, m ≤ oth.length ∧ i = .int .i64 (m : Int) ∧ v = .bool ((oth.take m).all okB) ∧ Below Y.heap.size Y wr) (fun _ i _ => oth.length - (intOf i).toNat)
      case atStart => exact ⟨0, by omega, rfl, by rw [List.take_zero]; rfl, Below.refl _ _⟩
      case round =>
        obtain ⟨m, hml, rfl, rfl, hb⟩ := hrel
        have HB := Lib.hid hb
        clear hb
        by_cases hlt : m < oth.length
        · obtain ⟨g0, o0, hAs, hgl, c0, c1, c2, c3, c4⟩ := (HY.out.evIn.below HB.out (Nat.le_refl _)).five m hlt
          subst hAs
          obtain ⟨y, hy⟩ : ∃ y, y = oth[m] := ⟨_, rfl⟩
          rw [← hy] at c0 c1 c2 c3 c4
          have hyk : y.kind.length ≤ 600 := by rw [hy]; exact HKY.out _ (List.getElem_mem hlt)
          have hta : (oth.take (m + 1)).all okB = ((oth.take m).all okB && okB y) := by
            rw [List.take_succ_eq_append_getElem hlt, List.all_append, ← hy]; simp
          obtain ⟨F, hF⟩ : ∃ F, F = (oth.take m).all okB := ⟨_, rfl⟩
          rw [← hF] at hta ⊢
          have HTK := Lib.hid hta
          obtain ⟨A2, hA2⟩ : ∃ A2, A2 = wr.alloc (.cells #[.int .u64 y.n, .int .u64 y.tick, str y.kind, .int .i64 y.conn, str y.text] tEv) := ⟨_, rfl⟩
          have HBA := Lib.hid (show Below wr.heap.size wr A2 from by rw [hA2]; exact (Below.refl _ wr).alloc (Nat.le_refl _) _)
          have HB2 := Lib.hid (HB.out.trans (HBA.out.mono HB.out.size))
          cases ho : okB y with
          | true =>
            have HLN := Lib.hid (refLine_ok y ((okB_iff y).1 ho) A2)
            have HTX := Lib.hid (show (oth.take (m + 1)).all okB = F from by rw [HTK.out, ho, Bool.and_true])
            clear hta hF hy hyk ho HTK
            unfold evA at HLN
            generalize evLine y = X at HLN
            go_wp2_with fail
            rw [← hA2]
            refine HLN.out.mono ?_
            rintro r w3 ⟨rfl, hb3⟩
            have HB3 := Lib.hid (HB2.out.trans (hb3.mono HB2.out.size))
            clear hb3 hA2 c0 c1 c2 c3 c4 HLN
            go_wp2_with fail
            go_roundw
            case rel => exact ⟨m + 1, by omega, by go_num, by rw [HTX.out], HB3.out⟩
            case measure => simp [intOf]; omega
          | false =>
            have HLN := Lib.hid (refLine_bad y hyk (okB_false y ho) A2)
            have HTX := Lib.hid (show (oth.take (m + 1)).all okB = false from by rw [HTK.out, ho, Bool.and_false])
            clear hta hF hy hyk ho HTK
            unfold evA at HLN
            go_wp2_with fail
            rw [← hA2]
            refine HLN.out.mono ?_
            rintro r w3 ⟨rfl, hb3⟩
            have HB3 := Lib.hid (HB2.out.trans (hb3.mono HB2.out.size))
            clear hb3 hA2 c0 c1 c2 c3 c4 HLN
            go_wp2_with fail
            go_roundw
            case rel => exact ⟨m + 1, by omega, by go_num, by rw [HTX.out], HB3.out⟩
            case measure => simp [intOf]; omega
        · have hmx : m = oth.length := by omega
          rw [hmx, List.take_length]
          have hbw : Below X2.heap.size X2 wr := HBY.out.trans (HB.out.mono HBY.out.size)
          have HPW := Lib.hid (HP2'.out.below hbw)
          have HZW := Lib.hid ((HZ2'.out.below hbw (Nat.le_refl _)).more hbw.size)
          have HYW := Lib.hid (HY.out.below HB.out)
          have HBW := Lib.hid (HB2'.out.trans (hbw.mono HB2'.out.size))
          clear hbw
          cases hw : oth.all okB with
          | false =>
            go_wp2_with fail
            refine (trChain_any HPW.out.tr).mono ?_
            rintro e Y1 ⟨vQ, rfl, hOH, hbH⟩
            have HQ := Lib.hid (show Sl Y1 Y1.heap.size vQ (chainR z32 all) from hOH.sl)
            have HBQ := Lib.hid (HBW.out.trans (hbH.mono HBW.out.size))
            have HYQ := Lib.hid (HYW.out.below hbH)
            have HZQ := Lib.hid ((HZW.out.below hbH (Nat.le_refl _)).more hbH.size)
            have HAQ := Lib.hid (HTA.out Y1 HBQ.out)
            clear hOH hbH HPW HZW HYW HBW
            go_wp2_with fail
            refine (verify_any Y1.heap.size Y1.heap.size Y1.heap.size _ vQ z32 (chainR z32 all) _ oth Y1 HZQ.out (Nat.le_refl _) rfl HQ.out (Nat.le_refl _) HYQ.out.evIn (Nat.le_refl _) (by have := HLY.out; omega) HKY.out HAQ.out.1 HAQ.out.2).mono ?_
            rintro e Y2 ⟨he, hb2⟩
            rw [hw, Bool.false_and] at he
            subst he
            have HBR := Lib.hid (HBQ.out.trans (hb2.mono HBQ.out.size))
            clear hb2
            go_wp2_with fail
            go_ret
            exact ⟨rfl, HBR.out⟩
          | true =>
            have HDD := Lib.hid (eq_dec (chainR z32 oth) (chainR z32 all))
            go_wp2_with fail
            refine (back_any wr.heap.size _ oth wr HYW.out.evIn (Nat.le_refl _) (by have := HLY.out; omega)).mono ?_
            rintro e Y1 ⟨vB, rfl, hOB, hbB⟩
            have HOB := Lib.hid hOB
            have HB1' := Lib.hid (HBW.out.trans (hbB.mono HBW.out.size))
            have HP1' := Lib.hid (HPW.out.below hbB)
            have HY1 := Lib.hid (HYW.out.below hbB)
            have HZ1 := Lib.hid ((HZW.out.below hbB (Nat.le_refl _)).more hbB.size)
            clear hOB hbB HPW HZW HYW HBW
            go_wp2_with fail
            have hGY : 3 < Y1.heap.size := by have := HB1'.out.size; omega
            refine (refChain_any Y1.heap.size _ z32 _ oth Y1 HZ1.out (Nat.le_refl _) (by show (List.replicate 32 (0 : UInt8)).length ≤ 100; simp) HOB.out.evIn (by have := HLY.out; omega) HKY.out (HTB.out Y1 HB1'.out) hGY).mono ?_
            rintro e Y2 ⟨vR, rfl, hSR, hb2⟩
            have HSR := Lib.hid hSR
            have HB2y := Lib.hid (HB1'.out.trans (hb2.mono HB1'.out.size))
            have HP2y := Lib.hid (HP1'.out.below hb2)
            have HY2 := Lib.hid (HY1.out.below hb2)
            have HZ2 := Lib.hid ((HZ1.out.below hb2 (Nat.le_refl _)).more hb2.size)
            clear hSR hb2 HP1' HZ1 HY1 HB1' HOB hGY
            go_wp2_with fail
            refine (trChain_any HP2y.out.tr).mono ?_
            rintro e Y3 ⟨vQ, rfl, hOH, hbH⟩
            have HQ := Lib.hid (show Sl Y3 Y3.heap.size vQ (chainR z32 all) from hOH.sl)
            have HSR3 := Lib.hid (HSR.out.below hbH (Nat.le_refl _))
            have HB3y := Lib.hid (HB2y.out.trans (hbH.mono HB2y.out.size))
            have HP3y := Lib.hid (HP2y.out.below hbH)
            have HY3 := Lib.hid (HY2.out.below hbH)
            have HZ3 := Lib.hid ((HZ2.out.below hbH (Nat.le_refl _)).more hbH.size)
            clear hOH hbH HP2y HZ2 HY2 HB2y HSR
            go_wp2_with fail
            refine (same_any _ _ vR vQ (chainR z32 oth) (chainR z32 all) Y3 HSR3.out HQ.out).mono ?_
            rintro e Y4 ⟨rfl, hX⟩
            subst hX
            clear HSR3 HQ
            cases hd : (chainR z32 oth == chainR z32 all) with
            | true =>
              go_wp2_with fail
              refine (trChain_any HP3y.out.tr).mono ?_
              rintro e Y5 ⟨vQ2, rfl, hOH, hbH⟩
              have HQ2 := Lib.hid (show Sl Y5 Y5.heap.size vQ2 (chainR z32 all) from hOH.sl)
              have HB5y := Lib.hid (HB3y.out.trans (hbH.mono HB3y.out.size))
              have HY5 := Lib.hid (HY3.out.below hbH)
              have HZ5 := Lib.hid ((HZ3.out.below hbH (Nat.le_refl _)).more hbH.size)
              have HA5 := Lib.hid (HTA.out Y5 HB5y.out)
              clear hOH hbH HP3y HZ3 HY3 HB3y
              go_wp2_with fail
              refine (verify_any Y5.heap.size Y5.heap.size Y5.heap.size _ vQ2 z32 (chainR z32 all) _ oth Y5 HZ5.out (Nat.le_refl _) rfl HQ2.out (Nat.le_refl _) HY5.out.evIn (Nat.le_refl _) (by have := HLY.out; omega) HKY.out HA5.out.1 HA5.out.2).mono ?_
              rintro e Y6 ⟨he, hb6⟩
              rw [hw, Bool.true_and, HDD.out, hd] at he
              subst he
              have HB6y := Lib.hid (HB5y.out.trans (hb6.mono HB5y.out.size))
              clear hb6
              go_wp2_with fail
              go_ret
              exact ⟨rfl, HB6y.out⟩
            | false =>
              go_wp2_with fail
              refine (trChain_any HP3y.out.tr).mono ?_
              rintro e Y5 ⟨vQ2, rfl, hOH, hbH⟩
              have HQ2 := Lib.hid (show Sl Y5 Y5.heap.size vQ2 (chainR z32 all) from hOH.sl)
              have HB5y := Lib.hid (HB3y.out.trans (hbH.mono HB3y.out.size))
              have HY5 := Lib.hid (HY3.out.below hbH)
              have HZ5 := Lib.hid ((HZ3.out.below hbH (Nat.le_refl _)).more hbH.size)
              have HA5 := Lib.hid (HTA.out Y5 HB5y.out)
              clear hOH hbH HP3y HZ3 HY3 HB3y
              go_wp2_with fail
              refine (verify_any Y5.heap.size Y5.heap.size Y5.heap.size _ vQ2 z32 (chainR z32 all) _ oth Y5 HZ5.out (Nat.le_refl _) rfl HQ2.out (Nat.le_refl _) HY5.out.evIn (Nat.le_refl _) (by have := HLY.out; omega) HKY.out HA5.out.1 HA5.out.2).mono ?_
              rintro e Y6 ⟨he, hb6⟩
              rw [hw, Bool.true_and, HDD.out, hd] at he
              subst he
              have HB6y := Lib.hid (HB5y.out.trans (hb6.mono HB5y.out.size))
              clear hb6
              go_wp2_with fail
              go_ret
              exact ⟨rfl, HB6y.out⟩
    · have hj3 : j % 3 = 1 := hj
      have htm : j.tmod 3 = 1 := by rw [Int.tmod_eq_emod_of_nonneg HJ0.out]; exact hj
      obtain ⟨g0, o0, hAs, hgl, c0, c1, c2, c3, c4⟩ := HO3'.out.evIn.five k HKL.out
      injection hAs with hAs
      injection hAs with e1 e2 _
      subst e1; subst e2
      rw [Nat.zero_add] at c0 c1 c2 c3 c4
      obtain ⟨y, hy⟩ : ∃ y, y = all[k]'HKL.out := ⟨_, rfl⟩
      have hym : y ∈ all := by rw [hy]; exact List.getElem_mem HKL.out
      rw [← hy] at c0 c1 c2 c3 c4
      clear hy
      go_wp2_with fail
      obtain ⟨W, hW⟩ : ∃ W, W = X3.alloc (.cells #[.int .u64 y.n, .int .u64 y.tick, str y.kind, .int .i64 y.conn, str y.text] tEv) := ⟨_, rfl⟩
      have hbW : Below X3.heap.size X3 W := by rw [hW]; exact (Below.refl _ X3).alloc (Nat.le_refl _) _
      have hbX : Below X2.heap.size X2 W := H23.out.trans (hbW.mono H23.out.size)
      have hgx : gX < X3.heap.size := (HX3.out.lt gX rfl).2
      rw [← hW]
      refine (insert_ev X2.heap.size gX cX X3.heap.size all y k W (HX3.out.below hbW) HKL.out (by have := HAL.out; omega) (by rw [hW]; exact heap_alloc_new X3 _) (by omega) hbX.size).mono ?_
      rintro e Y ⟨vY, rfl, hO, hg⟩
      obtain ⟨oth, hoth⟩ : ∃ o, o = all.take k ++ y :: all.drop k := ⟨_, rfl⟩
      rw [← hoth] at hO
      have HY := Lib.hid hO
      have HBY := Lib.hid (show Below X2.heap.size X2 Y from hbX.trans ((HX3.out.below hbW).belowBase hg hbX.size))
      have HKY := Lib.hid (show ∀ e ∈ oth, e.kind.length ≤ 600 from fun e he => by
        rw [hoth] at he
        rcases List.mem_append.1 he with he | he
        · exact HKD.out e (List.mem_of_mem_take he)
        · rcases List.mem_cons.1 he with rfl | he
          · exact HKD.out _ hym
          · exact HKD.out e (List.mem_of_mem_drop he))
      have HLY := Lib.hid (show oth.length ≤ 50 from by rw [hoth, List.length_append, List.length_take, List.length_cons, List.length_drop]; have := HAL.out; omega)
      clear hO hg hoth HX3 hW hbW hbX hgx hym c0 c1 c2 c3 c4 hgl
      obtain ⟨AY, cY, eY, hy1, hy2⟩ := HY.out.form
      subst eY
      go_wp2_with fail
      go_loopw [17, 109] (fun v i wr => ∃ m : Nat, m ≤ oth.length ∧ i = .int .i64 (m : Int) ∧ v = .bool ((oth.take m).all okB) ∧ Below Y.heap.size Y wr) (fun _ i _ => oth.length - (intOf i).toNat)
      case atStart => exact ⟨0, by omega, rfl, by rw [List.take_zero]; rfl, Below.refl _ _⟩
      case round =>
        obtain ⟨m, hml, rfl, rfl, hb⟩ := hrel
        have HB := Lib.hid hb
        clear hb
        by_cases hlt : m < oth.length
        · obtain ⟨g0, o0, hAs, hgl, c0, c1, c2, c3, c4⟩ := (HY.out.evIn.below HB.out (Nat.le_refl _)).five m hlt
          subst hAs
          obtain ⟨y, hy⟩ : ∃ y, y = oth[m] := ⟨_, rfl⟩
          rw [← hy] at c0 c1 c2 c3 c4
          have hyk : y.kind.length ≤ 600 := by rw [hy]; exact HKY.out _ (List.getElem_mem hlt)
          have hta : (oth.take (m + 1)).all okB = ((oth.take m).all okB && okB y) := by
            rw [List.take_succ_eq_append_getElem hlt, List.all_append, ← hy]; simp
          obtain ⟨F, hF⟩ : ∃ F, F = (oth.take m).all okB := ⟨_, rfl⟩
          rw [← hF] at hta ⊢
          have HTK := Lib.hid hta
          obtain ⟨A2, hA2⟩ : ∃ A2, A2 = wr.alloc (.cells #[.int .u64 y.n, .int .u64 y.tick, str y.kind, .int .i64 y.conn, str y.text] tEv) := ⟨_, rfl⟩
          have HBA := Lib.hid (show Below wr.heap.size wr A2 from by rw [hA2]; exact (Below.refl _ wr).alloc (Nat.le_refl _) _)
          have HB2 := Lib.hid (HB.out.trans (HBA.out.mono HB.out.size))
          cases ho : okB y with
          | true =>
            have HLN := Lib.hid (refLine_ok y ((okB_iff y).1 ho) A2)
            have HTX := Lib.hid (show (oth.take (m + 1)).all okB = F from by rw [HTK.out, ho, Bool.and_true])
            clear hta hF hy hyk ho HTK
            unfold evA at HLN
            generalize evLine y = X at HLN
            go_wp2_with fail
            rw [← hA2]
            refine HLN.out.mono ?_
            rintro r w3 ⟨rfl, hb3⟩
            have HB3 := Lib.hid (HB2.out.trans (hb3.mono HB2.out.size))
            clear hb3 hA2 c0 c1 c2 c3 c4 HLN
            go_wp2_with fail
            go_roundw
            case rel => exact ⟨m + 1, by omega, by go_num, by rw [HTX.out], HB3.out⟩
            case measure => simp [intOf]; omega
          | false =>
            have HLN := Lib.hid (refLine_bad y hyk (okB_false y ho) A2)
            have HTX := Lib.hid (show (oth.take (m + 1)).all okB = false from by rw [HTK.out, ho, Bool.and_false])
            clear hta hF hy hyk ho HTK
            unfold evA at HLN
            go_wp2_with fail
            rw [← hA2]
            refine HLN.out.mono ?_
            rintro r w3 ⟨rfl, hb3⟩
            have HB3 := Lib.hid (HB2.out.trans (hb3.mono HB2.out.size))
            clear hb3 hA2 c0 c1 c2 c3 c4 HLN
            go_wp2_with fail
            go_roundw
            case rel => exact ⟨m + 1, by omega, by go_num, by rw [HTX.out], HB3.out⟩
            case measure => simp [intOf]; omega
        · have hmx : m = oth.length := by omega
          rw [hmx, List.take_length]
          have hbw : Below X2.heap.size X2 wr := HBY.out.trans (HB.out.mono HBY.out.size)
          have HPW := Lib.hid (HP2'.out.below hbw)
          have HZW := Lib.hid ((HZ2'.out.below hbw (Nat.le_refl _)).more hbw.size)
          have HYW := Lib.hid (HY.out.below HB.out)
          have HBW := Lib.hid (HB2'.out.trans (hbw.mono HB2'.out.size))
          clear hbw
          cases hw : oth.all okB with
          | false =>
            go_wp2_with fail
            refine (trChain_any HPW.out.tr).mono ?_
            rintro e Y1 ⟨vQ, rfl, hOH, hbH⟩
            have HQ := Lib.hid (show Sl Y1 Y1.heap.size vQ (chainR z32 all) from hOH.sl)
            have HBQ := Lib.hid (HBW.out.trans (hbH.mono HBW.out.size))
            have HYQ := Lib.hid (HYW.out.below hbH)
            have HZQ := Lib.hid ((HZW.out.below hbH (Nat.le_refl _)).more hbH.size)
            have HAQ := Lib.hid (HTA.out Y1 HBQ.out)
            clear hOH hbH HPW HZW HYW HBW
            go_wp2_with fail
            refine (verify_any Y1.heap.size Y1.heap.size Y1.heap.size _ vQ z32 (chainR z32 all) _ oth Y1 HZQ.out (Nat.le_refl _) rfl HQ.out (Nat.le_refl _) HYQ.out.evIn (Nat.le_refl _) (by have := HLY.out; omega) HKY.out HAQ.out.1 HAQ.out.2).mono ?_
            rintro e Y2 ⟨he, hb2⟩
            rw [hw, Bool.false_and] at he
            subst he
            have HBR := Lib.hid (HBQ.out.trans (hb2.mono HBQ.out.size))
            clear hb2
            go_wp2_with fail
            go_ret
            exact ⟨rfl, HBR.out⟩
          | true =>
            have HDD := Lib.hid (eq_dec (chainR z32 oth) (chainR z32 all))
            go_wp2_with fail
            refine (back_any wr.heap.size _ oth wr HYW.out.evIn (Nat.le_refl _) (by have := HLY.out; omega)).mono ?_
            rintro e Y1 ⟨vB, rfl, hOB, hbB⟩
            have HOB := Lib.hid hOB
            have HB1' := Lib.hid (HBW.out.trans (hbB.mono HBW.out.size))
            have HP1' := Lib.hid (HPW.out.below hbB)
            have HY1 := Lib.hid (HYW.out.below hbB)
            have HZ1 := Lib.hid ((HZW.out.below hbB (Nat.le_refl _)).more hbB.size)
            clear hOB hbB HPW HZW HYW HBW
            go_wp2_with fail
            have hGY : 3 < Y1.heap.size := by have := HB1'.out.size; omega
            refine (refChain_any Y1.heap.size _ z32 _ oth Y1 HZ1.out (Nat.le_refl _) (by show (List.replicate 32 (0 : UInt8)).length ≤ 100; simp) HOB.out.evIn (by have := HLY.out; omega) HKY.out (HTB.out Y1 HB1'.out) hGY).mono ?_
            rintro e Y2 ⟨vR, rfl, hSR, hb2⟩
            have HSR := Lib.hid hSR
            have HB2y := Lib.hid (HB1'.out.trans (hb2.mono HB1'.out.size))
            have HP2y := Lib.hid (HP1'.out.below hb2)
            have HY2 := Lib.hid (HY1.out.below hb2)
            have HZ2 := Lib.hid ((HZ1.out.below hb2 (Nat.le_refl _)).more hb2.size)
            clear hSR hb2 HP1' HZ1 HY1 HB1' HOB hGY
            go_wp2_with fail
            refine (trChain_any HP2y.out.tr).mono ?_
            rintro e Y3 ⟨vQ, rfl, hOH, hbH⟩
            have HQ := Lib.hid (show Sl Y3 Y3.heap.size vQ (chainR z32 all) from hOH.sl)
            have HSR3 := Lib.hid (HSR.out.below hbH (Nat.le_refl _))
            have HB3y := Lib.hid (HB2y.out.trans (hbH.mono HB2y.out.size))
            have HP3y := Lib.hid (HP2y.out.below hbH)
            have HY3 := Lib.hid (HY2.out.below hbH)
            have HZ3 := Lib.hid ((HZ2.out.below hbH (Nat.le_refl _)).more hbH.size)
            clear hOH hbH HP2y HZ2 HY2 HB2y HSR
            go_wp2_with fail
            refine (same_any _ _ vR vQ (chainR z32 oth) (chainR z32 all) Y3 HSR3.out HQ.out).mono ?_
            rintro e Y4 ⟨rfl, hX⟩
            subst hX
            clear HSR3 HQ
            cases hd : (chainR z32 oth == chainR z32 all) with
            | true =>
              go_wp2_with fail
              refine (trChain_any HP3y.out.tr).mono ?_
              rintro e Y5 ⟨vQ2, rfl, hOH, hbH⟩
              have HQ2 := Lib.hid (show Sl Y5 Y5.heap.size vQ2 (chainR z32 all) from hOH.sl)
              have HB5y := Lib.hid (HB3y.out.trans (hbH.mono HB3y.out.size))
              have HY5 := Lib.hid (HY3.out.below hbH)
              have HZ5 := Lib.hid ((HZ3.out.below hbH (Nat.le_refl _)).more hbH.size)
              have HA5 := Lib.hid (HTA.out Y5 HB5y.out)
              clear hOH hbH HP3y HZ3 HY3 HB3y
              go_wp2_with fail
              refine (verify_any Y5.heap.size Y5.heap.size Y5.heap.size _ vQ2 z32 (chainR z32 all) _ oth Y5 HZ5.out (Nat.le_refl _) rfl HQ2.out (Nat.le_refl _) HY5.out.evIn (Nat.le_refl _) (by have := HLY.out; omega) HKY.out HA5.out.1 HA5.out.2).mono ?_
              rintro e Y6 ⟨he, hb6⟩
              rw [hw, Bool.true_and, HDD.out, hd] at he
              subst he
              have HB6y := Lib.hid (HB5y.out.trans (hb6.mono HB5y.out.size))
              clear hb6
              go_wp2_with fail
              go_ret
              exact ⟨rfl, HB6y.out⟩
            | false =>
              go_wp2_with fail
              refine (trChain_any HP3y.out.tr).mono ?_
              rintro e Y5 ⟨vQ2, rfl, hOH, hbH⟩
              have HQ2 := Lib.hid (show Sl Y5 Y5.heap.size vQ2 (chainR z32 all) from hOH.sl)
              have HB5y := Lib.hid (HB3y.out.trans (hbH.mono HB3y.out.size))
              have HY5 := Lib.hid (HY3.out.below hbH)
              have HZ5 := Lib.hid ((HZ3.out.below hbH (Nat.le_refl _)).more hbH.size)
              have HA5 := Lib.hid (HTA.out Y5 HB5y.out)
              clear hOH hbH HP3y HZ3 HY3 HB3y
              go_wp2_with fail
              refine (verify_any Y5.heap.size Y5.heap.size Y5.heap.size _ vQ2 z32 (chainR z32 all) _ oth Y5 HZ5.out (Nat.le_refl _) rfl HQ2.out (Nat.le_refl _) HY5.out.evIn (Nat.le_refl _) (by have := HLY.out; omega) HKY.out HA5.out.1 HA5.out.2).mono ?_
              rintro e Y6 ⟨he, hb6⟩
              rw [hw, Bool.true_and, HDD.out, hd] at he
              subst he
              have HB6y := Lib.hid (HB5y.out.trans (hb6.mono HB5y.out.size))
              clear hb6
              go_wp2_with fail
              go_ret
              exact ⟨rfl, HB6y.out⟩
    · have hj3 : j % 3 = 2 := hj
      have htm : j.tmod 3 = 2 := by rw [Int.tmod_eq_emod_of_nonneg HJ0.out]; exact hj
      obtain ⟨g0, o0, hAs, hgl, -, -, -, -, c4⟩ := HX3.out.evIn.five k HKL.out
      injection hAs with hAs
      injection hAs with e1 e2 _
      subst e1; subst e2
      rw [Nat.zero_add] at c4
      obtain ⟨cs9, hh9, -, -, -, -, -, -⟩ := HX3.out.heap
      have hB9 : Blk X3 gX cs9 := ⟨_, hh9⟩
      obtain ⟨y, hy⟩ : ∃ y, y = all[k]'HKL.out := ⟨_, rfl⟩
      have hym : y ∈ all := by rw [hy]; exact List.getElem_mem HKL.out
      rw [← hy] at c4
      obtain ⟨b8, hb8⟩ : ∃ b8, b8 = UInt8.ofNat b.toNat := ⟨_, rfl⟩
      have HB8V := Lib.hid (show Value.int .u8 b = vb b8 from by rw [hb8]; exact vb_ofB b _hb0 _hb1)
      clear hb8
      have hgx : gX < X3.heap.size := hB9.lt
      have d4 : X3.drew.cell? ⟨gX, k * 5 + 4, none⟩ = some (str y.text) := c4
      have d5 : X3.drew.frozen? ⟨gX, k * 5 + 4, none⟩ = false := hB9.free _
      have d6 : (X3.alloc (.cells #[.int .u8 b] 5)).drew.cell? ⟨gX, k * 5 + 4, none⟩ = some (str y.text) := ((hB9.alloc _).cell _).trans ((hB9.cell _).symm.trans c4)
      have d7 : (X3.alloc (.cells #[.int .u8 b] 5)).drew.frozen? ⟨gX, k * 5 + 4, none⟩ = false := (hB9.alloc _).free _
      have hcv : (convert 56 9 (.slice (some ⟨X3.heap.size, 0, none⟩) 1 1)).run Tryz.prog (X3.alloc (.cells #[.int .u8 b] 5)).drew = .ok (str [b8]) (X3.alloc (.cells #[.int .u8 b] 5)).drew := by
        rw [HB8V.out]; exact conv_sl (w := (X3.alloc (.cells #[vb b8] 5)).drew) (one_sl X3 b8)
      have hba := bytes_add y.text [b8]
      have hyl : y.text.length ≤ 200 := (HOK.out y hym).l
      have hyl2 : ¬ (9223372036854775807 < y.text.length + 1) := by omega
      have HYE := Lib.hid hy
      clear hy
      go_wp2_with fail
      go_region
      obtain ⟨Y, hY⟩ : ∃ Y, Y = ((X3.setCell ⟨gX, k * 5 + 4, none⟩ (.string ⟨(y.text ++ [b8]).toArray⟩)).alloc (.cells #[.int .u8 b] 5)).drew := ⟨_, rfl⟩
      obtain ⟨vY, hvY⟩ : ∃ v, v = Value.slice (some ⟨gX, 0, none⟩) all.length cX := ⟨_, rfl⟩
      obtain ⟨oth, hoth⟩ : ∃ o, o = all.set k { all[k]'HKL.out with text := y.text ++ [b8] } := ⟨_, rfl⟩
      have hO1 := HX3.out.setText k HKL.out (y.text ++ [b8])
      rw [← hoth, ← hvY] at hO1
      have hge := (HX3.out.lt gX rfl).1
      have HY := Lib.hid (show OwnV tEv Y X2.heap.size vY oth from by rw [hY]; exact hO1.below (((Below.refl _ _).alloc (Nat.le_refl _) _).drew))
      have HBY := Lib.hid (show Below X2.heap.size X2 Y from by rw [hY]; exact H23.out.trans ((((Below.refl X2.heap.size X3).setCell (p := ⟨gX, k * 5 + 4, none⟩) hge _).alloc (by simpa using H23.out.size) _).drew))
      have HKY := Lib.hid (show ∀ e ∈ oth, e.kind.length ≤ 600 from fun e he => by
        rw [hoth] at he
        rcases List.mem_or_eq_of_mem_set he with he | he
        · exact HKD.out e he
        · have h9 := HKD.out (all[k]'HKL.out) (List.getElem_mem HKL.out)
          rw [he]; exact h9)
      have HLY := Lib.hid (show oth.length ≤ 50 from by rw [hoth, List.length_set]; have := HAL.out; omega)
      rw [← hY, ← hvY]
      clear hO1 hge hY hvY hoth HX3 HYE hyl hyl2 hba hcv d4 d5 d6 d7 hgx hym c4 hgl hB9 hh9 HB8V
      obtain ⟨AY, cY, eY, hy1, hy2⟩ := HY.out.form
      subst eY
      go_wp2_with fail
      go_loopw [17, 109] (fun v i wr => ∃ m : Nat, m ≤ oth.length ∧ i = .int .i64 (m : Int) ∧ v = .bool ((oth.take m).all okB) ∧ Below Y.heap.size Y wr) (fun _ i _ => oth.length - (intOf i).toNat)
      case atStart => exact ⟨0, by omega, rfl, by rw [List.take_zero]; rfl, Below.refl _ _⟩
      case round =>
        obtain ⟨m, hml, rfl, rfl, hb⟩ := hrel
        have HB := Lib.hid hb
        clear hb
        by_cases hlt : m < oth.length
        · obtain ⟨g0, o0, hAs, hgl, c0, c1, c2, c3, c4⟩ := (HY.out.evIn.below HB.out (Nat.le_refl _)).five m hlt
          subst hAs
          obtain ⟨y, hy⟩ : ∃ y, y = oth[m] := ⟨_, rfl⟩
          rw [← hy] at c0 c1 c2 c3 c4
          have hyk : y.kind.length ≤ 600 := by rw [hy]; exact HKY.out _ (List.getElem_mem hlt)
          have hta : (oth.take (m + 1)).all okB = ((oth.take m).all okB && okB y) := by
            rw [List.take_succ_eq_append_getElem hlt, List.all_append, ← hy]; simp
          obtain ⟨F, hF⟩ : ∃ F, F = (oth.take m).all okB := ⟨_, rfl⟩
          rw [← hF] at hta ⊢
          have HTK := Lib.hid hta
          obtain ⟨A2, hA2⟩ : ∃ A2, A2 = wr.alloc (.cells #[.int .u64 y.n, .int .u64 y.tick, str y.kind, .int .i64 y.conn, str y.text] tEv) := ⟨_, rfl⟩
          have HBA := Lib.hid (show Below wr.heap.size wr A2 from by rw [hA2]; exact (Below.refl _ wr).alloc (Nat.le_refl _) _)
          have HB2 := Lib.hid (HB.out.trans (HBA.out.mono HB.out.size))
          cases ho : okB y with
          | true =>
            have HLN := Lib.hid (refLine_ok y ((okB_iff y).1 ho) A2)
            have HTX := Lib.hid (show (oth.take (m + 1)).all okB = F from by rw [HTK.out, ho, Bool.and_true])
            clear hta hF hy hyk ho HTK
            unfold evA at HLN
            generalize evLine y = X at HLN
            go_wp2_with fail
            rw [← hA2]
            refine HLN.out.mono ?_
            rintro r w3 ⟨rfl, hb3⟩
            have HB3 := Lib.hid (HB2.out.trans (hb3.mono HB2.out.size))
            clear hb3 hA2 c0 c1 c2 c3 c4 HLN
            go_wp2_with fail
            go_roundw
            case rel => exact ⟨m + 1, by omega, by go_num, by rw [HTX.out], HB3.out⟩
            case measure => simp [intOf]; omega
          | false =>
            have HLN := Lib.hid (refLine_bad y hyk (okB_false y ho) A2)
            have HTX := Lib.hid (show (oth.take (m + 1)).all okB = false from by rw [HTK.out, ho, Bool.and_false])
            clear hta hF hy hyk ho HTK
            unfold evA at HLN
            go_wp2_with fail
            rw [← hA2]
            refine HLN.out.mono ?_
            rintro r w3 ⟨rfl, hb3⟩
            have HB3 := Lib.hid (HB2.out.trans (hb3.mono HB2.out.size))
            clear hb3 hA2 c0 c1 c2 c3 c4 HLN
            go_wp2_with fail
            go_roundw
            case rel => exact ⟨m + 1, by omega, by go_num, by rw [HTX.out], HB3.out⟩
            case measure => simp [intOf]; omega
        · have hmx : m = oth.length := by omega
          rw [hmx, List.take_length]
          have hbw : Below X2.heap.size X2 wr := HBY.out.trans (HB.out.mono HBY.out.size)
          have HPW := Lib.hid (HP2'.out.below hbw)
          have HZW := Lib.hid ((HZ2'.out.below hbw (Nat.le_refl _)).more hbw.size)
          have HYW := Lib.hid (HY.out.below HB.out)
          have HBW := Lib.hid (HB2'.out.trans (hbw.mono HB2'.out.size))
          clear hbw
          cases hw : oth.all okB with
          | false =>
            go_wp2_with fail
            refine (trChain_any HPW.out.tr).mono ?_
            rintro e Y1 ⟨vQ, rfl, hOH, hbH⟩
            have HQ := Lib.hid (show Sl Y1 Y1.heap.size vQ (chainR z32 all) from hOH.sl)
            have HBQ := Lib.hid (HBW.out.trans (hbH.mono HBW.out.size))
            have HYQ := Lib.hid (HYW.out.below hbH)
            have HZQ := Lib.hid ((HZW.out.below hbH (Nat.le_refl _)).more hbH.size)
            have HAQ := Lib.hid (HTA.out Y1 HBQ.out)
            clear hOH hbH HPW HZW HYW HBW
            go_wp2_with fail
            refine (verify_any Y1.heap.size Y1.heap.size Y1.heap.size _ vQ z32 (chainR z32 all) _ oth Y1 HZQ.out (Nat.le_refl _) rfl HQ.out (Nat.le_refl _) HYQ.out.evIn (Nat.le_refl _) (by have := HLY.out; omega) HKY.out HAQ.out.1 HAQ.out.2).mono ?_
            rintro e Y2 ⟨he, hb2⟩
            rw [hw, Bool.false_and] at he
            subst he
            have HBR := Lib.hid (HBQ.out.trans (hb2.mono HBQ.out.size))
            clear hb2
            go_wp2_with fail
            go_ret
            exact ⟨rfl, HBR.out⟩
          | true =>
            have HDD := Lib.hid (eq_dec (chainR z32 oth) (chainR z32 all))
            go_wp2_with fail
            refine (back_any wr.heap.size _ oth wr HYW.out.evIn (Nat.le_refl _) (by have := HLY.out; omega)).mono ?_
            rintro e Y1 ⟨vB, rfl, hOB, hbB⟩
            have HOB := Lib.hid hOB
            have HB1' := Lib.hid (HBW.out.trans (hbB.mono HBW.out.size))
            have HP1' := Lib.hid (HPW.out.below hbB)
            have HY1 := Lib.hid (HYW.out.below hbB)
            have HZ1 := Lib.hid ((HZW.out.below hbB (Nat.le_refl _)).more hbB.size)
            clear hOB hbB HPW HZW HYW HBW
            go_wp2_with fail
            have hGY : 3 < Y1.heap.size := by have := HB1'.out.size; omega
            refine (refChain_any Y1.heap.size _ z32 _ oth Y1 HZ1.out (Nat.le_refl _) (by show (List.replicate 32 (0 : UInt8)).length ≤ 100; simp) HOB.out.evIn (by have := HLY.out; omega) HKY.out (HTB.out Y1 HB1'.out) hGY).mono ?_
            rintro e Y2 ⟨vR, rfl, hSR, hb2⟩
            have HSR := Lib.hid hSR
            have HB2y := Lib.hid (HB1'.out.trans (hb2.mono HB1'.out.size))
            have HP2y := Lib.hid (HP1'.out.below hb2)
            have HY2 := Lib.hid (HY1.out.below hb2)
            have HZ2 := Lib.hid ((HZ1.out.below hb2 (Nat.le_refl _)).more hb2.size)
            clear hSR hb2 HP1' HZ1 HY1 HB1' HOB hGY
            go_wp2_with fail
            refine (trChain_any HP2y.out.tr).mono ?_
            rintro e Y3 ⟨vQ, rfl, hOH, hbH⟩
            have HQ := Lib.hid (show Sl Y3 Y3.heap.size vQ (chainR z32 all) from hOH.sl)
            have HSR3 := Lib.hid (HSR.out.below hbH (Nat.le_refl _))
            have HB3y := Lib.hid (HB2y.out.trans (hbH.mono HB2y.out.size))
            have HP3y := Lib.hid (HP2y.out.below hbH)
            have HY3 := Lib.hid (HY2.out.below hbH)
            have HZ3 := Lib.hid ((HZ2.out.below hbH (Nat.le_refl _)).more hbH.size)
            clear hOH hbH HP2y HZ2 HY2 HB2y HSR
            go_wp2_with fail
            refine (same_any _ _ vR vQ (chainR z32 oth) (chainR z32 all) Y3 HSR3.out HQ.out).mono ?_
            rintro e Y4 ⟨rfl, hX⟩
            subst hX
            clear HSR3 HQ
            cases hd : (chainR z32 oth == chainR z32 all) with
            | true =>
              go_wp2_with fail
              refine (trChain_any HP3y.out.tr).mono ?_
              rintro e Y5 ⟨vQ2, rfl, hOH, hbH⟩
              have HQ2 := Lib.hid (show Sl Y5 Y5.heap.size vQ2 (chainR z32 all) from hOH.sl)
              have HB5y := Lib.hid (HB3y.out.trans (hbH.mono HB3y.out.size))
              have HY5 := Lib.hid (HY3.out.below hbH)
              have HZ5 := Lib.hid ((HZ3.out.below hbH (Nat.le_refl _)).more hbH.size)
              have HA5 := Lib.hid (HTA.out Y5 HB5y.out)
              clear hOH hbH HP3y HZ3 HY3 HB3y
              go_wp2_with fail
              refine (verify_any Y5.heap.size Y5.heap.size Y5.heap.size _ vQ2 z32 (chainR z32 all) _ oth Y5 HZ5.out (Nat.le_refl _) rfl HQ2.out (Nat.le_refl _) HY5.out.evIn (Nat.le_refl _) (by have := HLY.out; omega) HKY.out HA5.out.1 HA5.out.2).mono ?_
              rintro e Y6 ⟨he, hb6⟩
              rw [hw, Bool.true_and, HDD.out, hd] at he
              subst he
              have HB6y := Lib.hid (HB5y.out.trans (hb6.mono HB5y.out.size))
              clear hb6
              go_wp2_with fail
              go_ret
              exact ⟨rfl, HB6y.out⟩
            | false =>
              go_wp2_with fail
              refine (trChain_any HP3y.out.tr).mono ?_
              rintro e Y5 ⟨vQ2, rfl, hOH, hbH⟩
              have HQ2 := Lib.hid (show Sl Y5 Y5.heap.size vQ2 (chainR z32 all) from hOH.sl)
              have HB5y := Lib.hid (HB3y.out.trans (hbH.mono HB3y.out.size))
              have HY5 := Lib.hid (HY3.out.below hbH)
              have HZ5 := Lib.hid ((HZ3.out.below hbH (Nat.le_refl _)).more hbH.size)
              have HA5 := Lib.hid (HTA.out Y5 HB5y.out)
              clear hOH hbH HP3y HZ3 HY3 HB3y
              go_wp2_with fail
              refine (verify_any Y5.heap.size Y5.heap.size Y5.heap.size _ vQ2 z32 (chainR z32 all) _ oth Y5 HZ5.out (Nat.le_refl _) rfl HQ2.out (Nat.le_refl _) HY5.out.evIn (Nat.le_refl _) (by have := HLY.out; omega) HKY.out HA5.out.1 HA5.out.2).mono ?_
              rintro e Y6 ⟨he, hb6⟩
              rw [hw, Bool.true_and, HDD.out, hd] at he
              subst he
              have HB6y := Lib.hid (HB5y.out.trans (hb6.mono HB5y.out.size))
              clear hb6
              go_wp2_with fail
              go_ret
              exact ⟨rfl, HB6y.out⟩
theorem traceVerifies_w (B : Nat) (v0 : Value) (l0 : List OpT) (n1 n2 n3 : Int) (w : World) (h0 : OpsT w B v0 l0) (h1 : (Lit.int .u8 n1).wf = true) (h2 : (Lit.int .u8 n2).wf = true) (h3 : (Lit.int .u8 n3).wf = true) (hB : B ≤ w.heap.size) (hT : TabA w) (hTB : TabB w) (hE : PowE w) :
    Calls Tryz.prog 6 #[v0, .int .u8 n1, .int .u8 n2, .int .u8 n3] w fun e w' => e = .returned (.bool true) ∧ Below w.heap.size w w' := by
  have hw : ∀ n : Int, (Lit.int .u8 n).wf = true → 0 ≤ n ∧ n ≤ 255 := fun n h => by
    simp [Lit.wf, IntKind.min, IntKind.max, IntKind.bits, IntKind.signed] at h
    omega
  exact traceVerifies_law B v0 l0 n1 n2 n3 (hw n1 h1).1 (hw n1 h1).2 (hw n2 h2).1 (hw n2 h2).2 (hw n3 h3).1 (hw n3 h3).2 w h0 hB hT hTB (tabB_lt hTB) hE
end Go.Proofs.YtockimgedckheaaGreatDoor
