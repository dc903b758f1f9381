/- nonce: what a nil Store answers, and the reference's; New where there may be no such store; Right. nonce: New where there may be no such store. nonce: the law's same, on a Store and the reference's. nonce: Entries of a nil Store; the law's same on nil ones. nonce: the law's do on nil ones. -/
import Derived.Test.YthpgdojjecdlcaaNnStep
import Derived.Test.YthpgdojjecdlcaaNnEnt
import Derived.Deep.QuietTactic
import Derived.Deep.RegionHeld3
import Derived.Deep.DeepCutAuto
set_option maxRecDepth 100000
namespace Go.Proofs.Ythpgdojjecdlcaa
open Go.RowKit Go.Shelf
attribute [local go_sem] Oper.semAt_some
abbrev tN : Value := .pointer none
theorem sfind_nil (k : List UInt8) (now : Int) (w : World) : Calls Try.prog 29 #[tN, strT k, u64v now] w fun e w' => e = .returned (.tuple #[.agg #[.string ⟨#[]⟩, .int .u64 0, .bool false, .int .u32 0], .int .i64 6]) ∧ Below w.heap.size w w' := by
  have hb : BlkT (w.alloc (.cells #[.string ⟨#[]⟩, .int .u64 0, .bool false, .int .u32 0] tNe)) w.heap.size tNe [.string ⟨#[]⟩, .int .u64 0, .bool false, .int .u32 0] := heap_alloc_new w _
  have r0 := hb.at (o := 0) rfl
  have r1 := hb.at (o := 1) rfl
  have r2 := hb.at (o := 2) rfl
  have r3 := hb.at (o := 3) rfl
  clear hb
  go_enter Try.func29, Try.ntmps29
  go_wp2_with fail
  refine bodyPost_ret (v := .tuple #[.agg #[.string ⟨#[]⟩, .int .u64 0, .bool false, .int .u32 0], .int .i64 6]) (by simp [results, Try.results29, go_sem, *]) rfl ⟨rfl, (Below.refl _ w).alloc (Nat.le_refl _) _⟩
theorem check_nil (k : List UInt8) (now : Int) (w : World) : Calls Try.prog 20 #[tN, strT k, u64v now] w fun e w' => e = .returned (.int .i64 6) ∧ Below w.heap.size w w' := by
  go_enter Try.func20, Try.ntmps20
  go_wp2_with fail
  refine (sfind_nil k now _).mono ?_
  rintro e w1 ⟨rfl, hb⟩
  have HB := Lib.hid hb; clear hb
  go_wp2_with fail
  go_ret
  exact ⟨rfl, HB.out.alloc HB.out.size _⟩
theorem spend_nil (k : List UInt8) (now : Int) (w : World) : Calls Try.prog 13 #[tN, strT k, u64v now] w fun e w' => e = .returned (.int .i64 6) ∧ Below w.heap.size w w' := by
  go_enter Try.func13, Try.ntmps13
  go_wp2_with fail
  refine (sfind_nil k now _).mono ?_
  rintro e w1 ⟨rfl, hb⟩
  have HB := Lib.hid hb; clear hb
  go_wp2_with fail
  go_ret
  exact ⟨rfl, HB.out.alloc HB.out.size _⟩
theorem use_nil (k : List UInt8) (c now : Int) (w : World) : Calls Try.prog 14 #[tN, strT k, .int .u32 c, u64v now] w fun e w' => e = .returned (.int .i64 6) ∧ Below w.heap.size w w' := by
  go_enter Try.func14, Try.ntmps14
  go_wp2_with fail
  refine (sfind_nil k now _).mono ?_
  rintro e w1 ⟨rfl, hb⟩
  have HB := Lib.hid hb; clear hb
  go_wp2_with fail
  go_ret
  exact ⟨rfl, HB.out.alloc HB.out.size _⟩
theorem sweep_nil (now : Int) (w : World) : Calls Try.prog 15 #[tN, u64v now] w fun e w' => e = .returned (.int .i64 0) ∧ Below w.heap.size w w' := by
  have c0 : ((w.alloc (.cells #[tN] 25)).alloc (.cells #[u64v now] 22)).cell? ⟨w.heap.size, 0, none⟩ = some tN := Boxed.cell ((Boxed.new w 25 tN).alloc _)
  go_enter Try.func15, Try.ntmps15
  go_wp2_with fail
  go_ret
  exact ⟨rfl, ((Below.refl _ w).alloc (Nat.le_refl _) _).alloc (by simp) _⟩
theorem issue_nil (k : List UInt8) (now : Int) (w : World) : Calls Try.prog 16 #[tN, strT k, u64v now] w fun e w' => e = .returned (.tuple #[strT [], .int .i64 6]) ∧ w = w' := by
  go_enter Try.func16, Try.ntmps16
  go_wp2_with fail
  go_ret2
  exact ⟨rfl, rfl⟩
theorem mark_nil (w : World) : Calls Try.prog 19 #[tN] w fun e w' => e = .returned (.tuple #[u64v 0, .bool false]) ∧ w = w' := by
  go_enter Try.func19, Try.ntmps19
  go_wp2_with fail
  go_ret2
  exact ⟨rfl, rfl⟩
theorem serial_nil (w : World) : Calls Try.prog 17 #[tN] w fun e w' => e = .returned (u64v 0) ∧ w = w' := by
  go_enter Try.func17, Try.ntmps17
  go_wp2_with fail
  go_ret
  exact ⟨rfl, rfl⟩
theorem nlen_nil (w : World) : Calls Try.prog 21 #[tN] w fun e w' => e = .returned (.int .i64 0) ∧ w = w' := by
  go_enter Try.func21, Try.ntmps21
  go_wp2_with fail
  go_ret
  exact ⟨rfl, rfl⟩
theorem rfind_nil (k : List UInt8) (now : Int) (w : World) : Calls Try.prog 43 #[tN, strT k, u64v now] w fun e w' => e = .returned (.tuple #[.int .i64 0, .int .i64 6]) ∧ w = w' := by
  go_enter Try.func43, Try.ntmps43
  go_wp2_with fail
  go_ret2
  exact ⟨rfl, rfl⟩
theorem rcheck_nil (k : List UInt8) (now : Int) (w : World) : Calls Try.prog 27 #[tN, strT k, u64v now] w fun e w' => e = .returned (.int .i64 6) ∧ w = w' := by
  go_enter Try.func27, Try.ntmps27
  go_wp2_with fail
  refine (rfind_nil k now _).mono ?_
  rintro e w1 ⟨rfl, rfl⟩
  go_wp2_with fail
  go_ret
  exact ⟨rfl, rfl⟩
theorem rspend_nil (k : List UInt8) (now : Int) (w : World) : Calls Try.prog 24 #[tN, strT k, u64v now] w fun e w' => e = .returned (.int .i64 6) ∧ w = w' := by
  go_enter Try.func24, Try.ntmps24
  go_wp2_with fail
  refine (rfind_nil k now _).mono ?_
  rintro e w1 ⟨rfl, rfl⟩
  go_wp2_with fail
  go_ret
  exact ⟨rfl, rfl⟩
theorem ruse_nil (k : List UInt8) (c now : Int) (w : World) : Calls Try.prog 25 #[tN, strT k, .int .u32 c, u64v now] w fun e w' => e = .returned (.int .i64 6) ∧ w = w' := by
  go_enter Try.func25, Try.ntmps25
  go_wp2_with fail
  refine (rfind_nil k now _).mono ?_
  rintro e w1 ⟨rfl, rfl⟩
  go_wp2_with fail
  go_ret
  exact ⟨rfl, rfl⟩
theorem rsweep_nil (now : Int) (w : World) : Calls Try.prog 26 #[tN, u64v now] w fun e w' => e = .returned (.int .i64 0) ∧ w = w' := by
  go_enter Try.func26, Try.ntmps26
  go_wp2_with fail
  go_ret
  exact ⟨rfl, rfl⟩
theorem rissue_nil (k : List UInt8) (now : Int) (w : World) : Calls Try.prog 28 #[tN, strT k, u64v now] w fun e w' => e = .returned (.tuple #[strT [], .int .i64 6]) ∧ w = w' := by
  go_enter Try.func28, Try.ntmps28
  go_wp2_with fail
  go_ret2
  exact ⟨rfl, rfl⟩
/-- May there be such a store? -/
def rightB (r wd : Int) : Bool := decide (1 ≤ r ∧ r ≤ 64 ∧ 1 ≤ wd ∧ wd ≤ 1099511627776)
theorem right_any (r wd : Int) (w : World) : Calls Try.prog 9 #[.int .i64 r, u64v wd] w fun e w' => e = .returned (.bool (rightB r wd)) ∧ w = w' := by
  have hr : rightB r wd = (decide (1 ≤ r) && decide (r ≤ 64) && decide (1 ≤ wd) && decide (wd ≤ 1099511627776)) := by
    unfold rightB
    rw [Bool.eq_iff_iff]
    simp [and_assoc]
  rw [hr]
  by_cases h1 : 1 ≤ r
  all_goals by_cases h2 : r ≤ 64
  all_goals by_cases h3 : 1 ≤ wd
  all_goals by_cases h4 : wd ≤ 1099511627776
  all_goals
    go_enter Try.func9, Try.ntmps9
    go_wp2_with fail
    go_ret
    exact ⟨by simp [h1, h2, h3, h4], rfl⟩
end Go.Proofs.Ythpgdojjecdlcaa
set_option maxRecDepth 100000
namespace Go.Proofs.Ythpgdojjecdlcaa
open Go.RowKit Go.Shelf
theorem new_ns_bad (r wd : Int) (w : World) (hr : rightB r wd = false) (w0 : 0 ≤ wd) :
    Calls Try.prog 8 #[.agg #[.int .i64 r, u64v wd]] w fun e w' => e = .returned (.tuple #[tN, .int .i64 1]) ∧ Below w.heap.size w w' := by
  obtain ⟨W, hW⟩ : ∃ W, W = w.alloc (.cells #[.int .i64 r, u64v wd] tCf) := ⟨_, rfl⟩
  have hB : Below w.heap.size w W := by rw [hW]; exact (Below.refl _ w).alloc (Nat.le_refl _) _
  have hP : BlkT W w.heap.size tCf [.int .i64 r, u64v wd] := by rw [hW]; exact heap_alloc_new w _
  have c0 : (w.alloc (.cells #[.int .i64 r, u64v wd] tCf)).cell? ⟨w.heap.size, 0, none⟩ = some (.int .i64 r) := by rw [← hW]; exact hP.at rfl
  have HP := Lib.hid hP
  have HB := Lib.hid hB
  clear hP hB
  by_cases hbad : r < 1 ∨ 4096 < r
  · have HN := Lib.hid (new_bad r W hbad)
    clear hr hbad
    go_enter Try.func8, Try.ntmps8
    go_wp2_with fail
    rw [← hW]
    refine HN.out.mono ?_
    rintro e w1 ⟨rfl, rfl⟩
    clear c0 hW HN
    go_wp2_with fail
    go_ret2
    exact ⟨rfl, HB.out⟩
  · obtain ⟨K, rfl⟩ : ∃ K : Nat, r = (K : Int) := ⟨r.toNat, by omega⟩
    have hK1 : 1 ≤ K := by omega
    have hK2 : K ≤ 4096 := by omega
    have HN := Lib.hid (new_tb K W hK1 hK2)
    have hr2 : 64 < K ∨ wd = 0 ∨ 1099511627776 < wd := by
      unfold rightB at hr
      rw [decide_eq_false_iff_not] at hr
      omega
    have b4 : decide ((64 : Int) < (K : Int)) = decide (64 < K) := by
      by_cases h : 64 < K
      · rw [decide_eq_true h, decide_eq_true (by omega)]
      · rw [decide_eq_false h, decide_eq_false (by omega)]
    clear hr hbad
    have fin : ∀ w1, Below W.heap.size W w1 → w1.cell? ⟨w.heap.size, 0, none⟩ = some (.int .i64 (K : Int)) ∧ w1.cell? ⟨w.heap.size, 1, none⟩ = some (u64v wd) := fun w1 hb => ⟨(HP.out.below hb HP.out.lt).at rfl, (HP.out.below hb HP.out.lt).at rfl⟩
    have FIN := Lib.hid fin; clear fin
    by_cases h64 : 64 < K
    · have b1 : (64 : Int) < (K : Int) := by omega
      clear hr2 b4
      go_enter Try.func8, Try.ntmps8
      go_wp2_with fail
      rw [← hW]
      refine HN.out.mono ?_
      rintro e w1 ⟨T, rfl, _, hb⟩
      obtain ⟨q0, q1⟩ := FIN.out w1 hb
      have HB1 := Lib.hid (HB.out.trans (hb.mono HB.out.size))
      clear hb c0 hW HN
      go_wp2_with fail
      go_ret2
      exact ⟨rfl, HB1.out⟩
    · have b1 : ¬ (64 : Int) < (K : Int) := by omega
      have b5 : decide ((64 : Int) < (K : Int)) = false := decide_eq_false b1
      by_cases hw : wd = 0
      · subst hw
        clear hr2 b4 w0
        go_enter Try.func8, Try.ntmps8
        go_wp2_with fail
        rw [← hW]
        refine HN.out.mono ?_
        rintro e w1 ⟨T, rfl, _, hb⟩
        obtain ⟨q0, q1⟩ := FIN.out w1 hb
        have HB1 := Lib.hid (HB.out.trans (hb.mono HB.out.size))
        clear hb c0 hW HN
        go_wp2_with fail
        go_ret2
        exact ⟨rfl, HB1.out⟩
      · have b3 : (wd == 0) = false := beq_eq_false_iff_ne.2 hw
        have b6 : (1099511627776 : Int) < wd := by omega
        clear hr2 b4
        go_enter Try.func8, Try.ntmps8
        go_wp2_with fail
        rw [← hW]
        refine HN.out.mono ?_
        rintro e w1 ⟨T, rfl, _, hb⟩
        obtain ⟨q0, q1⟩ := FIN.out w1 hb
        have HB1 := Lib.hid (HB.out.trans (hb.mono HB.out.size))
        clear hb c0 hW HN
        go_wp2_with fail
        go_ret2
        exact ⟨rfl, HB1.out⟩
end Go.Proofs.Ythpgdojjecdlcaa
set_option maxRecDepth 100000
namespace Go.Proofs.Ythpgdojjecdlcaa
open Go.RowKit Go.Shelf
section
variable {w w1 w2 w' : World} {B0 S T m K X Q : Nat} {f f' : NF} {l l' : PL} {N : Int} {j : Nat} {GS : List (List UInt8)} {v : Value}
set_option maxHeartbeats 8000000 in
theorem same_pp (h : PP w B0 S T m K X Q f l GS N v j) (hK : K ≤ 64) :
    Calls Try.prog 11 #[tP Q] w fun e w' => e = .returned (.bool true) ∧ Below w.heap.size w w' := by
  have hl64 : l.length ≤ 64 := by have := h.li.rf.cnt; omega
  have HPP := Lib.hid h
  have q0 : w.cell? ⟨Q, 0, none⟩ = some (tP S) := h.pb.at rfl
  clear h
  go_enter Try.func11, Try.ntmps11
  go_wp2_with fail
  refine (first_en HPP.out.dn.ns 1000 (by omega) (by omega)).mono ?_
  rintro e w1 ⟨v1, rfl, h1, hb1⟩
  rw [List.take_of_length_le (by omega)] at h1
  obtain ⟨A1, c1, rfl⟩ := EN.form h1
  have HP1 := Lib.hid (HPP.out.keep hb1)
  have HE1 := Lib.hid h1
  have HB1 := Lib.hid hb1
  have q10 : w1.cell? ⟨Q, 0, none⟩ = some (tP S) := HP1.out.pb.at rfl
  obtain ⟨b1, hbb⟩ : ∃ b1, b1 = w.heap.size := ⟨_, rfl⟩
  rw [← hbb] at HE1
  clear h1 hb1 HPP q0 hbb
  go_wp2_with fail
  refine (mark_any HP1.out.dn.ns).mono ?_
  rintro e w2 ⟨rfl, hb2⟩
  have HP2 := Lib.hid (HP1.out.keep hb2)
  have HE2 := Lib.hid (enRow_below HE1.out hb2)
  have HB2 := Lib.hid (HB1.out.trans (hb2.mono HB1.out.size))
  clear hb2 HP1 HE1 HB1 q10
  have q20 : w2.cell? ⟨Q, 0, none⟩ = some (tP S) := HP2.out.pb.at rfl
  have q21 : w2.cell? ⟨Q, 1, none⟩ = some (tP X) := HP2.out.pb.at rfl
  obtain ⟨vr, hX, hER⟩ := HP2.out.dn.xr
  obtain ⟨A2, c2, rfl, g1, g2, _, _, g3⟩ := hER.parts
  obtain ⟨n, hn⟩ : ∃ n, n = l.length := ⟨_, rfl⟩
  rw [← hn] at hX hl64 g1 g3
  have HN := Lib.hid hn
  have x2 : w2.cell? ⟨X, 2, none⟩ = some (.slice A2 n c2) := hX.at rfl
  have x3 : w2.cell? ⟨X, 3, none⟩ = some (u64v f.se) := hX.at rfl
  have x5 : w2.cell? ⟨X, 5, none⟩ = some (u64v f.mr) := hX.at rfl
  have x6 : w2.cell? ⟨X, 6, none⟩ = some (.bool f.md) := hX.at rfl
  have HLEN : Hid (∀ k, Calls Try.prog 21 #[tP S] (w2.drewN k) fun e w' => e = .returned (.int .i64 (n : Int)) ∧ w' = w2.drewN k) := Lib.hid (fun k => by rw [hn]; exact (nlen_any (HP2.out.dn.ns.keep (below_drewN (Below.refl _ _) k))).mono fun _ _ h => ⟨h.1, h.2.symm⟩)
  have HSER : Hid (∀ k, Calls Try.prog 17 #[tP S] (w2.drewN k) fun e w' => e = .returned (u64v f.se) ∧ w' = w2.drewN k) := Lib.hid (fun k => (serial_any (HP2.out.dn.ns.keep (below_drewN (Below.refl _ _) k))).mono fun _ _ h => ⟨h.1, h.2.symm⟩)
  have HX := Lib.hid hX
  have HR : Hid (ER w2 B0 (.slice A2 n c2) l) := Lib.hid (by rw [hn]; exact hER)
  obtain ⟨fmr, hmr⟩ : ∃ z, z = f.mr := ⟨_, rfl⟩
  obtain ⟨fse, hse⟩ : ∃ z, z = f.se := ⟨_, rfl⟩
  obtain ⟨fmd, hmd⟩ : ∃ z, z = f.md := ⟨_, rfl⟩
  rw [← hmr] at x5
  rw [← hse] at x3 HSER
  rw [← hmd] at x6
  rw [← hmr, ← hmd, ← hn]
  have HQB := Lib.hid HP2.out.pb
  clear hX hER hn hmr hse hmd
  go_wp2_with fail
  go_quiet ((first | (go_at_call 21; exact Calls.quiet_of_same (HLEN.out _)) | (go_at_call 17; exact Calls.quiet_of_same (HSER.out _))))
  go_wp2_with fail
  have hE2 := HE2.out
  unfold EN at hE2
  rw [← HN.out] at hE2
  have HE := Lib.hid hE2
  have HS := Lib.hid (HR.out.es)
  clear hE2 HE2 HLEN HSER x3 x5 x6 x2 q20 q21
  go_loopw [114] (fun i wr => ∃ j : Nat, j ≤ n ∧ i = .int .i64 (j : Int) ∧ Below w2.heap.size w2 wr) (fun i _ => n - (intOf i).toNat)
  case atStart => exact ⟨0, by omega, rfl, below_drewN (Below.refl _ _) _⟩
  case round =>
    obtain ⟨i, hi, rfl, hB⟩ := hrel
    by_cases hlt : i < n
    · have hrow := enRow_below HE.out hB
      obtain ⟨g, hAg⟩ : ∃ g, A1 = some ⟨g, 0, none⟩ := by
        rcases hrow.2 with ⟨e, _⟩ | ⟨g, cap', cur, e, _⟩
        · injection e with _ e2 _; omega
        · injection e with e1 _ _; exact ⟨g, e1⟩
      subst hAg
      obtain ⟨g', rfl⟩ := g3 (by omega)
      have hil : i < l.length := by rw [← HN.out]; exact hlt
      obtain ⟨k0, k1, k2, k3⟩ := neC_at l i hil
      obtain ⟨hes, hgl⟩ := (HS.out.below hB (Nat.le_refl _)).cell (by omega)
      obtain ⟨m0, m1, m2, m3, m4⟩ := hes.five i hil
      rw [Nat.zero_add] at m0 m1 m2 m3 m4
      obtain ⟨⟨y, ⟨s, a, sp, ct⟩⟩, hy⟩ : ∃ y, y = l[i] := ⟨_, rfl⟩
      rw [← hy] at k0 k1 k2 k3 m0 m1 m2 m3 m4
      simp only at k0 k1 k2 k3 m0 m1 m2 m3 m4
      have y0 : wr.cell? ⟨g, i * 4, none⟩ = some (strT s) := (World.ownsRow.cellAt hrow (i * 4) (by omega)).trans k0
      have y1 : wr.cell? ⟨g, i * 4 + 1, none⟩ = some (u64v a) := (World.ownsRow.cellAt hrow (i * 4 + 1) (by omega)).trans k1
      have y2 : wr.cell? ⟨g, i * 4 + 2, none⟩ = some (.bool sp) := (World.ownsRow.cellAt hrow (i * 4 + 2) (by omega)).trans k2
      have y3 : wr.cell? ⟨g, i * 4 + 3, none⟩ = some (.int .u32 ct) := (World.ownsRow.cellAt hrow (i * 4 + 3) (by omega)).trans k3
      obtain ⟨W7, hW7⟩ : ∃ W7, W7 = wr.alloc (.cells #[strT s, u64v a, .bool sp, .int .u32 ct] tNe) := ⟨_, rfl⟩
      have hBW : Below wr.heap.size wr W7 := by rw [hW7]; exact (Below.refl _ wr).alloc (Nat.le_refl _) _
      have hP : BlkT W7 wr.heap.size tNe [strT s, u64v a, .bool sp, .int .u32 ct] := by rw [hW7]; exact heap_alloc_new wr _
      have hB7 := hB.trans (hBW.mono hB.size)
      have hgw := hB.size
      have n0 : W7.cell? ⟨g', i * 5, none⟩ = some (strT s) := (hBW.cell (p := ⟨g', i * 5, none⟩) (by show g' < _; omega)).trans m0
      have n1 : W7.cell? ⟨g', i * 5 + 1, none⟩ = some (strT y) := (hBW.cell (p := ⟨g', i * 5 + 1, none⟩) (by show g' < _; omega)).trans m1
      have n2 : W7.cell? ⟨g', i * 5 + 2, none⟩ = some (u64v a) := (hBW.cell (p := ⟨g', i * 5 + 2, none⟩) (by show g' < _; omega)).trans m2
      have n3 : W7.cell? ⟨g', i * 5 + 3, none⟩ = some (.bool sp) := (hBW.cell (p := ⟨g', i * 5 + 3, none⟩) (by show g' < _; omega)).trans m3
      have n4 : W7.cell? ⟨g', i * 5 + 4, none⟩ = some (.int .u32 ct) := (hBW.cell (p := ⟨g', i * 5 + 4, none⟩) (by show g' < _; omega)).trans m4
      have q1 : W7.cell? ⟨Q, 1, none⟩ = some (tP X) := (HQB.out.below hB7 HQB.out.lt).at rfl
      have x2 : W7.cell? ⟨X, 2, none⟩ = some (.slice (some ⟨g', 0, none⟩) n c2) := (HX.out.below hB7 HX.out.lt).at rfl
      obtain ⟨W8, hW8⟩ : ∃ W8, W8 = W7.alloc (.cells #[strT s, strT y, u64v a, .bool sp, .int .u32 ct] tR) := ⟨_, rfl⟩
      have hBW8 : Below W7.heap.size W7 W8 := by rw [hW8]; exact (Below.refl _ W7).alloc (Nat.le_refl _) _
      have hP8 : BlkT W8 wr.heap.size tNe [strT s, u64v a, .bool sp, .int .u32 ct] := hP.below hBW8 hP.lt
      have hz7 : W7.heap.size = wr.heap.size + 1 := by rw [hW7]; simp
      have hR8 : BlkT W8 (wr.heap.size + 1) tR [strT s, strT y, u64v a, .bool sp, .int .u32 ct] := by rw [hW8, ← hz7]; exact heap_alloc_new W7 _
      have p0 : W8.cell? ⟨wr.heap.size, 0, none⟩ = some (strT s) := hP8.at rfl
      have p1 : W8.cell? ⟨wr.heap.size, 1, none⟩ = some (u64v a) := hP8.at rfl
      have p2 : W8.cell? ⟨wr.heap.size, 2, none⟩ = some (.bool sp) := hP8.at rfl
      have p3 : W8.cell? ⟨wr.heap.size, 3, none⟩ = some (.int .u32 ct) := hP8.at rfl
      have r0 : W8.cell? ⟨wr.heap.size + 1, 0, none⟩ = some (strT s) := hR8.at rfl
      have r2 : W8.cell? ⟨wr.heap.size + 1, 2, none⟩ = some (u64v a) := hR8.at rfl
      have r3 : W8.cell? ⟨wr.heap.size + 1, 3, none⟩ = some (.bool sp) := hR8.at rfl
      have r4 : W8.cell? ⟨wr.heap.size + 1, 4, none⟩ = some (.int .u32 ct) := hR8.at rfl
      have HB8 := Lib.hid (hB7.trans (hBW8.mono hB7.size))
      rw [hW7] at n0 n1 n2 n3 n4 q1 x2
      rw [hW8, hW7] at p0 p1 p2 p3 r0 r2 r3 r4 HB8
      clear hBW hBW8 hP hP8 hR8 hB7 hB hrow hes hgl hgw k0 k1 k2 k3 m0 m1 m2 m3 m4 hy
      clear hW8 hW7 hz7
      go_wp2_with fail
      go_roundw
      case rel => exact ⟨i + 1, by omega, by go_num, HB8.out⟩
      case measure => simp [intOf]; omega
    · go_wp2_with fail
      go_ret
      exact ⟨rfl, HB2.out.trans (hB.mono HB2.out.size)⟩
end
end Go.Proofs.Ythpgdojjecdlcaa
set_option maxRecDepth 100000
namespace Go.Proofs.Ythpgdojjecdlcaa
open Go.RowKit Go.Shelf
attribute [local go_sem] Oper.semAt_some
theorem entries_nil (w : World) : Calls Try.prog 42 #[tN] w fun e w' => e = .returned (.func (.func eF) #[] #[.pointer (some ⟨w.heap.size, 0, none⟩)]) ∧ w' = w.alloc (.cells #[tN] tPs) := by
  have hmf : ∀ (fn : Fn) (first cap : Array Value) (w : World), (Instr.makeFunc fn first cap).run Try.prog w = .ok (.func fn first cap) w := fun _ _ _ _ => rfl
  go_enter Try.func42, Try.ntmps42
  go_wp2_with fail
  go_ret
  exact ⟨rfl, rfl⟩
set_option maxHeartbeats 2000000 in
theorem entries1_nil (d : Nat) (Bx : Nat) (w : World) (hbx : Boxed w Bx tPs tN) :
    SeqG Fence.wide d Try.prog eF #[.pointer (some ⟨Bx, 0, none⟩)] (fun x : List UInt8 × VT => #[vv x.2]) StB KN (fun _ pre x _ => pre ++ [x] <+: ([] : PLn)) (fun ys => ys = ([] : PLn)) (fun _ => True) w := by
  intro l J Jx W hW hIn hJ hJx hY h0
  clear hIn hJx hY
  have hB : Boxed W Bx tPs tN := (hW.block _ hbx.lt).trans hbx
  have hB1 : Below W.heap.size W (W.alloc (.cells #[.func (.yield l) #[] #[]] tYf)) := (Below.refl _ W).alloc (Nat.le_refl _) _
  have c0 : (W.alloc (.cells #[.func (.yield l) #[] #[]] tYf)).cell? ⟨Bx, 0, none⟩ = some tN := Boxed.cell ((hB1.block _ hB.lt).trans hB)
  have HJ : Hid (J [] (W.alloc (.cells #[.func (.yield l) #[] #[]] tYf))) := Lib.hid (hJ _ _ _ h0 (StB.of_below hB1 (Nat.le_refl _)))
  clear hJ h0 hB hB1 hW
  refine callsIn_of_wp_marks Try.func57 rfl trivial ?_ rfl
  simp only [Try.ntmps57, List.size_toArray, List.length_cons, List.length_nil, Nat.reduceAdd, Nat.reduceSub, Array.replicate_succ, Array.replicate_zero, List.push_toArray, List.append_toArray, List.nil_append, List.cons_append]
  gi_wp2
  exact ⟨_, results_none rfl _ _ _, ⟨_, rfl⟩, .inl ⟨[], rfl, HJ.out⟩⟩
set_option maxHeartbeats 4000000 in
theorem first_nil {w : World} (most : Nat) (hm : 1 ≤ most) (hm2 : most ≤ 1000) :
    Calls Try.prog 22 #[tN, .int .i64 (most : Int)] w fun e w' => ∃ v, e = .returned v ∧ EN w' w.heap.size v [] ∧ Below w.heap.size w w' := by
  refine (callsIn_wide (n := 12)).1 ?_
  refine callsIn_of_wp_marks Try.func22 rfl trivial ?_ rfl
  simp only [Try.ntmps22, List.size_toArray, List.length_cons, List.length_nil, Nat.reduceAdd, Nat.reduceSub, Array.replicate_succ, Array.replicate_zero, List.push_toArray, List.append_toArray, List.nil_append, List.cons_append]
  gi_wp2
  refine ⟨trivial, (callsIn_wide.2 (entries_nil _)).mono ?_⟩
  rintro e w3 ⟨rfl, hw3⟩
  have hB3 : Below w.heap.size w w3 := by rw [hw3]; exact (((Below.refl _ w).alloc (Nat.le_refl _) _).alloc (by simp) _).alloc (by simp; omega) _
  have hq : EnI w most [] w3 ∧ Boxed w3 (w.heap.size + 2) tPs (tN) ∧ w3.heap.size = w.heap.size + 3 := by
    have q0 := Boxed.new w 3 (.int .i64 (most : Int))
    have q1 := Boxed.new (w.alloc (.cells #[.int .i64 (most : Int)] 3)) tNs (.slice none 0 0)
    have q2 := Boxed.new ((w.alloc (.cells #[.int .i64 (most : Int)] 3)).alloc (.cells #[.slice none 0 0] tNs)) tPs (tN)
    simp only [World.size_alloc] at q1 q2
    refine ⟨⟨?_, ⟨.slice none 0 0, ?_, World.ownsRow_nil _ _ _ _⟩, hB3⟩, ?_, ?_⟩
    · rw [hw3]; exact (q0.alloc _).alloc _
    · rw [hw3]; exact q1.alloc _
    · rw [hw3]; exact q2
    · rw [hw3]; simp
  simp only [World.size_alloc, Nat.add_assoc, Nat.reduceAdd]
  clear hw3
  obtain ⟨hI, hb3, hz3⟩ := hq
  have HSQ := Lib.hid (entries1_nil 11 (w.heap.size + 2) w3 hb3)
  have HI := Lib.hid hI
  clear hI hb3 hB3
  gi_wp2
  refine wpIn_rangeFunc_ga rfl (by omega) (gf := eF) (lb := #[.pointer (some ⟨w.heap.size + 2, 0, none⟩)]) rfl trivial (fun _ _ => rfl) (encs := fun x : List UInt8 × VT => #[vv x.2]) StB KN (fun _ pre x _ => pre ++ [x] <+: ([] : PLn)) (fun ys => ys = ([] : PLn)) (fun _ => True)
    (fun pre A => EnI w most pre A ∧ pre.length < most ∧ w3.heap.size ≤ A.heap.size) (fun c pre A => EnI w most pre A ∧ c = .exit 0 ∧ pre.length = most ∧ pre <+: ([] : PLn))
    HSQ.out (fun _ _ _ => trivial) (fun _ => rfl)
    (fun b A B k h hk hA => by
      obtain ⟨row, hg, hr⟩ := h
      exact hg.block k hA (fun e => by have := (hr k e.symm).1; omega)) (fun _ _ _ h => h.size) (fun _ _ _ h k => h.trans k) (fun _ _ _ _ _ h hc => KN.of_kc (kc_putObj h hc))
    (fun pre A B h hst => ⟨h.1.stb hst (by omega), h.2.1, Nat.le_trans h.2.2 hst.size⟩) (fun c pre A B h hst => ⟨h.1.stb hst (by omega), h.2⟩)
    (fun pre A l o o' h hl ho hc => ⟨h.1.put (by omega) ho hc, h.2.1, by simpa [World.putObj] using h.2.2⟩) (fun c pre A l o o' h hl ho hc => ⟨h.1.put (by omega) ho hc, h.2⟩)
    (fun _ _ _ _ _ _ _ h _ _ _ => h)
    (fun W' hb hs => ⟨HI.out.below hb, by simp; omega, by omega⟩)
    (fun pre A B h _ hb => ⟨h.1.below hb, h.2.1, Nat.le_trans h.2.2 hb.size⟩)
    (fun _ _ _ _ _ h _ => h) (fun A B hb => KN.of_below hb)
    (fun x A a' V => V = A.alloc (.cells #[strT x.2.s, .int .u64 x.2.a, .bool x.2.sp, .int .u32 x.2.ct] tNe) ∧ a' = { tmps := #[tN, Value.int IntKind.i64 (most : Int), undef, Value.pointer (some { block := w.heap.size, off := 0 }), Value.slice none 0 0, Value.pointer (some { block := w.heap.size + 1, off := 0 }), Value.pointer (some { block := A.heap.size, off := 0 }), tN, Value.func (Fn.func eF) #[] #[Value.pointer (some { block := w.heap.size + 2, off := 0 })], vv x.2, undef, undef, undef, undef, undef, undef, undef, undef, undef], defers := [] })
    (fun x A a' V h => by rw [h.1]; exact (Below.refl _ A).alloc (Nat.le_refl _) _)
    ?assign ?body ?done ?stop
  case assign =>
    rintro k x A K hK
    have HK := Lib.hid hK; clear hK
    unfold vv
    gi_wp2
    exact HK.out _ _ ⟨rfl, rfl⟩
  case done =>
    rintro D ys A hD hz rfl ⟨hJ, hpm, _⟩ hK
    obtain ⟨v, h1, h2⟩ := hJ.bo
    have c2 := h1.cell
    have hput := hJ.put (o' := .deferred none) (by omega) hK rfl
    gi_wp2
    refine ⟨by simp, .inl ⟨_, _, rfl, run_takeDeferred hK, ?_⟩⟩
    exact ⟨_, results_tmp rfl _ _ _, v, rfl, ownsRow_putObj h2 _ hK rfl, hput.low⟩
  case stop =>
    rintro D c pre A hD hz ⟨hJ, rfl, hpm, hpre⟩ hK
    obtain ⟨v, h1, h2⟩ := hJ.bo
    have c2 := h1.cell
    have hput := hJ.put (o' := .deferred none) (by omega) hK rfl
    have he : pre = ([] : PLn).take most := by rw [← hpm]; exact List.prefix_iff_eq_take.1 hpre
    rw [he, List.take_nil] at h2
    have H2 := Lib.hid h2
    have HPL := Lib.hid hput.low
    clear he h2 hput hpre hpm hJ h1
    gi_wp2
    refine ⟨by simp, .inl ⟨_, _, rfl, run_takeDeferred hK, ?_⟩⟩
    exact ⟨_, results_tmp rfl _ _ _, v, rfl, ownsRow_putObj H2.out _ hK rfl, HPL.out⟩
  case body =>
    rintro lp bb pre x a' A hbb hbz ⟨hJ, hpm, hz⟩ hpre ⟨A0, V, ⟨hV, rfl⟩, hkc, hA0⟩
    obtain ⟨P7, hP7⟩ : ∃ P7, P7 = A0.heap.size := ⟨_, rfl⟩
    have hbk : BlkT A P7 tNe [strT x.2.s, .int .u64 x.2.a, .bool x.2.sp, .int .u32 x.2.ct] := hkc _ _ _ _ (Nat.zero_le _) (by rw [hV, hP7]; exact heap_alloc_new A0 _)
    rw [← hP7]
    have e0 : A.cell? ⟨P7, 0, none⟩ = some (strT x.2.s) := hbk.at rfl
    have e1 : A.cell? ⟨P7, 1, none⟩ = some (.int .u64 x.2.a) := hbk.at rfl
    have e2 : A.cell? ⟨P7, 2, none⟩ = some (.bool x.2.sp) := hbk.at rfl
    have e3 : A.cell? ⟨P7, 3, none⟩ = some (.int .u32 x.2.ct) := hbk.at rfl
    obtain ⟨v, h1, h2⟩ := hJ.bo
    have c1 := h1.cell
    have HJ := Lib.hid hJ
    have H1 := Lib.hid h1
    have H2 := Lib.hid h2
    have HS := Lib.hid hJ.low.size
    have HPR := Lib.hid hpre
    clear hJ h1 h2 hkc hV hbk hP7 hA0 hpre
    unfold vv
    gi_wp2_with (gi_at_builtin; refine wpListIn_app_en rfl (.tmp 10) (.tmp 12) rfl w.heap.size v pre x rfl (enRow_below H2.out ((Below.refl _ _).alloc (Nat.le_refl _) _)) A.heap.size rfl (heap_alloc_new A _) (by omega) (by have := HS.out; simp; omega) ?_; intro v' w1 hv hg; have hst := EnI.step HJ.out H1.out H2.out hv hg w3.heap.size; have hps := hv.form; obtain ⟨A2, cp2, e2'⟩ := hps; rw [List.length_append, List.length_singleton] at e2'; subst e2'; have e11 := hst.1.cell; have e13 := hst.1.frozen; have e14 := hst.2.2.2.2.2.1.cell; have e15 := hst.2.2.2.2.2.2.cell; have HST := Lib.hid hst; clear hst hv hg)
    · have he : pre.length + 1 = most := by
        have h : ((pre.length : Int) + 1 == (most : Int)) = true := by assumption
        have := beq_iff_eq.1 h
        omega
      exact ⟨HST.out.2.2.2.2.1, HST.out.2.2.1, rfl, by rw [List.length_append, List.length_singleton]; exact he, HPR.out⟩
    · have he : pre.length + 1 ≠ most := by
        intro e
        have h : ((pre.length : Int) + 1 == (most : Int)) = false := by assumption
        have := beq_eq_false_iff_ne.1 h
        omega
      exact ⟨HST.out.2.2.2.2.1, HST.out.2.2.2.1, HST.out.2.2.1, by rw [List.length_append, List.length_singleton]; omega, Nat.le_trans hz HST.out.2.2.2.2.1.size⟩
set_option maxHeartbeats 4000000 in
theorem same_nil {w : World} {Q : Nat} {N : Int} (hQ : BlkT w Q tPr [tN, tN, .slice none 0 0, u64v N]) :
    Calls Try.prog 11 #[tP Q] w fun e w' => e = .returned (.bool true) ∧ Below w.heap.size w w' := by
  have HQ := Lib.hid hQ
  have q0 : w.cell? ⟨Q, 0, none⟩ = some tN := hQ.at rfl
  clear hQ
  go_enter Try.func11, Try.ntmps11
  go_wp2_with fail
  refine (first_nil 1000 (by omega) (by omega)).mono ?_
  rintro e w1 ⟨v1, rfl, h1, hb1⟩
  obtain ⟨A1, c1, rfl⟩ := EN.form h1
  have HB1 := Lib.hid hb1
  have q10 : w1.cell? ⟨Q, 0, none⟩ = some tN := (HQ.out.below hb1 HQ.out.lt).at rfl
  have q11 : w1.cell? ⟨Q, 1, none⟩ = some tN := (HQ.out.below hb1 HQ.out.lt).at rfl
  clear h1 hb1 q0
  go_wp2_with fail
  refine (mark_nil _).mono ?_
  rintro e w2 ⟨rfl, rfl⟩
  go_wp2_with fail
  refine (serial_nil _).mono ?_
  rintro e w2 ⟨rfl, rfl⟩
  go_wp2_with fail
  refine (nlen_nil _).mono ?_
  rintro e w2 ⟨rfl, rfl⟩
  go_wp2_with fail
  go_ret
  exact ⟨by first | rfl | simp, HB1.out⟩
end Go.Proofs.Ythpgdojjecdlcaa
set_option maxRecDepth 100000
namespace Go.Proofs.Ythpgdojjecdlcaa
open Go.RowKit Go.Shelf
set_option maxHeartbeats 8000000 in
theorem do_nil {w : World} {B0 Q : Nat} {N : Int} (hQ : BlkT w Q tPr [tN, tN, .slice none 0 0, u64v N]) (hQb : B0 ≤ Q) (hN0 : 0 ≤ N) (hN1 : N ≤ 1000000) (od : Int) (ox : List UInt8) (owh : Int) (oow : Bool) (oc ot obk : Int) (hok : OpN.ok ⟨od, ox, owh, oow, oc, ot, obk⟩) :
    Calls Try.prog 10 #[tP Q, .agg #[.int .u8 od, strT ox, .int .u8 owh, .bool oow, .int .u32 oc, .int .u32 ot, .int .u8 obk]] w fun e w' => e = .returned (.bool true) ∧ BlkT w' Q tPr [tN, tN, .slice none 0 0, u64v (N + ot % 100)] ∧ Below B0 w w' := by
  obtain ⟨⟨d0, d1⟩, hx, ⟨wh0, wh1⟩, ⟨oc0, oc1⟩, ⟨ot0, ot1⟩, ⟨bk0, bk1⟩⟩ := hok
  simp only at d0 d1 hx wh0 wh1 oc0 oc1 ot0 ot1 bk0 bk1
  have hb0 : B0 ≤ w.heap.size := by have := hQ.lt; omega
  obtain ⟨N2, hN2⟩ : ∃ N2, N2 = N + ot % 100 := ⟨_, rfl⟩
  have hN20 : N ≤ N2 ∧ N2 ≤ N + 99 := by omega
  obtain ⟨W, hW⟩ : ∃ W, W = w.alloc (.cells #[.int .u8 od, strT ox, .int .u8 owh, .bool oow, .int .u32 oc, .int .u32 ot, .int .u8 obk] tOp) := ⟨_, rfl⟩
  have hB : Below w.heap.size w W := by rw [hW]; exact (Below.refl _ w).alloc (Nat.le_refl _) _
  have hP : BlkT W w.heap.size tOp [.int .u8 od, strT ox, .int .u8 owh, .bool oow, .int .u32 oc, .int .u32 ot, .int .u8 obk] := by rw [hW]; exact heap_alloc_new w _
  have hQ1 := hQ.below hB hQ.lt
  have q3 : W.cell? ⟨Q, 3, none⟩ = some (u64v N) := hQ1.at rfl
  have zq3 := hQ1.free 3
  have p5 : W.cell? ⟨w.heap.size, 5, none⟩ = some (.int .u32 ot) := hP.at rfl
  have HQ := Lib.hid hQ1
  have HB := Lib.hid (hB.mono hb0)
  have HP := Lib.hid hP
  have HQP := Lib.hid (show Q ≠ w.heap.size by have := hQ.lt; omega)
  rw [← hN2]
  have HN2 := Lib.hid hN2
  clear hB hP hQ1 hQ hN2
  go_enter Try.func10, Try.ntmps10
  go_wp2_with fail
  rw [← hW]
  clear hW
  go_still_tail 11, (by kernel_rfl)
  change wpList _ _ _ _ _ W.drew
  go_wp2_with fail
  rw [← HN2.out]
  obtain ⟨W1, hW1⟩ : ∃ W1, W1 = (W.setCell ⟨Q, 3, none⟩ (u64v N2)).drew := ⟨_, rfl⟩
  have hq1 : BlkT W1 Q tPr [tN, tN, .slice none 0 0, u64v N2] := by rw [hW1]; exact (HQ.out.set 3 _).drew
  have hp1 : BlkT W1 w.heap.size tOp [.int .u8 od, strT ox, .int .u8 owh, .bool oow, .int .u32 oc, .int .u32 ot, .int .u8 obk] := by rw [hW1]; exact (HP.out.setOther (a := ⟨Q, 3, none⟩) HQP.out _).drew
  have hb1 : Below B0 w W1 := by rw [hW1]; exact (HB.out.setCell (p := ⟨Q, 3, none⟩) hQb _).drew
  rw [← hW1]
  obtain ⟨P, hPp⟩ : ∃ P, P = w.heap.size := ⟨_, rfl⟩
  rw [← hPp] at hp1 ⊢
  have HQ1 := Lib.hid hq1
  have HO1 := Lib.hid hp1
  have HB1 := Lib.hid hb1
  have q3 : W1.cell? ⟨Q, 3, none⟩ = some (u64v N2) := hq1.at rfl
  have p6 : W1.cell? ⟨P, 6, none⟩ = some (.int .u8 obk) := hp1.at rfl
  obtain ⟨N3, hN3⟩ : ∃ N3, N3 = N2 - min N2 (obk % 4) := ⟨_, rfl⟩
  have hN30 : 0 ≤ N3 ∧ N3 ≤ N2 := by omega
  have hm4 : 0 ≤ obk % 4 ∧ obk % 4 < 4 := by omega
  have HN3 := Lib.hid hN3
  clear hq1 hp1 hb1 hW1 hPp HQ HB HP HQP HN2 hN3
  go_upto_region 2 with fail
  go_cut [5] (fun s5 wx => Below W1.heap.size W1 wx ∧ s5 = u64v N3)
  case first =>
    have hb4 : IntKind.u64.wrap (obk % 4) = obk % 4 := by rw [IntKind.wrap_u64]; omega
    have hb5 : obk.tmod 4 = obk % 4 := by rw [Int.tmod_eq_emod_of_nonneg (by omega)]
    by_cases hmin : N2 ≤ obk % 4
    · have hn3 : N3 = N2 - N2 := by rw [HN3.out]; omega
      go_quiet (fail)
      go_wp2_with fail
      go_meet
      exact ⟨below_drewN (Below.refl _ _) _, by rw [HN3.out]⟩
    · have hmin2 : obk % 4 < N2 := by omega
      go_quiet (fail)
      go_wp2_with fail
      go_meet
      exact ⟨below_drewN (Below.refl _ _) _, by rw [HN3.out]⟩
  case rest =>
    clear q3 p6
    obtain ⟨W2, hw2⟩ : ∃ W2, W2 = wc := ⟨_, rfl⟩
    subst hw2
    obtain ⟨hbc, rfl⟩ := hcut
    have HQ5 := Lib.hid (HQ1.out.below hbc HQ1.out.lt)
    have HO5 := Lib.hid (HO1.out.below hbc HO1.out.lt)
    have HB5 := Lib.hid (HB1.out.trans (hbc.mono (by have := HQ1.out.lt; omega)))
    have p1 : W2.cell? ⟨P, 1, none⟩ = some (strT ox) := HO5.out.at rfl
    clear hbc HQ1 HO1 HB1
    obtain ⟨n0, hn0⟩ : ∃ n0, n0 = ox.take (50 : Int).toNat := ⟨_, rfl⟩
    have HCT := Lib.hid (cutText_any ox 50 W2 hx (by omega) (by omega))
    rw [← hn0] at HCT
    clear hn0
    go_wp2_with fail
    refine HCT.out.mono ?_
    rintro e W' ⟨rfl, hWW⟩
    subst hWW
    clear HCT p1
    have p3 : W2.cell? ⟨P, 3, none⟩ = some (.bool oow) := HO5.out.at rfl
    have q2 : W2.cell? ⟨Q, 2, none⟩ = some (.slice none 0 0) := HQ5.out.at rfl
    go_upto_region 5 with fail
    go_cut [50] (fun s50 wx => W2 = wx ∧ s50 = .bool false)
    case first =>
      cases oow with
      | false =>
        go_wp2_with fail
        go_meet
        exact ⟨rfl, rfl⟩
      | true =>
        go_wp2_with fail
        go_meet
        exact ⟨rfl, by first | rfl | simp⟩
    case rest =>
      obtain ⟨rfl, rfl⟩ := hcut
      clear p3 q2
      have p0 : W2.cell? ⟨P, 0, none⟩ = some (.int .u8 od) := HO5.out.at rfl
      have p4 : W2.cell? ⟨P, 4, none⟩ = some (.int .u32 oc) := HO5.out.at rfl
      have q0 : W2.cell? ⟨Q, 0, none⟩ = some tN := HQ5.out.at rfl
      have q1 : W2.cell? ⟨Q, 1, none⟩ = some tN := HQ5.out.at rfl
      by_cases e4 : od % 10 = 4
      · have b4 : (od % 10 == 4) = true := beq_iff_eq.2 e4
        clear e4
        go_wp2_with fail
        have e2 : W2.drew.cell? ⟨Q, 0, none⟩ = some tN ∧ W2.drew.cell? ⟨Q, 1, none⟩ = some tN := ⟨HQ5.out.drew.at rfl, HQ5.out.drew.at rfl⟩
        go_region_held3 (fun w' => w'.cell? ⟨Q, 0, none⟩ = some tN ∧ w'.cell? ⟨Q, 1, none⟩ = some tN) (first | exact e3 | exact e2 | go_keep)
          (first
            | (go_at_call 13; refine (spend_nil n0 N3 _).mono ?_; rintro e w3 ⟨rfl, hb3⟩; have hq3 := HQ5.out.drew.below hb3 HQ5.out.drew.lt; have hp3 := HO5.out.drew.below hb3 HO5.out.drew.lt; have e3 : w3.cell? ⟨Q, 0, none⟩ = some tN ∧ w3.cell? ⟨Q, 1, none⟩ = some tN := ⟨hq3.at rfl, hq3.at rfl⟩; have HST := Lib.hid (And.intro hq3 hb3); clear hb3 hq3 hp3)
            | (go_at_call 24; refine (rspend_nil n0 N3 _).mono ?_; rintro e w4 ⟨rfl, rfl⟩))
        all_goals
          go_wp2_with fail
          go_ret
          exact ⟨by simp, HST.out.1, HB5.out.drew.trans (HST.out.2.mono (by have := HQ5.out.lt; show B0 ≤ W2.heap.size; omega))⟩
      · have b4 : (od % 10 == 4) = false := beq_eq_false_iff_ne.2 e4
        clear e4
        by_cases e5 : od % 10 = 5
        · have b5 : (od % 10 == 5) = true := beq_iff_eq.2 e5
          clear e5
          go_wp2_with fail
          have e2 : W2.drew.cell? ⟨Q, 0, none⟩ = some tN ∧ W2.drew.cell? ⟨Q, 1, none⟩ = some tN := ⟨HQ5.out.drew.at rfl, HQ5.out.drew.at rfl⟩
          go_region_held3 (fun w' => w'.cell? ⟨Q, 0, none⟩ = some tN ∧ w'.cell? ⟨Q, 1, none⟩ = some tN) (first | exact e3 | exact e2 | go_keep)
            (first
              | (go_at_call 13; refine (spend_nil n0 N3 _).mono ?_; rintro e w3 ⟨rfl, hb3⟩; have hq3 := HQ5.out.drew.below hb3 HQ5.out.drew.lt; have hp3 := HO5.out.drew.below hb3 HO5.out.drew.lt; have e3 : w3.cell? ⟨Q, 0, none⟩ = some tN ∧ w3.cell? ⟨Q, 1, none⟩ = some tN := ⟨hq3.at rfl, hq3.at rfl⟩; have HST := Lib.hid (And.intro hq3 hb3); clear hb3 hq3 hp3)
              | (go_at_call 24; refine (rspend_nil n0 N3 _).mono ?_; rintro e w4 ⟨rfl, rfl⟩))
          all_goals
            go_wp2_with fail
            go_ret
            exact ⟨by simp, HST.out.1, HB5.out.drew.trans (HST.out.2.mono (by have := HQ5.out.lt; show B0 ≤ W2.heap.size; omega))⟩
        · have b5 : (od % 10 == 5) = false := beq_eq_false_iff_ne.2 e5
          clear e5
          by_cases e6 : od % 10 = 6
          · have b6 : (od % 10 == 6) = true := beq_iff_eq.2 e6
            clear e6
            go_wp2_with fail
            have e2 : W2.drew.cell? ⟨Q, 0, none⟩ = some tN ∧ W2.drew.cell? ⟨Q, 1, none⟩ = some tN ∧ W2.drew.cell? ⟨P, 4, none⟩ = some (.int .u32 oc) := ⟨HQ5.out.drew.at rfl, HQ5.out.drew.at rfl, HO5.out.drew.at rfl⟩
            go_region_held3 (fun w' => w'.cell? ⟨Q, 0, none⟩ = some tN ∧ w'.cell? ⟨Q, 1, none⟩ = some tN ∧ w'.cell? ⟨P, 4, none⟩ = some (.int .u32 oc)) (first | exact e3 | exact e2 | go_keep)
              (first
                | (go_at_call 14; refine (use_nil n0 oc N3 _).mono ?_; rintro e w3 ⟨rfl, hb3⟩; have hq3 := HQ5.out.drew.below hb3 HQ5.out.drew.lt; have hp3 := HO5.out.drew.below hb3 HO5.out.drew.lt; have e3 : w3.cell? ⟨Q, 0, none⟩ = some tN ∧ w3.cell? ⟨Q, 1, none⟩ = some tN ∧ w3.cell? ⟨P, 4, none⟩ = some (.int .u32 oc) := ⟨hq3.at rfl, hq3.at rfl, hp3.at rfl⟩; have HST := Lib.hid (And.intro hq3 hb3); clear hb3 hq3 hp3)
                | (go_at_call 25; refine (ruse_nil n0 oc N3 _).mono ?_; rintro e w4 ⟨rfl, rfl⟩))
            all_goals
              go_wp2_with fail
              go_ret
              exact ⟨by simp, HST.out.1, HB5.out.drew.trans (HST.out.2.mono (by have := HQ5.out.lt; show B0 ≤ W2.heap.size; omega))⟩
          · have b6 : (od % 10 == 6) = false := beq_eq_false_iff_ne.2 e6
            clear e6
            by_cases e7 : od % 10 = 7
            · have b7 : (od % 10 == 7) = true := beq_iff_eq.2 e7
              clear e7
              go_wp2_with fail
              have e2 : W2.drew.cell? ⟨Q, 0, none⟩ = some tN ∧ W2.drew.cell? ⟨Q, 1, none⟩ = some tN ∧ W2.drew.cell? ⟨P, 4, none⟩ = some (.int .u32 oc) := ⟨HQ5.out.drew.at rfl, HQ5.out.drew.at rfl, HO5.out.drew.at rfl⟩
              go_region_held3 (fun w' => w'.cell? ⟨Q, 0, none⟩ = some tN ∧ w'.cell? ⟨Q, 1, none⟩ = some tN ∧ w'.cell? ⟨P, 4, none⟩ = some (.int .u32 oc)) (first | exact e3 | exact e2 | go_keep)
                (first
                  | (go_at_call 14; refine (use_nil n0 oc N3 _).mono ?_; rintro e w3 ⟨rfl, hb3⟩; have hq3 := HQ5.out.drew.below hb3 HQ5.out.drew.lt; have hp3 := HO5.out.drew.below hb3 HO5.out.drew.lt; have e3 : w3.cell? ⟨Q, 0, none⟩ = some tN ∧ w3.cell? ⟨Q, 1, none⟩ = some tN ∧ w3.cell? ⟨P, 4, none⟩ = some (.int .u32 oc) := ⟨hq3.at rfl, hq3.at rfl, hp3.at rfl⟩; have HST := Lib.hid (And.intro hq3 hb3); clear hb3 hq3 hp3)
                  | (go_at_call 25; refine (ruse_nil n0 oc N3 _).mono ?_; rintro e w4 ⟨rfl, rfl⟩))
              all_goals
                go_wp2_with fail
                go_ret
                exact ⟨by simp, HST.out.1, HB5.out.drew.trans (HST.out.2.mono (by have := HQ5.out.lt; show B0 ≤ W2.heap.size; omega))⟩
            · have b7 : (od % 10 == 7) = false := beq_eq_false_iff_ne.2 e7
              clear e7
              by_cases e8 : od % 10 = 8
              · have b8 : (od % 10 == 8) = true := beq_iff_eq.2 e8
                clear e8
                go_wp2_with fail
                have e2 : W2.drew.cell? ⟨Q, 0, none⟩ = some tN ∧ W2.drew.cell? ⟨Q, 1, none⟩ = some tN := ⟨HQ5.out.drew.at rfl, HQ5.out.drew.at rfl⟩
                go_region_held3 (fun w' => w'.cell? ⟨Q, 0, none⟩ = some tN ∧ w'.cell? ⟨Q, 1, none⟩ = some tN) (first | exact e3 | exact e2 | go_keep)
                  (first
                    | (go_at_call 15; refine (sweep_nil N3 _).mono ?_; rintro e w3 ⟨rfl, hb3⟩; have hq3 := HQ5.out.drew.below hb3 HQ5.out.drew.lt; have hp3 := HO5.out.drew.below hb3 HO5.out.drew.lt; have e3 : w3.cell? ⟨Q, 0, none⟩ = some tN ∧ w3.cell? ⟨Q, 1, none⟩ = some tN := ⟨hq3.at rfl, hq3.at rfl⟩; have HST := Lib.hid (And.intro hq3 hb3); clear hb3 hq3 hp3)
                    | (go_at_call 26; refine (rsweep_nil N3 _).mono ?_; rintro e w4 ⟨rfl, rfl⟩))
                all_goals
                  go_wp2_with fail
                  go_ret
                  exact ⟨by simp, HST.out.1, HB5.out.drew.trans (HST.out.2.mono (by have := HQ5.out.lt; show B0 ≤ W2.heap.size; omega))⟩
              · have b8 : (od % 10 == 8) = false := beq_eq_false_iff_ne.2 e8
                clear e8
                by_cases e9 : od % 10 = 9
                · have b9 : (od % 10 == 9) = true := beq_iff_eq.2 e9
                  clear e9
                  go_wp2_with fail
                  have e2 : W2.drew.cell? ⟨Q, 0, none⟩ = some tN ∧ W2.drew.cell? ⟨Q, 1, none⟩ = some tN := ⟨HQ5.out.drew.at rfl, HQ5.out.drew.at rfl⟩
                  go_region_held3 (fun w' => w'.cell? ⟨Q, 0, none⟩ = some tN ∧ w'.cell? ⟨Q, 1, none⟩ = some tN) (first | exact e3 | exact e2 | go_keep)
                    (first
                      | (go_at_call 20; refine (check_nil n0 N3 _).mono ?_; rintro e w3 ⟨rfl, hb3⟩; have hq3 := HQ5.out.drew.below hb3 HQ5.out.drew.lt; have hp3 := HO5.out.drew.below hb3 HO5.out.drew.lt; have e3 : w3.cell? ⟨Q, 0, none⟩ = some tN ∧ w3.cell? ⟨Q, 1, none⟩ = some tN := ⟨hq3.at rfl, hq3.at rfl⟩; have HST := Lib.hid (And.intro hq3 hb3); clear hb3 hq3 hp3)
                      | (go_at_call 27; refine (rcheck_nil n0 N3 _).mono ?_; rintro e w4 ⟨rfl, rfl⟩))
                  all_goals
                    go_wp2_with fail
                    go_ret
                    exact ⟨by simp, HST.out.1, HB5.out.drew.trans (HST.out.2.mono (by have := HQ5.out.lt; show B0 ≤ W2.heap.size; omega))⟩
                · have b9 : (od % 10 == 9) = false := beq_eq_false_iff_ne.2 e9
                  clear e9
                  go_wp2_with fail
                  refine (issue_nil n0 N3 _).mono ?_
                  rintro e w6 ⟨rfl, rfl⟩
                  go_wp2_with fail
                  refine (rissue_nil n0 N3 _).mono ?_
                  rintro e w6 ⟨rfl, rfl⟩
                  go_wp2_with fail
                  go_ret
                  exact ⟨by simp, HQ5.out, HB5.out⟩
end Go.Proofs.Ythpgdojjecdlcaa
