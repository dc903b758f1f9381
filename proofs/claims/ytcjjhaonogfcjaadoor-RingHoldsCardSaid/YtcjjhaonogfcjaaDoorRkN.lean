/- ring: New of a plain box, New of a Ring; a nil Ring. -/
import Derived.Test.YtcjjhaonogfcjaaDoorRkR
import Derived.Test.YtcjjhaonogfcjaaDoorRkF
set_option maxRecDepth 100000
namespace Go.Proofs.YtcjjhaonogfcjaaDoor
open Go.RowKit
attribute [local go_sem] Oper.semAt_some
theorem newBox_any (w : World) :
    Calls Tryd.prog 6 #[.bool false] w fun e w' => ∃ b, e = .returned (.pointer (some ⟨b, 0, none⟩)) ∧ (∃ cs, Blk w' b (.bool false :: cs)) ∧ w.heap.size ≤ b ∧ Below w.heap.size w w' := by
  have hmm := run_makeMap (P := Tryd.prog) 42 w
  have HB := Lib.hid (show Below w.heap.size w ((w.alloc (.map #[] 0)).alloc (.cells #[.bool false, .bool false, .slice none 0 0, .map (some w.heap.size)] 45)) from ((Below.refl _ _).alloc (Nat.le_refl _) _).alloc (by simp) _)
  have HP := Lib.hid (show Blk ((w.alloc (.map #[] 0)).alloc (.cells #[.bool false, .bool false, .slice none 0 0, .map (some w.heap.size)] 45)) (w.heap.size + 1) [.bool false, .bool false, .slice none 0 0, .map (some w.heap.size)] from Blk.newAt (w.alloc (.map #[] 0)) _ _ (by simp) rfl)
  go_enter Tryd.func6, Tryd.ntmps6
  go_wp2_with fail
  go_ret
  exact ⟨w.heap.size + 1, rfl, ⟨_, HP.out⟩, by omega, HB.out⟩
set_option maxHeartbeats 400000 in
/-- The library's Clone: memory of its own. -/
theorem clone_any (B : Nat) (a : Addr) (n c : Nat) (l : List UInt8) (w : World) (hv : Sl w B (.slice (some a) n c) l) (hB : B ≤ w.heap.size) (hl : l.length ≤ 1000000) :
    Calls Tryd.prog 14 #[.slice (some a) n c] w fun e w' => ∃ v', e = .returned v' ∧ OwnB w' w.heap.size v' l ∧ Below w.heap.size w w' := by
  have HV := Lib.hid hv; clear hv
  have hnil := Lib.run_eql_slice_nil (P := Tryd.prog) w 22 5 (some a) n c 0 0 Tryd.underlying22
  go_enter Tryd.func14, Tryd.ntmps14
  go_wp2_with (at_builtin; ((with_reducible refine wpList_app_sl ?g1 (.tmp 5) (.tmp 6) ?g2 w.heap.size (.slice (some ⟨w.heap.size, 0, none⟩) 0 0) [] l ?g3 ?g4 B (.slice (some a) n c) ?g5 ?g6 ?g7 ?g8 ?_); (case g1 => rfl); (case g2 => rfl); (case g3 => rfl); (case g4 => exact OwnB.empty w); (case g5 => rfl); (case g6 => exact HV.out.below ((Below.refl _ _).alloc (Nat.le_refl _) _) hB); (case g7 => simp; omega); (case g8 => simp); intro v' w1 hv hg; have Hg := Lib.hid (((Below.refl w.heap.size w).alloc (Nat.le_refl _) _).trans ((OwnB.empty w).belowBase hg (by simp))); clear hg; rw [List.nil_append] at hv; have Hv := Lib.hid hv; clear hv))
  go_ret
  exact ⟨v', rfl, Hv.out, Hg.out⟩
set_option maxHeartbeats 4000000 in
theorem newRing_any (w : World) (base bx room B n c : Nat) (a : Addr) (cs : List Value) (key : List UInt8) (hbx : Blk w bx (.bool false :: cs)) (hbb : base ≤ bx) (hv : Sl w B (.slice (some a) n c) key) (hB : B ≤ w.heap.size) (hn : n = key.length) (h1 : 1 ≤ key.length) (h2 : key.length ≤ 64) (hr1 : 1 ≤ room) (hr2 : room ≤ 8)
    (hT : TabA w) (hP : PowE w) (hgt : 4 < base) (hgp : 0 < base) :
    Calls Tryd.prog 7 #[.pointer (some ⟨bx, 0, none⟩), .slice (some a) n c, .int .i64 (room : Int)] w fun e w' => ∃ r V MV L, e = .returned (.tuple #[.pointer (some ⟨r, 0, none⟩), .int .i64 0]) ∧ RG w' base r bx V MV room 1 L key ∧ L.map KyL.n = [1] ∧ w.heap.size ≤ r ∧ Below w.heap.size w w' := by
  have HC := Lib.hid (clone_any B a n c key w hv hB (by omega))
  have hbl := hbx.lt
  have e1 : ((n : Int) == 0) = false := by rw [beq_eq_false_iff_ne]; omega
  have e2 : decide ((64 : Int) < (n : Int)) = false := decide_eq_false (by omega)
  have e3 : decide ((room : Int) < 1) = false := decide_eq_false (by omega)
  have e4 : decide ((8 : Int) < (room : Int)) = false := decide_eq_false (by omega)
  have e5 : ¬ (64 : Int) < (n : Int) := by omega
  have e6 : ¬ (room : Int) < 1 := by omega
  have e7 : ¬ (8 : Int) < (room : Int) := by omega
  have e8 : ¬ (n : Int) = 0 := by omega
  have HBX := Lib.hid hbx
  have HT := Lib.hid hT
  have HP := Lib.hid hP
  have HRM := Lib.hid (And.intro hr1 hr2)
  have HKL := Lib.hid (And.intro h1 h2)
  have HGG := Lib.hid (And.intro hgt hgp)
  have HBB := Lib.hid (And.intro hbb hbl)
  clear hbx hv hT hP hr1 hr2 h1 h2 hgt hgp hbb hbl hn
  go_enter Tryd.func7, Tryd.ntmps7
  go_wp2_with fail
  refine HC.out.mono ?_
  rintro e w1 ⟨MV, rfl, hO, hb⟩
  obtain ⟨MA, mc, rfl, -⟩ := hO.sl
  have HO := Lib.hid hO
  have HB1 := Lib.hid hb
  clear hO hb HC e1 e2 e3 e4 e5 e6 e7 e8
  go_wp2_with fail
  obtain ⟨W2, hW2⟩ : ∃ W2, W2 = w1.alloc (.cells #[.pointer (some ⟨bx, 0, none⟩), .slice MA key.length mc, .int .i64 (room : Int), .int .u64 0, .slice none 0 0] 49) := ⟨_, rfl⟩
  have hb2 : Below w1.heap.size w1 W2 := by rw [hW2]; exact (Below.refl _ _).alloc (Nat.le_refl _) _
  have HB2 := Lib.hid (HB1.out.trans (hb2.mono HB1.out.size))
  have H2 := Lib.hid (show RG W2 base w1.heap.size bx (.slice none 0 0) (.slice MA key.length mc) room 0 [] key from by
    have hz := HB1.out.size
    have hbb := HBB.out
    refine ⟨by rw [hW2]; exact Blk.new w1 _ _, ⟨cs, (HBX.out.below HB1.out hbb.2).below hb2 (by omega)⟩, OwnY.nil _ _ _, (HO.out.lower (by omega)).below hb2, ⟨by omega, hbb.1⟩, by omega, ⟨fun e => (by cases e), fun e => (by cases e)⟩, ⟨fun e => by have := (HO.out.lt _ e).2; omega, fun k e => by cases e⟩, HKL.out.2, by simp, HRM.out.2, by omega, (HT.out.below HB1.out (tab_lt HT.out)).below hb2 (Nat.lt_of_lt_of_le (tab_lt HT.out) hz), (HP.out.below HB1.out).below hb2, HGG.out.1, HGG.out.2⟩)
  rw [← hW2]
  clear hW2 hb2
  refine (rotate_any H2.out (by simp) (by omega)).mono ?_
  rintro e w3 ⟨rfl, V', L', h3, hm, ht, -⟩
  have H3 := Lib.hid h3
  have HM := Lib.hid hm
  have HT3 := Lib.hid ht
  have HZ := Lib.hid HB1.out.size
  clear h3 hm ht H2
  go_wp2_with fail
  go_ret2
  refine ⟨_, _, _, _, rfl, H3.out, ?_, HZ.out, HB2.out.trans (HT3.out.toBelow HB2.out.size (fun k hk => ?_))⟩
  · rw [HM.out]
    have := HRM.out
    unfold keepN
    simp only [List.map_nil, List.nil_append, List.length_singleton]
    rw [if_neg (by omega)]
  · rcases mem_rgS.1 hk with e | e
    · rw [e]; exact HZ.out
    · cases e
end Go.Proofs.YtcjjhaonogfcjaaDoor
