/- The reference's Groups. -/
import Derived.Test.YtbjhaihfkncdoaaDoorPieces
import Derived.Deep.CutRange
import Derived.Deep.DeepCutAuto
namespace Go.Proofs.YtbjhaihfkncdoaaDoor
open Go.RowKit
set_option maxRecDepth 100000 in
set_option maxHeartbeats 1000000 in
theorem refGroups_any (sz : Int) (l : List UInt8) (w : World) (hl : l.length ≤ 1000) (h1 : sz ≤ 9223372036854775807) (h2 : -9223372036854775808 ≤ sz) :
    Calls Tryd.prog 42 #[str l, .int .i64 sz] w fun e w' => ∃ v k, e = .returned v ∧ OwnT w' w.heap.size v (pieces (npc sz l) l k) ∧ Has (npc sz l) l k ∧ Below w.heap.size w w' := by
  obtain ⟨n, hn⟩ : ∃ n, n = npc sz l := ⟨_, rfl⟩
  have hn1 : 1 ≤ n := by rw [hn]; exact npc_pos sz l
  have hnm : n ≤ 9223372036854775807 := by rw [hn]; unfold npc; split <;> omega
  rw [← hn]
  have Hn := Lib.hid hn; clear hn
  go_enter Tryd.func42, Tryd.ntmps42
  go_upto_if 7 with fail
  go_cut [1] (fun s1 wx => w = wx ∧ s1 = .int .i64 (n : Int))
  case first =>
    by_cases hs : sz < 1
    · have HE : Hid (max (l.length : Int) 1 = (n : Int)) := Lib.hid (by rw [Hn.out]; unfold npc; rw [if_pos hs]; omega)
      go_wp2_with fail
      go_meet
      case rel => exact ⟨rfl, by rw [HE.out]⟩
    · have HE : Hid (sz = (n : Int)) := Lib.hid (by rw [Hn.out]; unfold npc; rw [if_neg hs]; omega)
      go_wp2_with fail
      go_meet
      case rel => exact ⟨rfl, by rw [HE.out]⟩
  case rest =>
    obtain ⟨rfl, rfl⟩ := hcut
    go_wp2_with fail
    go_loopw [0, 5] (fun s o wr => ∃ (k m : Nat), m = k * n ∧ k ≤ m ∧ m ≤ l.length ∧ (0 < k → m < l.length) ∧ (∀ j, j < k → j * n < l.length) ∧ s = str (l.drop m) ∧ OwnT wr w.heap.size o (pieces n l k) ∧ Below w.heap.size w wr) (fun s _ _ => match s with | .string x => x.size | _ => 0)
    case atStart => exact ⟨0, 0, by omega, by omega, by omega, by omega, by omega, rfl, OwnT.nil _ _, Below.refl _ _⟩
    case round =>
      obtain ⟨k, m, hm, hkm, hml, hk0, hj, rfl, hO, hB⟩ := hrel
      have HO := Lib.hid hO; clear hO
      have HB := Lib.hid hB; clear hB
      have Hm := Lib.hid hm; clear hm
      have Hj := Lib.hid hj; clear hj
      have Hk0 := Lib.hid hk0; clear hk0
      obtain ⟨x, hx⟩ : ∃ x, x = l.drop m := ⟨_, rfl⟩
      have hxl : x.length + m = l.length := by rw [hx, List.length_drop]; omega
      have hx1 : x.length ≤ 1000 := by omega
      rw [← hx]
      have Hx := Lib.hid hx; clear hx
      by_cases hlt : n < x.length
      · have hst := str_take x n (by omega)
        have hsd := str_drop x n (by omega)
        have hkl : (pieces n l k).length ≤ 1000000 := by rw [pieces_len]; omega
        have hss := HB.out.size
        have HOk : Hid (OwnT wr w.heap.size u5 (pieces n l k)) := Lib.hid HO.out
        clear HO
        go_wp2_with fail
        go_region_law ((refine step_appT rfl (.tmp 15) (.tmp 19) rfl w.heap.size u5 (pieces n l k) (x.take n) (by go_simp) (by exact HOk.out.below (((Below.refl wr.heap.size wr).drew).alloc (Nat.le_refl _) _)) wr.heap.size 1 (by go_simp) (by exact (Blk.newA _ _ _).at rfl) hkl (by simp; omega) ?_; intro v' w1 hv hg; have Hv := Lib.hid hv; clear hv; have Hg := Lib.hid (OwnT.belowBase (w := wr.drew.alloc _) (HOk.out.below (((Below.refl wr.heap.size wr).drew).alloc (Nat.le_refl _) _)) hg (by simp; omega)); clear hg))
        all_goals
          have HB4 : Hid (Below w.heap.size w w1) := Lib.hid ((HB.out.drew.alloc (by simpa using hss) _).trans Hg.out)
          have HOc : Hid (OwnT w1 w.heap.size v' (pieces n l (k + 1))) := Lib.hid (by rw [pieces_succ, ← Hm.out, ← Hx.out]; exact Hv.out)
          have HM1 : Hid (m + n = (k + 1) * n) := Lib.hid (by rw [Nat.succ_mul, ← Hm.out])
          have HJ1 : Hid (∀ j, j < k + 1 → j * n < l.length) := Lib.hid (fun j hj => by
              by_cases e : j = k
              · subst e; rw [← Hm.out]; omega
              · exact Hj.out j (by omega))
          have HX1 : Hid (str (x.drop n) = str (l.drop (m + n))) := Lib.hid (by rw [Hx.out, List.drop_drop])
          go_simp
          go_roundw
          case rel =>
            (repeat apply Exists.intro)
            exact ⟨⟨k + 1, m + n, HM1.out, by omega, by omega, by omega, HJ1.out, HX1.out, HOc.out, HB4.out⟩, rfl⟩
          case measure => simp [ByteArray.size]; omega
      · have hmn : x.length ≤ n := by omega
        have hkl : (pieces n l k).length ≤ 1000000 := by rw [pieces_len]; omega
        have hss := HB.out.size
        have HOk : Hid (OwnT wr w.heap.size u5 (pieces n l k)) := Lib.hid HO.out
        clear HO
        by_cases h0 : x.length = 0
        · have hk : k = 0 := by
            by_cases hk : 0 < k
            · have := Hk0.out hk; omega
            · omega
          go_wp2_with fail
          go_ret
          exact ⟨_, k, rfl, HOk.out, ⟨by rw [← Hm.out]; omega, Hj.out⟩, HB.out⟩
        · have HH : Hid (Has n l (k + 1)) := Lib.hid ⟨by rw [Nat.succ_mul, ← Hm.out]; omega, fun j hj => by
            by_cases e : j = k
            · subst e; rw [← Hm.out]; omega
            · exact Hj.out j (by omega)⟩
          have HX : Hid (x = x.take n) := Lib.hid (List.take_of_length_le hmn).symm
          go_wp2_with (at_builtin; ((with_reducible refine wpList_appT ?g1 (.tmp 27) (.tmp 29) ?g2 w.heap.size u5 (pieces n l k) x ?g3 ?g4 wr.heap.size 1 ?g5 ?g6 ?g7 ?g8 ?_); (case g1 => rfl); (case g2 => rfl); (case g3 => rfl); (case g4 => exact HOk.out.below ((Below.refl _ _).alloc (Nat.le_refl _) _)); (case g5 => rfl); (case g6 => exact (Blk.newA _ _ _).at rfl); (case g7 => exact hkl); (case g8 => simp; omega); intro v' w1 hv hg; have Hv := Lib.hid hv; clear hv; have Hg := Lib.hid (OwnT.belowBase (w := wr.alloc _) (HOk.out.below ((Below.refl _ _).alloc (Nat.le_refl _) _)) hg (by simp; omega)); clear hg))
          go_ret
          refine ⟨_, k + 1, rfl, ?_, HH.out, (HB.out.alloc hss _).trans Hg.out⟩
          rw [pieces_succ, ← Hm.out, ← Hx.out, ← HX.out]
          exact Hv.out
end Go.Proofs.YtbjhaihfkncdoaaDoor
