/- decimal.Parse. -/
import Derived.Test.YtajclihnoedecaaGreatDoorHdEnv
import Derived.Test.YtajclihnoedecaaGreatDoorDecL
import Derived.Lib.QuietBelow
import Derived.Lib.AppendIntMem
import Derived.Lib.AtoiErrMem
import Derived.Lib.ItoaLen
import Derived.Lib.AtoiAllCases
namespace Go.Proofs.YtajclihnoedecaaGreatDoor
open Go.RowKit Go.Shelf
theorem atoi_ok (s : List UInt8) (w : World) (hs : s.length ≤ 100000) (v : Int) (h : Lib.atoiAll s = .ok v) :
    Calls Tryz.prog 47 #[str s] w fun e w' => e = .returned (.tuple #[.int .i64 v, .nilIface]) ∧ Below w.heap.size w w' := by
  refine (Tryz.strconv_Atoi_ok ⟨s.toArray⟩ (by simp [ByteArray.size]; omega) v (by simpa using h) w).mono ?_
  rintro e w' ⟨rfl, rfl | ⟨t, rfl⟩⟩
  · exact ⟨rfl, Below.refl _ _⟩
  · exact ⟨rfl, Lib.bytesWorld_below w _ t⟩
def IsErr (w : World) (e : Ending) (w' : World) : Prop := ∃ n t p, e = .returned (.tuple #[.int .i64 n, .iface t p]) ∧ Below w.heap.size w w'
theorem atoi_bad (s : List UInt8) (w : World) (hE : Env w) (hs : s.length ≤ 100000) (h : ∀ v, Lib.atoiAll s ≠ .ok v) :
    Calls Tryz.prog 47 #[str s] w (IsErr w) := by
  rcases ends (Lib.atoiAll s) with ⟨v, hat⟩ | hat | hat
  · exact absurd hat (h v)
  · obtain ⟨ev, h1, h2⟩ := hE.syn
    refine (Tryz.strconv_Atoi_syntax ⟨s.toArray⟩ (by simp [ByteArray.size]; omega) (by simpa using hat) ev w h1 h2).mono ?_
    rintro e w' ⟨N, rfl, _, _, hb⟩
    exact ⟨_, _, _, rfl, hb⟩
  · obtain ⟨ev, h1, h2⟩ := hE.rng
    refine (Tryz.strconv_Atoi_range ⟨s.toArray⟩ (by simp [ByteArray.size]; omega) (by simpa using hat) ev w h1 h2).mono ?_
    rintro e w' ⟨N, rfl, _, _, hb⟩
    exact ⟨_, _, _, rfl, hb⟩
theorem itoa_any (n : Int) (w : World) (hE : Env w) (h0 : -9223372036854775808 ≤ n) (h1 : n ≤ 9223372036854775807) :
    Calls Tryz.prog 40 #[.int .i64 n] w fun e w' => e = .returned (str (Lib.itoa n)) ∧ Below w.heap.size w w' := by
  refine (Tryz.strconv_Itoa n h0 h1 w hE.pow).mono ?_
  rintro e w' ⟨rfl, k, os, rfl⟩
  exact ⟨rfl, Lib.below_grow _ _ (Nat.le_refl _) k os⟩
set_option maxRecDepth 100000 in
theorem dec_any (s : List UInt8) (lo hi : Int) (w : World) (hE : Env w) (hs : s.length ≤ 100000) :
    Calls Tryz.prog 33 #[str s, .int .i64 lo, .int .i64 hi] w fun e w' => e = .returned (.tuple #[.int .i64 (decP s lo hi).1, .bool (decP s lo hi).2]) ∧ Below w.heap.size w w' := by
  have HE := Lib.hid hE; clear hE
  by_cases hok : ∃ v, Lib.atoiAll s = .ok v
  · obtain ⟨v, hv⟩ := hok
    have HA := Lib.hid (atoi_ok s w hs v hv)
    obtain ⟨b0, b1⟩ := Lib.atoiAll_bounds hv
    have hd : decP s lo hi = if Lib.itoa v = s ∧ lo ≤ v ∧ v ≤ hi then (v, true) else (0, false) := by unfold decP; rw [hv]
    have HI := Lib.hid (fun W (h : Env W) => itoa_any v W h b0 b1)
    clear hv b0 b1
    obtain ⟨t, ht⟩ : ∃ t, Lib.itoa v = t := ⟨_, rfl⟩
    rw [ht] at hd HI
    clear ht
    by_cases he : t = s
    · subst he
      by_cases h1 : lo ≤ v
      · by_cases h2 : v ≤ hi
        · rw [if_pos ⟨rfl, h1, h2⟩] at hd
          rw [hd]
          have d1 : decide (v < lo) = false := decide_eq_false (by omega)
          have d2 : decide (hi < v) = false := decide_eq_false (by omega)
          clear hd h1 h2
          go_enter Tryz.func33, Tryz.ntmps33
          go_wp2_with fail
          refine HA.out.mono ?_
          rintro e w1 ⟨rfl, hB⟩
          have HB := Lib.hid hB; have hE1 := HE.out.below hB; have HE1 := Lib.hid hE1; clear hB hE1 HA
          go_wp2_with fail
          refine (HI.out _ HE1.out).mono ?_
          rintro e w2 ⟨rfl, hB⟩
          have HB2 := Lib.hid hB; clear hB
          go_wp2_with fail
          go_ret2
          exact ⟨rfl, HB.out.trans (HB2.out.mono HB.out.size)⟩
        · rw [if_neg (fun h => h2 h.2.2)] at hd
          rw [hd]
          have d1 : decide (v < lo) = false := decide_eq_false (by omega)
          have d2 : decide (hi < v) = true := decide_eq_true (by omega)
          clear hd h1 h2
          go_enter Tryz.func33, Tryz.ntmps33
          go_wp2_with fail
          refine HA.out.mono ?_
          rintro e w1 ⟨rfl, hB⟩
          have HB := Lib.hid hB; have hE1 := HE.out.below hB; have HE1 := Lib.hid hE1; clear hB hE1 HA
          go_wp2_with fail
          refine (HI.out _ HE1.out).mono ?_
          rintro e w2 ⟨rfl, hB⟩
          have HB2 := Lib.hid hB; clear hB
          go_wp2_with fail
          go_ret2
          exact ⟨rfl, HB.out.trans (HB2.out.mono HB.out.size)⟩
      · rw [if_neg (fun h => h1 h.2.1)] at hd
        rw [hd]
        have d1 : decide (v < lo) = true := decide_eq_true (by omega)
        clear hd h1
        go_enter Tryz.func33, Tryz.ntmps33
        go_wp2_with fail
        refine HA.out.mono ?_
        rintro e w1 ⟨rfl, hB⟩
        have HB := Lib.hid hB; have hE1 := HE.out.below hB; have HE1 := Lib.hid hE1; clear hB hE1 HA
        go_wp2_with fail
        refine (HI.out _ HE1.out).mono ?_
        rintro e w2 ⟨rfl, hB⟩
        have HB2 := Lib.hid hB; clear hB
        go_wp2_with fail
        go_ret2
        exact ⟨rfl, HB.out.trans (HB2.out.mono HB.out.size)⟩
    · rw [if_neg (fun h => he h.1)] at hd
      rw [hd]
      have he2 : (t == s) = false := by rw [beq_eq_false_iff_ne]; exact he
      clear hd
      go_enter Tryz.func33, Tryz.ntmps33
      go_wp2_with fail
      refine HA.out.mono ?_
      rintro e w1 ⟨rfl, hB⟩
      have HB := Lib.hid hB; have hE1 := HE.out.below hB; have HE1 := Lib.hid hE1; clear hB hE1 HA
      go_wp2_with fail
      refine (HI.out _ HE1.out).mono ?_
      rintro e w2 ⟨rfl, hB⟩
      have HB2 := Lib.hid hB; clear hB
      go_wp2_with fail
      go_ret2
      exact ⟨rfl, HB.out.trans (HB2.out.mono HB.out.size)⟩
  · have HA := Lib.hid (atoi_bad s w HE.out hs (fun v e => hok ⟨v, e⟩))
    have hd : decP s lo hi = (0, false) := by
      unfold decP
      rcases ends (Lib.atoiAll s) with ⟨v, h⟩ | h | h
      · exact absurd ⟨v, h⟩ hok
      · rw [h]
      · rw [h]
    rw [hd]
    clear hd hok
    go_enter Tryz.func33, Tryz.ntmps33
    go_wp2_with fail
    refine HA.out.mono ?_
    rintro e w1 ⟨n, t, q, rfl, hB⟩
    have HB := Lib.hid hB; clear hB HA
    go_wp2_with fail
    go_ret2
    exact ⟨rfl, HB.out⟩
end Go.Proofs.YtajclihnoedecaaGreatDoor
