/- The statement ShaSums' own text, walked. -/
import Derived.Test.YtkbelfoeofhppaaDoorShaWhole
import Derived.Test.YtkbelfoeofhppaaDoorRefSum
import Derived.Test.YtkbelfoeofhppaaDoorShaAwake
import Derived.Test.YtkbelfoeofhppaaDoorSame
namespace Go.Proofs.YtkbelfoeofhppaaDoor
open Go.RowKit
set_option maxRecDepth 100000 in
set_option maxHeartbeats 2000000 in
theorem shaSums_law (B : Nat) (v : Value) (ls : List (List UInt8)) (w : World) (hs0 : Sls w B v ls) (hB0 : B ≤ w.heap.size) (hT : TabA w) (hU : TabB w) :
    Calls Tryd.prog 3 #[v] w fun e w' => e = .returned (.bool true) ∧ Below w.heap.size w w' := by
  have hs : Sls w w.heap.size v ls := by
    obtain ⟨A, c, rfl, h1, h2, h3⟩ := hs0
    refine ⟨A, c, rfl, h1, h2, fun hp => ?_⟩
    obtain ⟨b, o, e, hlt, hx⟩ := h3 hp
    exact ⟨b, o, e, by omega, fun j hj => by obtain ⟨vj, h4, h5⟩ := hx j hj; exact ⟨vj, h4, h5.more hB0⟩⟩
  clear hs0 hB0
  have HS := Lib.hid hs
  have hG := tab_lt hT
  have hG2 : 1 < w.heap.size := World.block_lt_of_cell? w _ (hU 0 (by decide))
  have HT := Lib.hid hT; clear hT
  have HU := Lib.hid hU; clear hU
  obtain ⟨A, c, rfl, k1, k2, k3⟩ := hs
  have H3 := Lib.hid k3; clear k3
  go_enter Tryd.func3, Tryd.ntmps3
  go_wp2_with fail
  refine (awake1 w HT.out).mono ?_
  rintro e w1 ⟨rfl, hB1⟩
  have HB1 := Lib.hid hB1
  have hz1 := hB1.size
  clear hB1
  go_wp2_with fail
  refine (whole_any (.slice A ls.length c) ls 150 w1 (by
    have := HS.out.below HB1.out (Nat.le_refl _)
    obtain ⟨A', c', e, h1, h2, h3⟩ := this
    refine ⟨A', c', e, h1, h2, fun hp => ?_⟩
    obtain ⟨b, o, e, hlt, hx⟩ := h3 hp
    exact ⟨b, o, e, by omega, fun j hj => by obtain ⟨vj, h4, h5⟩ := hx j hj; exact ⟨vj, h4, h5.more hz1⟩⟩) (by omega)).mono ?_
  rintro e w2 ⟨vp, va, vs, rfl, hW, hB2⟩
  obtain ⟨L, hL⟩ : ∃ L, L = cuts ls 150 ls.length := ⟨_, rfl⟩
  rw [← hL] at hW
  have hLl : L.length ≤ 6 ∧ L.length ≤ ls.length := by rw [hL, cuts_len]; omega
  have hLs : ∀ x ∈ L, x.length ≤ 150 := by rw [hL]; exact cuts_short _ _ _
  have hLf : L.flatten.length ≤ 900 := by have := flatten_le 150 L hLs; have h2 : 150 * L.length ≤ 150 * 6 := Nat.mul_le_mul (Nat.le_refl _) hLl.1; omega
  have HLS := Lib.hid hLs; clear hLs
  have HLA : Hid (∀ j (h : j < L.length) (h2 : j < ls.length), L[j] = (ls[j]).take 150) := Lib.hid (by subst hL; exact fun j h h2 => cuts_at ls 150 j h h2)
  clear hL
  have HW := Lib.hid hW; clear hW
  have HB2 := Lib.hid (HB1.out.trans (hB2.mono hz1)); clear hB2
  have hz2 := HB2.out.size
  go_wp2_with fail
  refine (shaSum_any vp L w2 HW.out.sls (fun l h => by have := HLS.out l h; omega) (HT.out.below HB2.out hG)).mono ?_
  rintro e w3 ⟨vg, rfl, hO3, hB3⟩
  have HW3 := Lib.hid (HW.out.below hB3)
  have HO3 := Lib.hid hO3.sl
  obtain ⟨Ag, cg, rfl, _⟩ := hO3.sl
  rw [sumL_length] at HO3 ⊢
  have HB3 := Lib.hid (HB2.out.trans (hB3.mono hz2)); clear hB3 hO3
  have hz3 := HB3.out.size
  have HP3 := Lib.hid HW3.out.sls
  obtain ⟨Ap, cp, rfl, p1, p2, p3⟩ := HW3.out.sls
  have P3 := Lib.hid p3; clear p3
  clear p1 p2
  go_wp2_with fail
  go_loopw [19] (fun i wr => ∃ k : Nat, k ≤ L.length ∧ i = .int .i64 k ∧ Below w3.heap.size w3 wr) (fun i _ => L.length - (intOf i).toNat)
  case atStart => exact ⟨0, by omega, rfl, Below.refl _ _⟩
  case round =>
    obtain ⟨k, hk, rfl, hB⟩ := hrel
    have HB := Lib.hid hB; clear hB
    by_cases hlt : k < L.length
    · have hlt2 : k < ls.length := by omega
      obtain ⟨b, o, rfl, hb, hx⟩ := H3.out (by omega)
      obtain ⟨vj, hc, hsl⟩ := hx k hlt2
      have hcell : wr.cell? ⟨b, o + k, none⟩ = some vj := (HB.out.cell (p := ⟨b, o + k, none⟩) (by show b < w3.heap.size; omega)).trans ((HB3.out.cell (p := ⟨b, o + k, none⟩) hb).trans hc)
      obtain ⟨b2, o2, rfl, hb2, hx2⟩ := P3.out (by omega)
      obtain ⟨vi, hc2, hsl2⟩ := hx2 k hlt
      have hcell2 : wr.cell? ⟨b2, o2 + k, none⟩ = some vi := (HB.out.cell (p := ⟨b2, o2 + k, none⟩) hb2).trans hc2
      have HSL := Lib.hid ((hsl.below HB3.out (Nat.le_refl _)).below HB.out hz3)
      have HSL2 := Lib.hid (hsl2.below HB.out (Nat.le_refl _))
      have hki : (k : Int) < (ls.length : Int) := by omega
      have hzr := HB.out.size
      clear hx hc hsl hx2 hc2 hsl2
      go_wp2_with fail
      refine (cut_any w.heap.size vj ls[k] 150 wr HSL.out (by omega) (by omega) (by omega)).mono ?_
      rintro e w4 ⟨v4, rfl, hO, hB4⟩
      have HB4 := Lib.hid (HB.out.trans (hB4.mono hzr))
      have HS4 := Lib.hid (HSL2.out.below hB4 hzr)
      have e4 : (ls[k]).take (150 : Int).toNat = L[k] := (HLA.out k hlt hlt2).symm
      rw [e4] at hO
      have HO4 := Lib.hid hO.sl
      clear hO e4 hB4
      go_wp2_with fail
      refine (same_true _ _ vi v4 L[k] w4 HS4.out HO4.out).mono ?_
      rintro e w5 ⟨rfl, rfl⟩
      go_wp2_with fail
      go_roundw
      case rel => exact ⟨k + 1, by omega, by go_num, HB4.out⟩
      case measure => simp [intOf]; omega
    · obtain rfl : k = L.length := by omega
      have hzr := HB.out.size
      have HBw := Lib.hid (HB3.out.trans (HB.out.mono hz3))
      have HWr := Lib.hid (HW3.out.below HB.out)
      have HOr := Lib.hid (HO3.out.below HB.out (Nat.le_refl _))
      go_wp2_with fail
      refine (refSum_any wr.heap.size va L.flatten wr (HU.out.below HBw.out hG2) (by show _ < wr.heap.size; omega) HWr.out.all.sl (Nat.le_refl _) (by omega)).mono ?_
      rintro e w4 ⟨v4, rfl, hO4, hB4⟩
      have HO4 := Lib.hid hO4.sl; clear hO4
      have HOr4 := Lib.hid (HOr.out.below hB4 hzr)
      have HB4 := Lib.hid (HBw.out.trans (hB4.mono HBw.out.size)); clear hB4
      go_wp2_with fail
      refine (same_true _ _ _ v4 (sumL L.flatten) w4 HOr4.out HO4.out).mono ?_
      rintro e w5 ⟨rfl, rfl⟩
      go_wp2_with fail
      go_ret
      exact ⟨rfl, HB4.out⟩
end Go.Proofs.YtkbelfoeofhppaaDoor
