/- HeadSplits' walk. -/
import Derived.Test.YtgipbkopndghdaaDoorHdRs
import Derived.Test.YtgipbkopndghdaaDoorStrT
namespace Go.Proofs.YtgipbkopndghdaaDoor
open Go.RowKit Go.Shelf
set_option maxRecDepth 100000 in
theorem splits_law (s : List UInt8) (w : World) (hs : s.length ≤ 9223372036854775807) (hE : Env w) : Calls Tryd.prog 6 #[str s] w fun e w' => e = .returned (.bool true) ∧ Below w.heap.size w w' := by
  have HA := Lib.hid (awake9 w hE)
  have HE := Lib.hid hE
  have HC := Lib.hid (fun W => cutText_any s 60 W hs (by omega) (by omega))
  have hl : (s.take 60).length ≤ 60 := by rw [List.length_take]; omega
  have e60 : s.take (60 : Int).toNat = s.take 60 := rfl
  rw [e60] at HC
  obtain ⟨t, ht⟩ : ∃ t, t = s.take 60 := ⟨_, rfl⟩
  rw [← ht] at HC hl
  have HS := Lib.hid (fun W (h : Env W) => split_any t W h (by omega))
  have HR := Lib.hid (fun W => refSplit_any t W (by omega))
  obtain ⟨A, n, ok, hR⟩ : ∃ A n ok, splitL t = (A, n, ok) := ⟨_, _, _, rfl⟩
  rw [hR] at HS HR
  clear hE ht hR e60
  go_enter Tryd.func6, Tryd.ntmps6
  go_wp2_with fail
  refine HA.out.mono ?_
  rintro e w1 ⟨rfl, hB⟩
  have HB := Lib.hid hB; have HE1 := Lib.hid (HE.out.below hB); clear hB
  go_wp2_with fail
  refine (HC.out _).mono ?_
  rintro e w2 ⟨rfl, rfl⟩
  go_wp2_with fail
  refine (HS.out _ HE1.out).mono ?_
  rintro e w2 ⟨rfl, hB⟩
  have HB2 := Lib.hid (HB.out.trans (hB.mono HB.out.size)); clear hB
  go_wp2_with fail
  refine (HR.out _).mono ?_
  rintro e w3 ⟨rfl, hB⟩
  have HB3 := Lib.hid (HB2.out.trans (hB.mono HB2.out.size)); clear hB
  go_wp2_with fail
  go_ret
  exact ⟨rfl, HB3.out⟩
end Go.Proofs.YtgipbkopndghdaaDoor
