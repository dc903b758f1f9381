/- The statement ShaHex' own text, walked. -/
import Derived.Test.YtkbelfoeofhppaaDoorShaAwake
import Derived.Test.YtkbelfoeofhppaaDoorCut2
namespace Go.Proofs.YtkbelfoeofhppaaDoor
open Go.RowKit
set_option maxRecDepth 100000 in
set_option maxHeartbeats 1000000 in
theorem shaHex_law (B : Nat) (v : Value) (l : List UInt8) (w : World) (hs : Sl w B v l) (hB : B ≤ w.heap.size) (hT : TabA w) :
    Calls Tryd.prog 8 #[v] w fun e w' => e = .returned (.bool true) ∧ Below w.heap.size w w' := by
  have HS := Lib.hid hs; clear hs
  have hG := tab_lt hT
  have HT := Lib.hid hT; clear hT
  go_enter Tryd.func8, Tryd.ntmps8
  go_wp2_with fail
  refine (awake1 w HT.out).mono ?_
  rintro e w1 ⟨rfl, hB1⟩
  have HB1 := Lib.hid hB1; clear hB1
  go_wp2_with fail
  refine (cut_any B v l 100 w1 (HS.out.below HB1.out hB) (by have := HB1.out.size; omega) (by omega) (by omega)).mono ?_
  rintro e w2 ⟨v2, rfl, hO, hB2⟩
  obtain ⟨l2, hl2⟩ : ∃ l2, l2 = l.take (100 : Int).toNat := ⟨_, rfl⟩
  rw [← hl2] at hO
  have hlen : l2.length ≤ 100 := by rw [hl2, List.length_take]; omega
  clear hl2
  have HO := Lib.hid hO; clear hO
  have HB2 := Lib.hid (HB1.out.trans (hB2.mono HB1.out.size)); clear hB2
  go_wp2_with fail
  refine (shaHex_any w2.heap.size v2 l2 w2 HO.out.sl (Nat.le_refl _) (by omega)).mono ?_
  rintro e w3 ⟨rfl, hB3⟩
  have HO3 := Lib.hid (HO.out.below hB3)
  have HB3 := Lib.hid (HB2.out.trans (hB3.mono HB2.out.size)); clear hB3
  go_wp2_with fail
  refine (refHex_any w3.heap.size v2 l2 w3 HO3.out.sl (Nat.le_refl _) (by omega)).mono ?_
  rintro e w4 ⟨rfl, hB4⟩
  have HB4 := Lib.hid (HB3.out.trans (hB4.mono HB3.out.size)); clear hB4
  go_wp2_with fail
  refine (write_nil v2 w4).mono ?_
  rintro e w5 ⟨rfl, hB5⟩
  have HB5 := Lib.hid (HB4.out.trans (hB5.mono HB4.out.size)); clear hB5
  go_wp2_with fail
  refine (sum_nil w5).mono ?_
  rintro e w6 ⟨rfl, rfl⟩
  go_wp2_with fail
  refine (len_nil w5).mono ?_
  rintro e w6 ⟨rfl, rfl⟩
  go_wp2_with fail
  refine (save_nil w5).mono ?_
  rintro e w6 ⟨rfl, rfl⟩
  go_wp2_with fail
  refine (copy_nil w5).mono ?_
  rintro e w6 ⟨rfl, rfl⟩
  go_wp2_with fail
  go_ret
  exact ⟨by first | rfl | simp, HB5.out⟩
end Go.Proofs.YtkbelfoeofhppaaDoor
