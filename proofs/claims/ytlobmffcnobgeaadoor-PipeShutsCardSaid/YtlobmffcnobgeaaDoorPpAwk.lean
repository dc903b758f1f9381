/- The law's awake: the document's example. -/
import Derived.Test.YtlobmffcnobgeaaDoorPpOver
import Derived.Test.YtlobmffcnobgeaaDoorSlF
set_option maxRecDepth 100000
namespace Go.Proofs.YtlobmffcnobgeaaDoor
open Go.RowKit
attribute [local go_sem] Oper.semAt_some
theorem OwnB.notIn {w : World} {bs : Nat} {v : Value} {l : List UInt8} {S : List Nat} (h : OwnB w bs v l) (hS : ∀ k ∈ S, k < bs ∨ w.heap.size ≤ k) : ∀ k, v.ownBlock = some k → k ∉ S := by
  intro k hk hm
  have h1 := h.lt k hk
  rcases hS k hm with h2 | h2 <;> omega
theorem PP.toBelow {w w' : World} {base b room : Nat} {V : Nat → Value} {H : Nat → Nat} {X : Nat → WayL} (h : PP w base b room V H X) (ht : Trs (ppS b V H) w w') : Below base w w' :=
  ht.toBelow h.size (fun k hk => (h.inS k hk).1)
theorem ppS_of {b : Nat} {V V' : Nat → Value} {H : Nat → Nat} (h : ∀ i, i < 2 → (V' i).ownBlock = (V i).ownBlock) : ppS b V' H = ppS b V H := by
  unfold ppS; rw [h 0 (by omega), h 1 (by omega)]
theorem upd_own {V : Nat → Value} {i : Nat} {v : Value} (h : v.ownBlock = (V i).ownBlock) : ∀ j, j < 2 → (upd V i v j).ownBlock = (V j).ownBlock := by
  intro j _
  unfold upd
  split
  · next e => rw [e]; exact h
  · rfl
set_option maxHeartbeats 2000000 in
theorem awake22 (w : World) (hT : TabA w) (hG : 1 < w.heap.size) : Calls Tryd.prog 6 #[] w fun e w' => e = .returned (.bool true) ∧ Below w.heap.size w w' := by
  have kc := fun (w : World) (C : Array Value) (n c : Nat) => Lib.run_convert_bytes_const (P := Tryd.prog) w 29 5 C n c Tryd.underlying29 Tryd.underlying5
  have HNew := Lib.hid (new_pp 4 w (by omega) (by omega) hT hG)
  clear hT
  go_enter Tryd.func6, Tryd.ntmps6
  go_wp2_with fail
  refine HNew.out.mono ?_
  rintro e w1 ⟨V, H, rfl, hP1, hB1⟩
  have HP1 := Lib.hid hP1
  have HB1 := Lib.hid hB1
  clear hP1 hB1 HNew
  go_wp2_with fail
  have hS2 := Sl.newF w1 #[.int .u8 97, .int .u8 98, .int .u8 99, .int .u8 100, .int .u8 101] 5 (5, 6) [97, 98, 99, 100, 101] (B := w1.heap.size + 1) rfl rfl rfl (by omega) (by simp)
  have hB2 : Below w1.heap.size w1 (w1.alloc (.cells #[.int .u8 97, .int .u8 98, .int .u8 99, .int .u8 100, .int .u8 101] 5 (5, 6))) := (Below.refl _ _).alloc (Nat.le_refl _) _
  refine (write_0 (HP1.out.below hB2) rfl (w1.heap.size + 1) _ _ hS2).mono ?_
  rintro e w2 ⟨rfl, v2, hP2, hT2, hN2⟩
  have HB2 := Lib.hid (HB1.out.trans ((hB2.mono HB1.out.size).trans ((HP1.out.below hB2).toBelow hT2)))
  obtain ⟨X2, hX2⟩ : ∃ X, X = upd (fun _ => wnew) 0 (wrX 4 wnew [97, 98, 99, 100, 101]) := ⟨_, rfl⟩
  obtain ⟨V2, hV2⟩ : ∃ X, X = upd V 0 v2 := ⟨_, rfl⟩
  have e2 : X2 0 = ⟨[97, 98, 99, 100], false, 4, []⟩ := by rw [hX2]; rfl
  have hn2 : (wrN 4 wnew [97, 98, 99, 100, 101] : Int) = 4 := rfl
  have HP2 := Lib.hid (show PP w2 w.heap.size w.heap.size 4 V2 H X2 from by rw [hX2, hV2]; exact hP2)
  have HE2 := Lib.hid e2
  clear hP2 hT2 hN2 hB2 hS2 hX2 hV2 HP1 HB1 e2
  rw [hn2]
  clear hn2
  go_wp2_with fail
  refine (read_0 HP2.out 2).mono ?_
  rintro e w3 ⟨va, v3, rfl, hO3, hv3, hP3, hT3⟩
  rw [HE2.out] at hO3 hP3
  have HB3 := Lib.hid (HB2.out.trans (HP2.out.toBelow hT3))
  have hO3' : OwnB w3 w2.heap.size va [97, 98] := hO3
  obtain ⟨V3, hV3⟩ : ∃ X, X = upd V2 0 v3 := ⟨_, rfl⟩
  obtain ⟨X3, hX3⟩ : ∃ X, X = upd X2 0 (rdX ⟨[97, 98, 99, 100], false, 4, []⟩ 2) := ⟨_, rfl⟩
  have e3 : X3 0 = ⟨[99, 100], false, 4, [97, 98]⟩ := by rw [hX3]; rfl
  have hs3 : ppS w.heap.size V3 H = ppS w.heap.size V2 H := by rw [hV3]; exact ppS_of (upd_own hv3)
  have HP3 := Lib.hid (show PP w3 w.heap.size w.heap.size 4 V3 H X3 from by rw [hX3, hV3]; exact hP3)
  have HE3 := Lib.hid e3
  have HO3 := Lib.hid hO3'
  have HN3 := Lib.hid (show ∀ k ∈ ppS w.heap.size V3 H, k < w2.heap.size from by rw [hs3]; exact fun k hk => (HP2.out.inS k hk).2)
  obtain ⟨aA, aC, rfl, _, _, _, _⟩ := hO3'.sl
  have hz3 := hT3.size
  clear hO3 hO3' hv3 hP3 hT3 hs3 hV3 hX3 e3 HP2 HE2 HB2
  go_wp2_with fail
  have hS4 := Sl.newF w3 #[.int .u8 102, .int .u8 103] 5 (2, 3) [102, 103] (B := w3.heap.size + 1) rfl rfl rfl (by omega) (by simp)
  have hB4 : Below w3.heap.size w3 (w3.alloc (.cells #[.int .u8 102, .int .u8 103] 5 (2, 3))) := (Below.refl _ _).alloc (Nat.le_refl _) _
  refine (write_0 (HP3.out.below hB4) (by rw [HE3.out]) (w3.heap.size + 1) _ _ hS4).mono ?_
  rintro e w4 ⟨rfl, v4, hP4, hT4, hN4⟩
  have HB4 := Lib.hid (HB3.out.trans ((hB4.mono HB3.out.size).trans ((HP3.out.below hB4).toBelow hT4)))
  rw [HE3.out] at hP4 ⊢
  obtain ⟨X4, hX4⟩ : ∃ X, X = upd X3 0 (wrX 4 ⟨[99, 100], false, 4, [97, 98]⟩ [102, 103]) := ⟨_, rfl⟩
  obtain ⟨V4, hV4⟩ : ∃ X, X = upd V3 0 v4 := ⟨_, rfl⟩
  have e4 : X4 0 = ⟨[99, 100, 102, 103], false, 6, [97, 98]⟩ := by rw [hX4]; rfl
  have hn4 : (wrN 4 ⟨[99, 100], false, 4, [97, 98]⟩ [102, 103] : Int) = 2 := rfl
  have HP4 := Lib.hid (show PP w4 w.heap.size w.heap.size 4 V4 H X4 from by rw [hX4, hV4]; exact hP4)
  have HE4 := Lib.hid e4
  have ho4 := (HO3.out.below hB4).trs hT4 ((HO3.out.below hB4).notIn (fun k hk => .inl (HN3.out k hk)))
  have HO4 := Lib.hid ho4
  have HN4 := Lib.hid (show ∀ k, (Value.slice aA 2 aC).ownBlock = some k → k ∉ ppS w.heap.size V4 H from by
    rw [hV4]
    refine HO3.out.notIn (fun k hk => ?_)
    rcases hN4 k hk with h | h
    · exact .inl (HN3.out k h)
    · right; have := hB4.size; omega)
  clear hP4 hT4 hN4 hB4 hS4 hX4 hV4 e4 ho4 HP3 HE3 HB3 HO3 HN3
  rw [hn4]
  clear hn4
  go_wp2_with fail
  refine (read_0 HP4.out 9).mono ?_
  rintro e w5 ⟨vb', v5, rfl, hO5, hv5, hP5, hT5⟩
  rw [HE4.out] at hO5
  have HB5 := Lib.hid (HB4.out.trans (HP4.out.toBelow hT5))
  have hO5' : OwnB w5 w4.heap.size vb' [99, 100, 102, 103] := hO5
  have hO3' := HO4.out.trs hT5 HN4.out
  obtain ⟨bA, bC, rfl, _, _, _, _⟩ := hO5'.sl
  have hc1 : (convert 29 9 (.slice aA 2 aC)).run Tryd.prog w5 = .ok (str [97, 98]) w5 := conv_sl hO3'.sl
  have hc2 : (convert 29 9 (.slice bA 4 bC)).run Tryd.prog w5 = .ok (str [99, 100, 102, 103]) w5 := conv_sl hO5'.sl
  clear hO5 hO5' hO3' hv5 hP5 hT5 HP4 HB4 HE4 HO4 HN4
  go_wp2_with fail
  go_ret
  exact ⟨rfl, HB5.out⟩
end Go.Proofs.YtlobmffcnobgeaaDoor
