/- awake: the document's two examples, walked. -/
import Derived.Test.YtjaclccjccjljaaDoorHmEg
import Derived.Test.YtjaclccjccjljaaDoorSame
import Derived.Lib.SlBytesConst
namespace Go.Proofs.YtjaclccjccjljaaDoor
open Go.RowKit
/-- A slice over a new row, marked or not, and what lies below. -/
theorem new_const (w : World) (l : List UInt8) (cs : Array Value) (hcs : cs = (l.map vb).toArray) (fr : Nat × Nat) (n : Nat) (hn : n = l.length) (hl : n ≤ 1000000) (b : Nat) (hb : b = w.heap.size) :
    Sl (w.alloc (.cells cs 5 fr)) (w.alloc (.cells cs 5 fr)).heap.size (.slice (some ⟨b, 0, none⟩) n n) l ∧ Below w.heap.size w (w.alloc (.cells cs 5 fr)) := by
  subst hb
  rw [World.size_alloc]
  exact ⟨Sl.of_new w l cs hcs fr n hn hl, (Below.refl _ _).alloc (Nat.le_refl _) _⟩
theorem Sl.fwd {w w' : World} {v : Value} {l : List UInt8} (h : Sl w w.heap.size v l) (hb : Below w.heap.size w w') : Sl w' w'.heap.size v l := (h.below hb (Nat.le_refl _)).more hb.size
theorem slice_hB (A : Option Addr) (n c k : Nat) (hk : k ≤ c) (w : World) : (Instr.slice 22 (.slice A n c) none (some (.int .i64 (k : Int))) none).run Tryd.prog w = .ok (.slice A k c) w := by
  rw [run_slice_h w 22 A n c Tryd.underlying22 .i64 k (by omega) (by omega)]
  by_cases h0 : c = 0 <;> simp [sliced, go_sem, h0]
set_option maxRecDepth 100000 in
set_option maxHeartbeats 2000000 in
theorem awake2 (w : World) (hT : TabA w) : Calls Tryd.prog 8 #[] w fun e w' => e = .returned (.bool true) ∧ Below w.heap.size w w' := by
  have hG := tab_lt hT
  have HT := Lib.hid hT; clear hT
  have kc := fun (w : World) (C : Array Value) (n c : Nat) => Lib.run_convert_bytes_const (P := Tryd.prog) w 22 5 C n c Tryd.underlying22 Tryd.underlying5
  have KC := Lib.hid kc; clear kc
  have kc1 := KC.out w #[.int .u8 74, .int .u8 101, .int .u8 102, .int .u8 101] 4 4
  have kc2 := KC.out (w.alloc (.cells #[.int .u8 74, .int .u8 101, .int .u8 102, .int .u8 101] 5 (4, 5))) #[.int .u8 119, .int .u8 104, .int .u8 97, .int .u8 116, .int .u8 32, .int .u8 100, .int .u8 111, .int .u8 32, .int .u8 121, .int .u8 97, .int .u8 32, .int .u8 119, .int .u8 97, .int .u8 110, .int .u8 116, .int .u8 32] 16 16
  have kc3 := KC.out ((w.alloc (.cells #[.int .u8 74, .int .u8 101, .int .u8 102, .int .u8 101] 5 (4, 5))).alloc (.cells #[.int .u8 119, .int .u8 104, .int .u8 97, .int .u8 116, .int .u8 32, .int .u8 100, .int .u8 111, .int .u8 32, .int .u8 121, .int .u8 97, .int .u8 32, .int .u8 119, .int .u8 97, .int .u8 110, .int .u8 116, .int .u8 32] 5 (16, 17))) #[.int .u8 102, .int .u8 111, .int .u8 114, .int .u8 32, .int .u8 110, .int .u8 111, .int .u8 116, .int .u8 104, .int .u8 105, .int .u8 110, .int .u8 103, .int .u8 63] 12 12
  simp only [World.size_alloc] at kc2 kc3
  go_enter Tryd.func8, Tryd.ntmps8
  go_wp2_with fail
  clear kc1 kc2 kc3
  obtain ⟨a1, b1⟩ := new_const w jefe #[.int .u8 74, .int .u8 101, .int .u8 102, .int .u8 101] rfl (4, 5) 4 rfl (by decide) _ rfl
  obtain ⟨W1, hW1⟩ : ∃ W1, W1 = w.alloc (.cells #[.int .u8 74, .int .u8 101, .int .u8 102, .int .u8 101] 5 (4, 5)) := ⟨_, rfl⟩
  have z1 : W1.heap.size = w.heap.size + 1 := by rw [hW1]; simp
  rw [← hW1] at a1 b1 ⊢
  clear hW1
  obtain ⟨a2, b2⟩ := new_const W1 want1 #[.int .u8 119, .int .u8 104, .int .u8 97, .int .u8 116, .int .u8 32, .int .u8 100, .int .u8 111, .int .u8 32, .int .u8 121, .int .u8 97, .int .u8 32, .int .u8 119, .int .u8 97, .int .u8 110, .int .u8 116, .int .u8 32] rfl (16, 17) 16 rfl (by decide) _ rfl
  obtain ⟨W2, hW2⟩ : ∃ W2, W2 = W1.alloc (.cells #[.int .u8 119, .int .u8 104, .int .u8 97, .int .u8 116, .int .u8 32, .int .u8 100, .int .u8 111, .int .u8 32, .int .u8 121, .int .u8 97, .int .u8 32, .int .u8 119, .int .u8 97, .int .u8 110, .int .u8 116, .int .u8 32] 5 (16, 17)) := ⟨_, rfl⟩
  have z2 : W2.heap.size = w.heap.size + 1 + 1 := by rw [hW2]; simp [z1]
  rw [← hW2] at a2 b2 ⊢
  clear hW2
  obtain ⟨a3, b3⟩ := new_const W2 want2 #[.int .u8 102, .int .u8 111, .int .u8 114, .int .u8 32, .int .u8 110, .int .u8 111, .int .u8 116, .int .u8 104, .int .u8 105, .int .u8 110, .int .u8 103, .int .u8 63] rfl (12, 13) 12 rfl (by decide) _ rfl
  obtain ⟨W3, hW3⟩ : ∃ W3, W3 = W2.alloc (.cells #[.int .u8 102, .int .u8 111, .int .u8 114, .int .u8 32, .int .u8 110, .int .u8 111, .int .u8 116, .int .u8 104, .int .u8 105, .int .u8 110, .int .u8 103, .int .u8 63] 5 (12, 13)) := ⟨_, rfl⟩
  have z3 : W3.heap.size = w.heap.size + 1 + 1 + 1 := by rw [hW3]; simp [z2]
  rw [← hW3] at a3 b3 ⊢
  clear hW3
  have a2' := a2.fwd b3
  have a1' := (a1.fwd b2).fwd b3
  rw [z1] at a2'
  rw [z2] at a3
  obtain ⟨W4, hW4⟩ : ∃ W4, W4 = W3.alloc (.cells #[.slice (some ⟨w.heap.size + 1, 0, none⟩) 16 16, .slice (some ⟨w.heap.size + 1 + 1, 0, none⟩) 12 12] 22) := ⟨_, rfl⟩
  have s4 : Sls W4 W4.heap.size (.slice (some ⟨w.heap.size + 1 + 1 + 1, 0, none⟩) 2 2) [want1, want2] := by
    have := Sls.two W3 want1 want2 _ _ 22 a2' a3
    rw [← hW4, z3] at this
    rw [hW4, World.size_alloc, z3, ← hW4]; exact this
  have b4 : Below W3.heap.size W3 W4 := by rw [hW4]; exact (Below.refl _ _).alloc (Nat.le_refl _) _
  have a1'' := a1'.fwd b4
  rw [← hW4]
  clear hW4
  have HB4 : Hid (Below w.heap.size w W4) := Lib.hid (((b1.trans (b2.mono (by omega))).trans (b3.mono (by omega))).trans (b4.mono (by omega)))
  have HA := Lib.hid a1''; clear a1 a1' a1''
  have HS := Lib.hid s4; clear s4
  clear a2 a2' a3 b1 b2 b3 b4 z1 z2 z3
  refine (hmacSum_any _ _ jefe [want1, want2] W4 HA.out (by decide) HS.out (by decide) (HT.out.below HB4.out hG)).mono ?_
  rintro e w5 ⟨v5, rfl, hO, hB⟩
  rw [show ([want1, want2] : List (List UInt8)).flatten = want1 ++ want2 by simp] at hO
  have hl5 := hm_length jefe (want1 ++ want2)
  obtain ⟨q5, hq5⟩ : ∃ q, q = hm jefe (want1 ++ want2) := ⟨_, rfl⟩
  have ht5 : q5.take 4 = [91, 220, 193, 70] := by rw [hq5, eg1]
  rw [← hq5] at hO hl5
  have HT5 := Lib.hid ht5; clear ht5 hq5
  obtain ⟨A5, c5, rfl, hc5, hc5b, hc5c, hs5⟩ := hO.sl.take 4 (by omega)
  rw [hl5]
  rw [hl5] at hc5b
  rw [HT5.out] at hs5
  have HS5 := Lib.hid hs5; clear hs5 hO HT5 hl5
  have HB5 := Lib.hid (HB4.out.trans (hB.mono HB4.out.size)); clear hB
  have kc4 := KC.out w5 #[.int .u8 112, .int .u8 97, .int .u8 115, .int .u8 115, .int .u8 119, .int .u8 111, .int .u8 114, .int .u8 100] 8 8
  have kc5 := KC.out (w5.alloc (.cells #[.int .u8 112, .int .u8 97, .int .u8 115, .int .u8 115, .int .u8 119, .int .u8 111, .int .u8 114, .int .u8 100] 5 (8, 9))) #[.int .u8 115, .int .u8 97, .int .u8 108, .int .u8 116] 4 4
  simp only [World.size_alloc] at kc5
  go_wp2_with fail
  clear kc4 kc5
  obtain ⟨a1, b1⟩ := new_const w5 passw #[.int .u8 112, .int .u8 97, .int .u8 115, .int .u8 115, .int .u8 119, .int .u8 111, .int .u8 114, .int .u8 100] rfl (8, 9) 8 rfl (by decide) _ rfl
  obtain ⟨W1, hW1⟩ : ∃ W1, W1 = w5.alloc (.cells #[.int .u8 112, .int .u8 97, .int .u8 115, .int .u8 115, .int .u8 119, .int .u8 111, .int .u8 114, .int .u8 100] 5 (8, 9)) := ⟨_, rfl⟩
  have z1 : W1.heap.size = w5.heap.size + 1 := by rw [hW1]; simp
  rw [← hW1] at a1 b1 ⊢
  clear hW1
  obtain ⟨a2, b2⟩ := new_const W1 salt4 #[.int .u8 115, .int .u8 97, .int .u8 108, .int .u8 116] rfl (4, 5) 4 rfl (by decide) _ rfl
  obtain ⟨W2, hW2⟩ : ∃ W2, W2 = W1.alloc (.cells #[.int .u8 115, .int .u8 97, .int .u8 108, .int .u8 116] 5 (4, 5)) := ⟨_, rfl⟩
  rw [← hW2] at a2 b2 ⊢
  clear hW2
  rw [z1] at a2
  have HA1 := Lib.hid (a1.fwd b2)
  have HA2 := Lib.hid a2
  have HBc : Hid (Below w5.heap.size w5 W2) := Lib.hid (b1.trans (b2.mono (by omega)))
  have HB6 := Lib.hid (HB5.out.trans (HBc.out.mono HB5.out.size))
  have HS6 := Lib.hid (HS5.out.fwd HBc.out)
  clear a1 a2 b1 b2 z1
  have hst := hmStretch_any (.slice (some ⟨w5.heap.size, 0, none⟩) 8 8) (.slice (some ⟨w5.heap.size + 1, 0, none⟩) 4 4) passw salt4 1 32 1 32 W2 HA1.out HA2.out (by decide) (by decide) (HT.out.below HB6.out hG) rfl rfl (by omega) (by omega) (by omega) (by omega)
  have HST := Lib.hid hst; clear hst
  refine HST.out.mono ?_
  rintro e w7 ⟨v7, rfl, hO, hB⟩
  have hl7 := keyS_len passw salt4 1 32 (by omega)
  obtain ⟨q7, hq7⟩ : ∃ q, q = keyS passw salt4 1 32 := ⟨_, rfl⟩
  have ht7 : q7.take 4 = [18, 15, 182, 207] := by rw [hq7, eg2]
  rw [← hq7] at hO hl7
  have HT7 := Lib.hid ht7; clear ht7 hq7
  obtain ⟨A7, c7, rfl, hc7, hc7b, hc7c, hs7⟩ := hO.sl.take 4 (by omega)
  rw [hl7]
  rw [hl7] at hc7b
  rw [HT7.out] at hs7
  have HS7 := Lib.hid hs7; clear hs7 hO HT7 hl7
  have HB7 := Lib.hid (HB6.out.trans (hB.mono HB6.out.size))
  have HS67 := Lib.hid (HS6.out.fwd hB); clear hB
  have hr5 : ∀ W, (Instr.slice 22 (.slice A5 32 c5) none (some (.int .i64 4)) none).run Tryd.prog W = .ok (.slice A5 4 c5) W := fun W => slice_hB A5 32 c5 4 hc5 W
  have hr7 : ∀ W, (Instr.slice 22 (.slice A7 32 c7) none (some (.int .i64 4)) none).run Tryd.prog W = .ok (.slice A7 4 c7) W := fun W => slice_hB A7 32 c7 4 hc7 W
  go_wp2_with fail
  obtain ⟨a3, b3⟩ := new_const w7 [91, 220, 193, 70] #[.int .u8 91, .int .u8 220, .int .u8 193, .int .u8 70] rfl (0, 0) 4 rfl (by decide) _ rfl
  obtain ⟨W8, hW8⟩ : ∃ W8, W8 = w7.alloc (.cells #[.int .u8 91, .int .u8 220, .int .u8 193, .int .u8 70] 5) := ⟨_, rfl⟩
  rw [← hW8] at a3 b3 ⊢
  clear hW8
  have HA3 := Lib.hid a3
  have HS8 := Lib.hid (HS67.out.fwd b3)
  have HS78 := Lib.hid (HS7.out.fwd b3)
  have HB8 := Lib.hid (HB7.out.trans (b3.mono HB7.out.size))
  clear a3 b3
  refine (same_true _ _ _ _ [91, 220, 193, 70] W8 HS8.out HA3.out).mono ?_
  rintro e w9 ⟨rfl, rfl⟩
  go_wp2_with fail
  obtain ⟨a4, b4⟩ := new_const W8 [18, 15, 182, 207] #[.int .u8 18, .int .u8 15, .int .u8 182, .int .u8 207] rfl (0, 0) 4 rfl (by decide) _ rfl
  obtain ⟨W9, hW9⟩ : ∃ W9, W9 = W8.alloc (.cells #[.int .u8 18, .int .u8 15, .int .u8 182, .int .u8 207] 5) := ⟨_, rfl⟩
  rw [← hW9] at a4 b4 ⊢
  clear hW9
  have HA4 := Lib.hid a4
  have HS9 := Lib.hid (HS78.out.fwd b4)
  have HB9 := Lib.hid (HB8.out.trans (b4.mono HB8.out.size))
  clear a4 b4
  refine (same_true _ _ _ _ [18, 15, 182, 207] W9 HS9.out HA4.out).mono ?_
  rintro e w10 ⟨rfl, rfl⟩
  go_wp2_with fail
  go_ret
  exact ⟨rfl, HB9.out⟩
end Go.Proofs.YtjaclccjccjljaaDoor
