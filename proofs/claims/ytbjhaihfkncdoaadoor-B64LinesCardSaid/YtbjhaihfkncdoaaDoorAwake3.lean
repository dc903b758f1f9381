/- The document's examples for b64 hold. -/
import Derived.Test.YtbjhaihfkncdoaaDoorDec
import Derived.Lib.SlBytesConst
namespace Go.Proofs.YtbjhaihfkncdoaaDoor
open Go.RowKit

theorem ex1 : decS [90, 104, 61, 61] = ([], 4) := by decide +kernel
theorem ex2 : decS [90, 61, 61, 61] = ([], 5) := by decide +kernel
theorem ex3 : encS [102] = [90, 103, 61, 61] := by decide +kernel
theorem ex4 : encS [102, 111, 111] = [90, 109, 57, 118] := by decide +kernel
theorem Sl.of_new (w : World) (l : List UInt8) (cs : Array Value) (hcs : cs = (l.map vb).toArray) (fr : Nat × Nat) (n : Nat) (hn : n = l.length) (hl : n ≤ 1000000) : Sl (w.alloc (.cells cs 5 fr)) (w.heap.size + 1) (.slice (some ⟨w.heap.size, 0, none⟩) n n) l := by
  subst hn; subst hcs
  refine ⟨_, _, rfl, (fun h => by cases h), Nat.le_refl _, by omega, fun _ => ⟨_, 0, rfl, by omega, fun j hj => ?_⟩⟩
  rw [World.cell?_alloc_mark]
  simp [hj]
set_option maxRecDepth 100000 in
set_option maxHeartbeats 1000000 in
theorem awake3 (w : World) : Calls Tryd.prog 10 #[] w fun e w' => e = .returned (.bool true) ∧ Below w.heap.size w w' := by
  have kc := fun (w : World) (C : Array Value) (n c : Nat) => Lib.run_convert_bytes_const (P := Tryd.prog) w 36 5 C n c Tryd.underlying36 Tryd.underlying5
  go_enter Tryd.func10, Tryd.ntmps10
  go_wp2_with fail
  refine (decode_any [90, 104, 61, 61] w (by decide)).mono ?_
  rintro e w1 ⟨v1, rfl, _, hb⟩
  rw [ex1]
  have HB1 := Lib.hid hb; clear hb
  go_wp2_with fail
  refine (decode_any [90, 61, 61, 61] w1 (by decide)).mono ?_
  rintro e w2 ⟨v2, rfl, _, hb⟩
  rw [ex2]
  have HB2 := Lib.hid (HB1.out.trans (hb.mono HB1.out.size)); clear hb HB1
  go_wp2_with fail
  refine (encode_any (w2.heap.size + 1) _ [102] _ (Sl.of_new w2 [102] _ rfl (1, 2) 1 rfl (by decide)) (by simp) (by decide)).mono ?_
  rintro e w3 ⟨rfl, hb⟩
  rw [ex3]
  have HB3 := Lib.hid ((HB2.out.alloc HB2.out.size _).trans (hb.mono (by have := HB2.out.size; simp; omega))); clear hb HB2
  go_wp2_with fail
  refine (encode_any (w3.heap.size + 1) _ [102, 111, 111] _ (Sl.of_new w3 [102, 111, 111] _ rfl (3, 4) 3 rfl (by decide)) (by simp) (by decide)).mono ?_
  rintro e w4 ⟨rfl, hb⟩
  rw [ex4]
  have HB4 := Lib.hid ((HB3.out.alloc HB3.out.size _).trans (hb.mono (by have := HB3.out.size; simp; omega))); clear hb HB3
  go_wp2_with fail
  go_ret
  exact ⟨rfl, HB4.out⟩
end Go.Proofs.YtbjhaihfkncdoaaDoor
