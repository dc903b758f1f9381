/- The statement B64Encodes' own text, walked. -/
import Derived.Test.YtbjhaihfkncdoaaAwake3
import Derived.Test.YtbjhaihfkncdoaaCut2
import Derived.Test.YtbjhaihfkncdoaaRefEnc2
import Derived.Test.YtbjhaihfkncdoaaRefHex
import Derived.Test.YtbjhaihfkncdoaaBack
namespace Go.Proofs.Ytbjhaihfkncdoaa
open Go.RowKit

theorem same_yes (B : Nat) (v1 v2 : Value) (l : List UInt8) (w : World) (h1 : Sl w B v1 l) (h2 : Sl w B v2 l) :
    Calls Try.prog 16 #[v1, v2] w fun e w' => e = .returned (.bool true) ∧ w = w' :=
  (same_any B v1 v2 l l w h1 h2).mono fun _ _ h => ⟨by rw [h.1]; simp, h.2⟩
theorem encS_len (l : List UInt8) (n : Nat) (h : l.length ≤ n) : (encS l).length ≤ 8 * n + 8 := by
  unfold encS fill; rw [List.length_append, List.length_replicate, letters_length]; unfold many; omega
theorem encU_len (l : List UInt8) (n : Nat) (h : l.length ≤ n) : (encU l).length ≤ 8 * n + 8 := by
  unfold encU; rw [letters_length]; unfold many; omega
set_option maxRecDepth 100000 in
set_option maxHeartbeats 1000000 in
theorem encodes_any (B : Nat) (v1 : Value) (l1 : List UInt8) (w : World) (h1 : Sl w B v1 l1) (hB : B ≤ w.heap.size) :
    Calls Try.prog 3 #[v1] w fun e w' => e = .returned (.bool true) ∧ Below w.heap.size w w' := by
  have H1 := Lib.hid h1; clear h1
  go_enter Try.func3, Try.ntmps3
  go_wp2_with fail
  refine (awake3 w).mono ?_
  rintro e w1 ⟨rfl, hb⟩
  have HB1 := Lib.hid hb; clear hb
  go_wp2_with fail
  refine (cut_any B v1 l1 200 w1 (H1.out.below HB1.out hB) (by have := HB1.out.size; omega) (by decide) (by decide)).mono ?_
  rintro e w2 ⟨a, rfl, hO, hb⟩
  obtain ⟨p, hp⟩ : ∃ p, p = l1.take (200 : Int).toNat := ⟨_, rfl⟩
  rw [← hp] at hO
  have hp200 : p.length ≤ 200 := by rw [hp, List.length_take]; exact Nat.min_le_left _ _
  clear hp
  have HB2 := Lib.hid (HB1.out.trans (hb.mono HB1.out.size)); clear hb HB1
  have HA := Lib.hid hO.sl; clear hO
  go_wp2_with fail
  refine (copy_any w2.heap.size a p w2 HA.out (Nat.le_refl _) (by omega)).mono ?_
  rintro e w3 ⟨m, rfl, hO, hb⟩
  have SA := Lib.hid ((HA.out.below hb (Nat.le_refl _)).more hb.size)
  have SM := Lib.hid hO.sl; clear hO
  have HW := Lib.hid (HB2.out.trans (hb.mono HB2.out.size))
  have hw3 : w.heap.size ≤ w3.heap.size := HW.out.size
  have HK0 := Lib.hid (Below.refl w3.heap.size w3)
  clear HA hb HB2
  have hS := Lib.hid (encS_len p 200 hp200)
  have hU := Lib.hid (encU_len p 200 hp200)
  have hH := Lib.hid (encH_len p)
  go_wp2_with fail
  refine (encode_any w3.heap.size m p w3 (SM.out.below HK0.out (Nat.le_refl _)) HK0.out.size (by omega)).mono ?_
  rintro e x1 ⟨rfl, hb⟩
  have HK1 := Lib.hid (HK0.out.trans (hb.mono HK0.out.size)); clear hb HK0
  go_wp2_with fail
  refine (encodeURL_any w3.heap.size m p x1 (SM.out.below HK1.out (Nat.le_refl _)) HK1.out.size (by omega)).mono ?_
  rintro e x2 ⟨rfl, hb⟩
  have HK2 := Lib.hid (HK1.out.trans (hb.mono HK1.out.size)); clear hb HK1
  go_wp2_with fail
  refine (hex_any w3.heap.size m p x2 (SM.out.below HK2.out (Nat.le_refl _)) HK2.out.size (by omega)).mono ?_
  rintro e x3 ⟨rfl, hb⟩
  have HK3 := Lib.hid (HK2.out.trans (hb.mono HK2.out.size)); clear hb HK2
  go_wp2_with fail
  refine (refEncode_any w3.heap.size a p false x3 (SA.out.below HK3.out (Nat.le_refl _)) HK3.out.size (by omega)).mono ?_
  rintro e x4 ⟨rfl, hb⟩
  have HK4 := Lib.hid (HK3.out.trans (hb.mono HK3.out.size)); clear hb HK3
  go_wp2_with fail
  refine (refEncode_any w3.heap.size a p true x4 (SA.out.below HK4.out (Nat.le_refl _)) HK4.out.size (by omega)).mono ?_
  rintro e x5 ⟨rfl, hb⟩
  have HK5 := Lib.hid (HK4.out.trans (hb.mono HK4.out.size)); clear hb HK4
  go_wp2_with fail
  refine (refHex_any w3.heap.size a p x5 (SA.out.below HK5.out (Nat.le_refl _)) HK5.out.size (by omega)).mono ?_
  rintro e x6 ⟨rfl, hb⟩
  have HK6 := Lib.hid (HK5.out.trans (hb.mono HK5.out.size)); clear hb HK5
  go_wp2_with fail
  refine (same_yes w3.heap.size m a p x6 (SM.out.below HK6.out (Nat.le_refl _)) (SA.out.below HK6.out (Nat.le_refl _))).mono ?_
  rintro e x7 ⟨rfl, rfl⟩
  go_wp2_with fail
  refine (decode_any (encS p) x6 (by have := hS.out; omega)).mono ?_
  rintro e x7 ⟨d0, rfl, hO, hb⟩
  rw [dec_encS] at hO ⊢
  have SD0 := Lib.hid hO.sl; clear hO
  have HK7 := Lib.hid (HK6.out.trans (hb.mono HK6.out.size)); clear hb HK6
  go_wp2_with fail
  refine (decodeURL_any (encU p) x7 (by have := hU.out; omega)).mono ?_
  rintro e x8 ⟨d1, rfl, hO, hb⟩
  rw [dec_encU] at hO ⊢
  have SD0' := Lib.hid ((SD0.out.below hb (Nat.le_refl _)).more hb.size); clear SD0; have SD0 := SD0'; clear SD0'
  have SD1 := Lib.hid hO.sl; clear hO
  have HK8 := Lib.hid (HK7.out.trans (hb.mono HK7.out.size)); clear hb HK7
  go_wp2_with fail
  refine (unhex_any (encH p) x8 (by rw [hH.out]; omega)).mono ?_
  rintro e x9 ⟨d2, rfl, hO, hb⟩
  rw [dec_encH] at hO ⊢
  have SD0' := Lib.hid ((SD0.out.below hb (Nat.le_refl _)).more hb.size); clear SD0; have SD0 := SD0'; clear SD0'
  have SD1' := Lib.hid ((SD1.out.below hb (Nat.le_refl _)).more hb.size); clear SD1; have SD1 := SD1'; clear SD1'
  have SD2 := Lib.hid hO.sl; clear hO
  have HK9 := Lib.hid (HK8.out.trans (hb.mono HK8.out.size)); clear hb HK8
  go_wp2_with fail
  refine (same_yes x9.heap.size d0 a p x9 SD0.out ((SA.out.below HK9.out (Nat.le_refl _)).more HK9.out.size)).mono ?_
  rintro e y ⟨rfl, rfl⟩
  go_wp2_with fail
  refine (same_yes x9.heap.size d1 a p x9 SD1.out ((SA.out.below HK9.out (Nat.le_refl _)).more HK9.out.size)).mono ?_
  rintro e y ⟨rfl, rfl⟩
  go_wp2_with fail
  refine (same_yes x9.heap.size d2 a p x9 SD2.out ((SA.out.below HK9.out (Nat.le_refl _)).more HK9.out.size)).mono ?_
  rintro e y ⟨rfl, rfl⟩
  go_wp2_with fail
  go_ret
  exact ⟨rfl, HW.out.trans (HK9.out.mono hw3)⟩
end Go.Proofs.Ytbjhaihfkncdoaa
