/- b64.Encode, EncodeURL, Hex. -/
import Derived.Test.YtbjhaihfkncdoaaDoorSpellH
namespace Go.Proofs.YtbjhaihfkncdoaaDoor
open Go.RowKit

/-- The letters of Base64, of its URL variant, of Base16. -/
def alS : List UInt8 := [65, 66, 67, 68, 69, 70, 71, 72, 73, 74, 75, 76, 77, 78, 79, 80, 81, 82, 83, 84, 85, 86, 87, 88, 89, 90, 97, 98, 99, 100, 101, 102, 103, 104, 105, 106, 107, 108, 109, 110, 111, 112, 113, 114, 115, 116, 117, 118, 119, 120, 121, 122, 48, 49, 50, 51, 52, 53, 54, 55, 56, 57, 43, 47]
def alU : List UInt8 := [65, 66, 67, 68, 69, 70, 71, 72, 73, 74, 75, 76, 77, 78, 79, 80, 81, 82, 83, 84, 85, 86, 87, 88, 89, 90, 97, 98, 99, 100, 101, 102, 103, 104, 105, 106, 107, 108, 109, 110, 111, 112, 113, 114, 115, 116, 117, 118, 119, 120, 121, 122, 48, 49, 50, 51, 52, 53, 54, 55, 56, 57, 45, 95]
def alH : List UInt8 := [48, 49, 50, 51, 52, 53, 54, 55, 56, 57, 97, 98, 99, 100, 101, 102]
/-- So many signs of equality that the letters are of whole groups. -/
def fill (t : List UInt8) : List UInt8 := t ++ List.replicate ((4 - t.length % 4) % 4) 61
def encS (l : List UInt8) : List UInt8 := fill (letters 6 alS l)
def encU (l : List UInt8) : List UInt8 := letters 6 alU l
def encH (l : List UInt8) : List UInt8 := letters 4 alH l
theorem repeatL_one (b : UInt8) (c : Nat) : Lib.repeatL [b] c = List.replicate c b := by
  induction c with
  | zero => rfl
  | succ c ih =>
    show [b] ++ Lib.repeatL [b] c = _
    rw [ih, List.replicate_succ]; rfl

def alX (u : Bool) : List UInt8 := if u then alU else alS
set_option maxRecDepth 100000 in
set_option maxHeartbeats 400000 in
theorem encode_any (B : Nat) (v : Value) (l : List UInt8) (w : World) (hv : Sl w B v l) (hB : B ≤ w.heap.size) (hl : l.length ≤ 100000) :
    Calls Tryd.prog 38 #[v] w fun e w' => e = .returned (str (encS l)) ∧ Below w.heap.size w w' := by
  have HV := Lib.hid hv; clear hv
  obtain ⟨t, ht⟩ : ∃ t, t = letters 6 alS l := ⟨_, rfl⟩
  obtain ⟨c, hc⟩ : ∃ c : Nat, c = (4 - t.length % 4) % 4 := ⟨_, rfl⟩
  have htl : t.length ≤ 1000000 := by rw [ht, letters_length]; unfold many; omega
  have hm : (4 - (t.length : Int) % 4) % 4 = (c : Int) := by omega
  have Hc := Lib.hid hc; clear hc
  have Ht := Lib.hid ht; clear ht
  have hc4 : c < 4 := by rw [Hc.out]; omega
  go_enter Tryd.func38, Tryd.ntmps38
  go_wp2_with fail
  refine (spell6 _ alS rfl rfl B v l w HV.out hB hl).mono ?_
  rintro e w1 ⟨rfl, hb⟩
  rw [← Ht.out]
  have HB := Lib.hid hb; clear hb
  go_wp2_with fail
  refine (Tryd.strings_Repeat ⟨#[61]⟩ c w1 (by omega) (by show 1 * c ≤ _; omega)).mono ?_
  rintro e w2 ⟨rfl, hb⟩
  have HB2 := Lib.hid hb; clear hb
  rw [show Lib.repeatL (ByteArray.mk #[61]).data.toList c = List.replicate c 61 from repeatL_one 61 c]
  have hsum : t.length + (List.replicate c (61 : UInt8)).length ≤ 9223372036854775807 := by rw [List.length_replicate]; omega
  go_wp2_with fail
  go_ret
  exact ⟨by
    unfold encS fill
    rw [← Ht.out, ← Hc.out]
    show Ending.returned (.string (ByteArray.mk t.toArray ++ ByteArray.mk (List.replicate c 61).toArray)) = _
    rw [ByteArray.mk_append_mk], HB.out.trans (HB2.out.mono HB.out.size)⟩
end Go.Proofs.YtbjhaihfkncdoaaDoor
