/- head's parsers as lists. Nothing of the program is imported. -/
import Derived.Test.YtajclihnoedecaaGreatDoorHdL
import Derived.Test.YtajclihnoedecaaGreatDoorDecL
namespace Go.Proofs.YtajclihnoedecaaGreatDoor
open Go
/-- The signs of a token. -/
def tokS : List UInt8 := [65, 66, 67, 68, 69, 70, 71, 72, 73, 74, 75, 76, 77, 78, 79, 80, 81, 82, 83, 84, 85, 86, 87, 88, 89, 90, 97, 98, 99, 100, 101, 102, 103, 104, 105, 106, 107, 108, 109, 110, 111, 112, 113, 114, 115, 116, 117, 118, 119, 120, 121, 122, 48, 49, 50, 51, 52, 53, 54, 55, 56, 57, 33, 35, 36, 37, 38, 39, 42, 43, 45, 46, 94, 95, 96, 124, 126]
/-- The signs of a host. -/
def hostS : List UInt8 := [65, 66, 67, 68, 69, 70, 71, 72, 73, 74, 75, 76, 77, 78, 79, 80, 81, 82, 83, 84, 85, 86, 87, 88, 89, 90, 97, 98, 99, 100, 101, 102, 103, 104, 105, 106, 107, 108, 109, 110, 111, 112, 113, 114, 115, 116, 117, 118, 119, 120, 121, 122, 48, 49, 50, 51, 52, 53, 54, 55, 56, 57, 46, 45, 95]
def tokB (s : List UInt8) : Bool := !s.isEmpty && s.all (tokS.contains ·)
def txC (c : UInt8) : Bool := c == 9 || (decide (32 ≤ c.toNat) && c != 127)
def txtB (s : List UInt8) : Bool := s.all txC
def tgtB (s : List UInt8) : Bool := !s.isEmpty && txtB s && !Lib.containsAny s [32, 9]
def verS : List UInt8 := [72, 84, 84, 80, 47, 49, 46, 49]
def reqL (l : List UInt8) : Option (List UInt8 × List UInt8) :=
  if tokB (Lib.cut l [32]).1 = true ∧ tgtB (Lib.cut (Lib.cut l [32]).2.1 [32]).1 = true ∧ (Lib.cut (Lib.cut l [32]).2.1 [32]).2.1 = verS
  then some ((Lib.cut l [32]).1, (Lib.cut (Lib.cut l [32]).2.1 [32]).1) else none
def fieldL (l : List UInt8) : Option (List UInt8 × List UInt8) :=
  if (Lib.cut l [58]).2.2 = true ∧ tokB (Lib.cut l [58]).1 = true ∧ txtB (Lib.trimS (Lib.cut l [58]).2.1 [32, 9]) = true
  then some ((Lib.cut l [58]).1, Lib.trimS (Lib.cut l [58]).2.1 [32, 9]) else none
def fieldsL : List (List UInt8) → Option (List (List UInt8 × List UInt8))
  | [] => some []
  | l :: ls => match fieldL l with
    | none => none
    | some f => (fieldsL ls).map (f :: ·)
def crcr : List UInt8 := [13, 10, 13, 10]
/-- Where the first empty line begins, within as many bytes as there may be. -/
def endL (p : List UInt8) : Int := Lib.index (p.take 4096) crcr
def headLines (p : List UInt8) : List (List UInt8) := (linesL (p.take ((endL p).toNat + 2))).map (·.1)
/-- The head in front: fields, size, errno; st: is the first line one? -/
def parseL (st : List UInt8 → Bool) (p : List UInt8) : List (List UInt8 × List UInt8) × Int × Int :=
  if endL p = -1 then ([], 0, if p.length < 4096 then 2 else 3)
  else if st ((headLines p).headD []) = false then ([], 0, 4)
  else match fieldsL (headLines p).tail with
    | none => ([], 0, 4)
    | some fs => if 24 < fs.length then ([], 0, 3) else (fs, endL p + 4, 0)
theorem fieldsL_app : ∀ (a b : List (List UInt8)), fieldsL (a ++ b) = (fieldsL a).bind fun x => (fieldsL b).map (x ++ ·)
  | [], b => by
    show fieldsL b = (some []).bind _
    rw [Option.bind_some]
    cases fieldsL b <;> simp
  | l :: a, b => by
    rw [List.cons_append, fieldsL, fieldsL]
    cases h : fieldL l with
    | none => rfl
    | some f =>
      show Option.map _ (fieldsL (a ++ b)) = Option.bind (Option.map _ (fieldsL a)) _
      rw [fieldsL_app a b]
      cases fieldsL a with
      | none => rfl
      | some x => cases fieldsL b <;> rfl
theorem linesL_ne {l : List UInt8} (h : l ≠ []) : linesL l ≠ [] := by
  unfold linesL
  obtain ⟨n, hn⟩ : ∃ n, l.length = n + 1 := ⟨l.length - 1, by have := List.length_pos_iff.2 h; omega⟩
  rw [hn, lnF, if_neg h]
  simp
/-- head.Split. -/
def splitL (s : List UInt8) : List UInt8 × Int × Bool :=
  if (decP (Lib.cut s [58]).2.1 1 65535).2 = true ∧ (Lib.cut s [58]).1 ≠ [] ∧ (Lib.cut s [58]).1.length ≤ 32 ∧ (Lib.cut s [58]).1.all (hostS.contains ·) = true
  then ((Lib.cut s [58]).1, (decP (Lib.cut s [58]).2.1 1 65535).1, true) else ([], 0, false)
def lowB (b : UInt8) : UInt8 := if 65 ≤ b.toNat ∧ b.toNat ≤ 90 then b + 32 else b
def foldB (a b : List UInt8) : Bool := a.map lowB == b.map lowB
end Go.Proofs.YtajclihnoedecaaGreatDoor
