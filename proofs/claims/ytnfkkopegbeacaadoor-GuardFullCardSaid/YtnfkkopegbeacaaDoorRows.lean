/-
  NARROWER THAN 'FOR EVERY INPUT', by the rows' own cells (each row's printed sentence says how): GuardLocks: laid · GuardBounds: laid · GuardFull: laid · GuardGood: laid.
  DERIVED. THE GIVEN ROWS OF THIS SEAT. 4 by the template 'for every input the law returns true; each argument reads behind the call as it read before'; 0 by the template 'total and deterministic' (their statements: YtnfkkopegbeacaaDoorTotals.lean).
  GIVEN WITH THE SEED: the statements are not yours to turn. If you find one false, say at which input.
  Laid BY PROGRAM, IN A SANDBOX (cutbox-rows.mjs): the forced cells as the released guide's own fill.sh prints them over the translation ad37e6951e9b5684… (all of the seat's roots in one cut). By AI agents, Wed Nov 11 2026. No macro, syntax, notation, axiom, sorry.
-/
import Derived.Test.YtnfkkopegbeacaaDoorChecked
import GoSem.PinnedTables
import GoSem.Claim
import GoSem.ClaimJoined
import GoSem.ClaimMapViews
import Derived.JoinedTies
import Derived.KernelRfl
namespace Go.Proofs.YtnfkkopegbeacaaDoor
/- THE CELL 'sum', in the pinned program and in every row, IS THE sha256 OF THE DUMP (.gsa) THAT YtnfkkopegbeacaaDoorProg.lean LOADS. Nothing in Lean hashes anything: it is a label: what it is worth is what the hold of that sum in a sandbox is worth. -/
noncomputable def Tryd.pinned : Pinned := { name := "ytnfkkopegbeacaadoor", sum := "ad37e6951e9b5684498c1ad880eff0c9929a2076cca53c0dd1dc2899257ae958", checked := Tryd.checked }
namespace Rows
def none {H : Type} : Left H := { results := [], args := [] }

/- WHAT THE LISTED PACKAGE-LEVEL VARIABLES READ AS WHEN THE CALL BEGINS. Each datum BY PROGRAM (the guide's laid-datum.mjs) off the statement by which the dump's own 'gosem.cut.vars' lays the variable. In a bare row this is a premise. The card (YtnfkkopegbeacaaDoorCards.lean) ties it to the program's text. -/
def laid_unicode_utf8_acceptRanges {H : Type} : DataW H := .agg [.agg [.lit (.int .u8 128), .lit (.int .u8 191)], .agg [.lit (.int .u8 160), .lit (.int .u8 191)], .agg [.lit (.int .u8 128), .lit (.int .u8 159)], .agg [.lit (.int .u8 144), .lit (.int .u8 191)], .agg [.lit (.int .u8 128), .lit (.int .u8 143)], .agg [.lit (.int .u8 0), .lit (.int .u8 0)], .agg [.lit (.int .u8 0), .lit (.int .u8 0)], .agg [.lit (.int .u8 0), .lit (.int .u8 0)], .agg [.lit (.int .u8 0), .lit (.int .u8 0)], .agg [.lit (.int .u8 0), .lit (.int .u8 0)], .agg [.lit (.int .u8 0), .lit (.int .u8 0)], .agg [.lit (.int .u8 0), .lit (.int .u8 0)], .agg [.lit (.int .u8 0), .lit (.int .u8 0)], .agg [.lit (.int .u8 0), .lit (.int .u8 0)], .agg [.lit (.int .u8 0), .lit (.int .u8 0)], .agg [.lit (.int .u8 0), .lit (.int .u8 0)]]
/-- One of Go's own tables, pinned by name: the form's constant. -/
def laid_unicode_utf8_first : DataW Unit := Go.Pinned.utf8First

/-- 'ostiarylaw13.GuardLocks': WHATEVER THE INPUT: true; the input reads as it did. -/
def guardLocksSpec : ChangeSpec := { name := "guardLocks", fn := fun _ => fun
  | [d1, d2, d3, d4] => { results := [.lit (.bool true)], args := [d1, d2, d3, d4] }
  | _ => none }
def guardLocksRow : OpenClaim := { program := "ytnfkkopegbeacaadoor", sum := "ad37e6951e9b5684498c1ad880eff0c9929a2076cca53c0dd1dc2899257ae958", func := "ostiary/ostiarylaw13.GuardLocks", spec := "guardLocks", unfollowed := true, recurses := true, named := ["unicode/utf8.first", "unicode/utf8.acceptRanges"], apart := false, laid := [("unicode/utf8.acceptRanges", laid_unicode_utf8_acceptRanges), ("unicode/utf8.first", laid_unicode_utf8_first)] }
def GuardLocksSaid : Prop := guardLocksRow.holds Tryd.pinned (OpenSpec.ofChange guardLocksSpec)

/-- ITS FALSE NEIGHBOUR: 'it returns false'. Refute it at one input. -/
def guardLocksWrong : ChangeSpec := { name := "guardLocks", fn := fun _ => fun
  | [d1, d2, d3, d4] => { results := [.lit (.bool false)], args := [d1, d2, d3, d4] }
  | _ => none }
def GuardLocksWrongFalsely : Prop := guardLocksRow.holds Tryd.pinned (OpenSpec.ofChange guardLocksWrong)

/-- 'ostiarylaw13.GuardBounds': WHATEVER THE INPUT: true; the input reads as it did. -/
def guardBoundsSpec : ChangeSpec := { name := "guardBounds", fn := fun _ => fun
  | [d1, d2, d3] => { results := [.lit (.bool true)], args := [d1, d2, d3] }
  | _ => none }
def guardBoundsRow : OpenClaim := { program := "ytnfkkopegbeacaadoor", sum := "ad37e6951e9b5684498c1ad880eff0c9929a2076cca53c0dd1dc2899257ae958", func := "ostiary/ostiarylaw13.GuardBounds", spec := "guardBounds", unfollowed := true, recurses := true, named := ["unicode/utf8.first", "unicode/utf8.acceptRanges"], apart := false, laid := [("unicode/utf8.acceptRanges", laid_unicode_utf8_acceptRanges), ("unicode/utf8.first", laid_unicode_utf8_first)] }
def GuardBoundsSaid : Prop := guardBoundsRow.holds Tryd.pinned (OpenSpec.ofChange guardBoundsSpec)

/-- ITS FALSE NEIGHBOUR: 'it returns false'. Refute it at one input. -/
def guardBoundsWrong : ChangeSpec := { name := "guardBounds", fn := fun _ => fun
  | [d1, d2, d3] => { results := [.lit (.bool false)], args := [d1, d2, d3] }
  | _ => none }
def GuardBoundsWrongFalsely : Prop := guardBoundsRow.holds Tryd.pinned (OpenSpec.ofChange guardBoundsWrong)

/-- 'ostiarylaw13.GuardFull': WHATEVER THE INPUT: true; the input reads as it did. -/
def guardFullSpec : ChangeSpec := { name := "guardFull", fn := fun _ => fun
  | [d1, d2, d3] => { results := [.lit (.bool true)], args := [d1, d2, d3] }
  | _ => none }
def guardFullRow : OpenClaim := { program := "ytnfkkopegbeacaadoor", sum := "ad37e6951e9b5684498c1ad880eff0c9929a2076cca53c0dd1dc2899257ae958", func := "ostiary/ostiarylaw13.GuardFull", spec := "guardFull", unfollowed := true, recurses := true, named := ["unicode/utf8.first", "unicode/utf8.acceptRanges"], apart := false, laid := [("unicode/utf8.acceptRanges", laid_unicode_utf8_acceptRanges), ("unicode/utf8.first", laid_unicode_utf8_first)] }
def GuardFullSaid : Prop := guardFullRow.holds Tryd.pinned (OpenSpec.ofChange guardFullSpec)

/-- ITS FALSE NEIGHBOUR: 'it returns false'. Refute it at one input. -/
def guardFullWrong : ChangeSpec := { name := "guardFull", fn := fun _ => fun
  | [d1, d2, d3] => { results := [.lit (.bool false)], args := [d1, d2, d3] }
  | _ => none }
def GuardFullWrongFalsely : Prop := guardFullRow.holds Tryd.pinned (OpenSpec.ofChange guardFullWrong)

/-- 'ostiarylaw13.GuardGood': WHATEVER THE INPUT: true; the input reads as it did. -/
def guardGoodSpec : ChangeSpec := { name := "guardGood", fn := fun _ => fun
  | [d1, d2] => { results := [.lit (.bool true)], args := [d1, d2] }
  | _ => none }
def guardGoodRow : OpenClaim := { program := "ytnfkkopegbeacaadoor", sum := "ad37e6951e9b5684498c1ad880eff0c9929a2076cca53c0dd1dc2899257ae958", func := "ostiary/ostiarylaw13.GuardGood", spec := "guardGood", unfollowed := true, recurses := true, named := ["unicode/utf8.first", "unicode/utf8.acceptRanges"], apart := false, laid := [("unicode/utf8.acceptRanges", laid_unicode_utf8_acceptRanges), ("unicode/utf8.first", laid_unicode_utf8_first)] }
def GuardGoodSaid : Prop := guardGoodRow.holds Tryd.pinned (OpenSpec.ofChange guardGoodSpec)

/-- ITS FALSE NEIGHBOUR: 'it returns false'. Refute it at one input. -/
def guardGoodWrong : ChangeSpec := { name := "guardGood", fn := fun _ => fun
  | [d1, d2] => { results := [.lit (.bool false)], args := [d1, d2] }
  | _ => none }
def GuardGoodWrongFalsely : Prop := guardGoodRow.holds Tryd.pinned (OpenSpec.ofChange guardGoodWrong)

/- THE SECOND FORM. 'bulk': how many values and letters a reading holds, each counted each time it is reached (what is shared counts as often as it is met; a slice's spare places count too). A statement '..UptoSaid' is the law's where the arguments, and the package variables that the reading takes, are together of bulk at most 1048576: NARROWER than '..Said'. Prove '..Said' where nothing that the law and all that it calls make is longer than what came in: it says more and counts as full. Else prove '..UptoSaid'. A law counts once. -/
mutual
def uptoBulk {H : Type} : DataW H → Nat
  | .lit (.string bytes) => bytes.length + 1
  | .lit _ => 1
  | .nil => 1
  | .ptr d => uptoBulk d + 1
  | .slice elems spare => uptoBulkAll elems + uptoBulkAll spare + 1
  | .agg parts => uptoBulkAll parts + 1
  | .iface _ d => uptoBulk d + 1
  | .map entries => uptoBulkEntries entries + 1
  | .held _ => 1
def uptoBulkAll {H : Type} : List (DataW H) → Nat
  | [] => 0
  | d :: r => uptoBulk d + uptoBulkAll r
def uptoBulkEntries {H : Type} : List (Lit × DataW H) → Nat
  | [] => 0
  | x :: r => uptoBulkEntry x + uptoBulkEntries r
def uptoBulkEntry {H : Type} : Lit × DataW H → Nat
  | (.string bytes, d) => bytes.length + uptoBulk d + 1
  | (_, d) => uptoBulk d + 1
 end
def uptoSmall : (H : Type) → List (DataW H) → Bool := fun _ ds => decide (uptoBulkAll ds ≤ 1048576)
def OpenSpec.upto (s : _root_.Go.ChangeSpec) : _root_.Go.OpenSpec := { _root_.Go.OpenSpec.ofChange s with cond := some uptoSmall }

/-- 'ostiarylaw13.GuardLocks', WHERE WHAT IT READS IS OF BULK AT MOST 1048576: true; the input reads as it did. -/
def guardLocksUptoRow : OpenClaim := { program := "ytnfkkopegbeacaadoor", sum := "ad37e6951e9b5684498c1ad880eff0c9929a2076cca53c0dd1dc2899257ae958", func := "ostiary/ostiarylaw13.GuardLocks", spec := "guardLocks", unfollowed := true, recurses := true, named := ["unicode/utf8.first", "unicode/utf8.acceptRanges"], apart := false, laid := [("unicode/utf8.acceptRanges", laid_unicode_utf8_acceptRanges), ("unicode/utf8.first", laid_unicode_utf8_first)], narrowed := true }
def GuardLocksUptoSaid : Prop := guardLocksUptoRow.holds Tryd.pinned (OpenSpec.upto guardLocksSpec)

/-- 'ostiarylaw13.GuardBounds', WHERE WHAT IT READS IS OF BULK AT MOST 1048576: true; the input reads as it did. -/
def guardBoundsUptoRow : OpenClaim := { program := "ytnfkkopegbeacaadoor", sum := "ad37e6951e9b5684498c1ad880eff0c9929a2076cca53c0dd1dc2899257ae958", func := "ostiary/ostiarylaw13.GuardBounds", spec := "guardBounds", unfollowed := true, recurses := true, named := ["unicode/utf8.first", "unicode/utf8.acceptRanges"], apart := false, laid := [("unicode/utf8.acceptRanges", laid_unicode_utf8_acceptRanges), ("unicode/utf8.first", laid_unicode_utf8_first)], narrowed := true }
def GuardBoundsUptoSaid : Prop := guardBoundsUptoRow.holds Tryd.pinned (OpenSpec.upto guardBoundsSpec)

/-- 'ostiarylaw13.GuardFull', WHERE WHAT IT READS IS OF BULK AT MOST 1048576: true; the input reads as it did. -/
def guardFullUptoRow : OpenClaim := { program := "ytnfkkopegbeacaadoor", sum := "ad37e6951e9b5684498c1ad880eff0c9929a2076cca53c0dd1dc2899257ae958", func := "ostiary/ostiarylaw13.GuardFull", spec := "guardFull", unfollowed := true, recurses := true, named := ["unicode/utf8.first", "unicode/utf8.acceptRanges"], apart := false, laid := [("unicode/utf8.acceptRanges", laid_unicode_utf8_acceptRanges), ("unicode/utf8.first", laid_unicode_utf8_first)], narrowed := true }
def GuardFullUptoSaid : Prop := guardFullUptoRow.holds Tryd.pinned (OpenSpec.upto guardFullSpec)

/-- 'ostiarylaw13.GuardGood', WHERE WHAT IT READS IS OF BULK AT MOST 1048576: true; the input reads as it did. -/
def guardGoodUptoRow : OpenClaim := { program := "ytnfkkopegbeacaadoor", sum := "ad37e6951e9b5684498c1ad880eff0c9929a2076cca53c0dd1dc2899257ae958", func := "ostiary/ostiarylaw13.GuardGood", spec := "guardGood", unfollowed := true, recurses := true, named := ["unicode/utf8.first", "unicode/utf8.acceptRanges"], apart := false, laid := [("unicode/utf8.acceptRanges", laid_unicode_utf8_acceptRanges), ("unicode/utf8.first", laid_unicode_utf8_first)], narrowed := true }
def GuardGoodUptoSaid : Prop := guardGoodUptoRow.holds Tryd.pinned (OpenSpec.upto guardGoodSpec)

end Rows
end Go.Proofs.YtnfkkopegbeacaaDoor
