/-
  No cell of these rows narrows 'for every input' (looked for: loops, veiled, ifaces, maps, wideKeys, modest, calm, conditions, laid).
  DERIVED. THE GIVEN ROWS OF THIS SEAT. 5 by the template 'for every input the law returns true; each argument reads behind the call as it read before'; 0 by the template 'total and deterministic' (their statements: YtjdadhmdgddpcaaTotals.lean).
  GIVEN WITH THE SEED: the statements are not yours to turn. If you find one false, say at which input.
  Laid BY PROGRAM, IN A SANDBOX (cutbox-rows.mjs): the forced cells as the released guide's own fill.sh prints them over the translation 7c1b758fdebfe8e2… (all of the seat's roots in one cut). By AI agents, Wed Nov 11 2026. No macro, syntax, notation, axiom, sorry.
-/
import Derived.Test.YtjdadhmdgddpcaaChecked
import GoSem.Claim
import GoSem.ClaimJoined
import GoSem.ClaimMapViews
import Derived.JoinedTies
import Derived.KernelRfl
namespace Go.Proofs.Ytjdadhmdgddpcaa
/- THE CELL 'sum', in the pinned program and in every row, IS THE sha256 OF THE DUMP (.gsa) THAT YtjdadhmdgddpcaaProg.lean LOADS. Nothing in Lean hashes anything: it is a label: what it is worth is what the hold of that sum in a sandbox is worth. -/
noncomputable def Try.pinned : Pinned := { name := "ytjdadhmdgddpcaa", sum := "7c1b758fdebfe8e2d5872fca456902be051af1e40c46245572016fdd45c20bb9", checked := Try.checked }
namespace Rows
def none {H : Type} : Left H := { results := [], args := [] }

/-- 'ostiarylaw10.SpanAdds': WHATEVER THE INPUT: true; the input reads as it did. -/
def spanAddsSpec : ChangeSpec := { name := "spanAdds", fn := fun _ => fun
  | [d1, d2] => { results := [.lit (.bool true)], args := [d1, d2] }
  | _ => none }
def spanAddsRow : OpenClaim := { program := "ytjdadhmdgddpcaa", sum := "7c1b758fdebfe8e2d5872fca456902be051af1e40c46245572016fdd45c20bb9", func := "ostiary/ostiarylaw10.SpanAdds", spec := "spanAdds", unfollowed := true, recurses := true, apart := false }
def SpanAddsSaid : Prop := spanAddsRow.holds Try.pinned (OpenSpec.ofChange spanAddsSpec)

/-- ITS FALSE NEIGHBOUR: 'it returns false'. Refute it at one input. -/
def spanAddsWrong : ChangeSpec := { name := "spanAdds", fn := fun _ => fun
  | [d1, d2] => { results := [.lit (.bool false)], args := [d1, d2] }
  | _ => none }
def SpanAddsWrongFalsely : Prop := spanAddsRow.holds Try.pinned (OpenSpec.ofChange spanAddsWrong)

/-- 'ostiarylaw10.SpanWaits': WHATEVER THE INPUT: true; the input reads as it did. -/
def spanWaitsSpec : ChangeSpec := { name := "spanWaits", fn := fun _ => fun
  | [d1, d2, d3, d4] => { results := [.lit (.bool true)], args := [d1, d2, d3, d4] }
  | _ => none }
def spanWaitsRow : OpenClaim := { program := "ytjdadhmdgddpcaa", sum := "7c1b758fdebfe8e2d5872fca456902be051af1e40c46245572016fdd45c20bb9", func := "ostiary/ostiarylaw10.SpanWaits", spec := "spanWaits", unfollowed := true, recurses := true, apart := false }
def SpanWaitsSaid : Prop := spanWaitsRow.holds Try.pinned (OpenSpec.ofChange spanWaitsSpec)

/-- ITS FALSE NEIGHBOUR: 'it returns false'. Refute it at one input. -/
def spanWaitsWrong : ChangeSpec := { name := "spanWaits", fn := fun _ => fun
  | [d1, d2, d3, d4] => { results := [.lit (.bool false)], args := [d1, d2, d3, d4] }
  | _ => none }
def SpanWaitsWrongFalsely : Prop := spanWaitsRow.holds Try.pinned (OpenSpec.ofChange spanWaitsWrong)

/-- 'ostiarylaw10.SpanBounds': WHATEVER THE INPUT: true; the input reads as it did. -/
def spanBoundsSpec : ChangeSpec := { name := "spanBounds", fn := fun _ => fun
  | [d1, d2, d3] => { results := [.lit (.bool true)], args := [d1, d2, d3] }
  | _ => none }
def spanBoundsRow : OpenClaim := { program := "ytjdadhmdgddpcaa", sum := "7c1b758fdebfe8e2d5872fca456902be051af1e40c46245572016fdd45c20bb9", func := "ostiary/ostiarylaw10.SpanBounds", spec := "spanBounds", unfollowed := true, recurses := true, apart := false }
def SpanBoundsSaid : Prop := spanBoundsRow.holds Try.pinned (OpenSpec.ofChange spanBoundsSpec)

/-- ITS FALSE NEIGHBOUR: 'it returns false'. Refute it at one input. -/
def spanBoundsWrong : ChangeSpec := { name := "spanBounds", fn := fun _ => fun
  | [d1, d2, d3] => { results := [.lit (.bool false)], args := [d1, d2, d3] }
  | _ => none }
def SpanBoundsWrongFalsely : Prop := spanBoundsRow.holds Try.pinned (OpenSpec.ofChange spanBoundsWrong)

/-- 'ostiarylaw10.SpanGreat': WHATEVER THE INPUT: true; the input reads as it did. -/
def spanGreatSpec : ChangeSpec := { name := "spanGreat", fn := fun _ => fun
  | [d1, d2, d3, d4] => { results := [.lit (.bool true)], args := [d1, d2, d3, d4] }
  | _ => none }
def spanGreatRow : OpenClaim := { program := "ytjdadhmdgddpcaa", sum := "7c1b758fdebfe8e2d5872fca456902be051af1e40c46245572016fdd45c20bb9", func := "ostiary/ostiarylaw10.SpanGreat", spec := "spanGreat", unfollowed := true, recurses := true, apart := false }
def SpanGreatSaid : Prop := spanGreatRow.holds Try.pinned (OpenSpec.ofChange spanGreatSpec)

/-- ITS FALSE NEIGHBOUR: 'it returns false'. Refute it at one input. -/
def spanGreatWrong : ChangeSpec := { name := "spanGreat", fn := fun _ => fun
  | [d1, d2, d3, d4] => { results := [.lit (.bool false)], args := [d1, d2, d3, d4] }
  | _ => none }
def SpanGreatWrongFalsely : Prop := spanGreatRow.holds Try.pinned (OpenSpec.ofChange spanGreatWrong)

/-- 'ostiarylaw10.SpanClocks': WHATEVER THE INPUT: true; the input reads as it did. -/
def spanClocksSpec : ChangeSpec := { name := "spanClocks", fn := fun _ => fun
  | [d1, d2, d3, d4] => { results := [.lit (.bool true)], args := [d1, d2, d3, d4] }
  | _ => none }
def spanClocksRow : OpenClaim := { program := "ytjdadhmdgddpcaa", sum := "7c1b758fdebfe8e2d5872fca456902be051af1e40c46245572016fdd45c20bb9", func := "ostiary/ostiarylaw10.SpanClocks", spec := "spanClocks", unfollowed := true, recurses := true, apart := false }
def SpanClocksSaid : Prop := spanClocksRow.holds Try.pinned (OpenSpec.ofChange spanClocksSpec)

/-- ITS FALSE NEIGHBOUR: 'it returns false'. Refute it at one input. -/
def spanClocksWrong : ChangeSpec := { name := "spanClocks", fn := fun _ => fun
  | [d1, d2, d3, d4] => { results := [.lit (.bool false)], args := [d1, d2, d3, d4] }
  | _ => none }
def SpanClocksWrongFalsely : Prop := spanClocksRow.holds Try.pinned (OpenSpec.ofChange spanClocksWrong)

/- THE SECOND FORM. 'bulk': how many values and letters a reading holds, each counted each time it is reached (what is shared counts as often as it is met; a slice's spare places count too). A statement '..UptoSaid' is the law's where the arguments, and the package variables that the reading takes, are together of bulk at most 1048576: NARROWER than '..Said'. Prove '..Said' where nothing that the law and all that it calls make is longer than what came in: it says more and counts as full. Else prove '..UptoSaid'. A law counts once. -/
mutual
def uptoBulk {H : Type} : DataW H → Nat
  | .lit (.string bytes) => bytes.length + 1
  | .lit _ => 1
  | .nil => 1
  | .ptr d => uptoBulk d + 1
  | .slice elems spare => uptoBulkAll elems + uptoBulkAll spare + 1
  | .agg parts => uptoBulkAll parts + 1
  | .iface _ d => uptoBulk d + 1
  | .map entries => uptoBulkEntries entries + 1
  | .held _ => 1
def uptoBulkAll {H : Type} : List (DataW H) → Nat
  | [] => 0
  | d :: r => uptoBulk d + uptoBulkAll r
def uptoBulkEntries {H : Type} : List (Lit × DataW H) → Nat
  | [] => 0
  | x :: r => uptoBulkEntry x + uptoBulkEntries r
def uptoBulkEntry {H : Type} : Lit × DataW H → Nat
  | (.string bytes, d) => bytes.length + uptoBulk d + 1
  | (_, d) => uptoBulk d + 1
 end
def uptoSmall : (H : Type) → List (DataW H) → Bool := fun _ ds => decide (uptoBulkAll ds ≤ 1048576)
def OpenSpec.upto (s : _root_.Go.ChangeSpec) : _root_.Go.OpenSpec := { _root_.Go.OpenSpec.ofChange s with cond := some uptoSmall }

/-- 'ostiarylaw10.SpanAdds', WHERE WHAT IT READS IS OF BULK AT MOST 1048576: true; the input reads as it did. -/
def spanAddsUptoRow : OpenClaim := { program := "ytjdadhmdgddpcaa", sum := "7c1b758fdebfe8e2d5872fca456902be051af1e40c46245572016fdd45c20bb9", func := "ostiary/ostiarylaw10.SpanAdds", spec := "spanAdds", unfollowed := true, recurses := true, apart := false, narrowed := true }
def SpanAddsUptoSaid : Prop := spanAddsUptoRow.holds Try.pinned (OpenSpec.upto spanAddsSpec)

/-- 'ostiarylaw10.SpanWaits', WHERE WHAT IT READS IS OF BULK AT MOST 1048576: true; the input reads as it did. -/
def spanWaitsUptoRow : OpenClaim := { program := "ytjdadhmdgddpcaa", sum := "7c1b758fdebfe8e2d5872fca456902be051af1e40c46245572016fdd45c20bb9", func := "ostiary/ostiarylaw10.SpanWaits", spec := "spanWaits", unfollowed := true, recurses := true, apart := false, narrowed := true }
def SpanWaitsUptoSaid : Prop := spanWaitsUptoRow.holds Try.pinned (OpenSpec.upto spanWaitsSpec)

/-- 'ostiarylaw10.SpanBounds', WHERE WHAT IT READS IS OF BULK AT MOST 1048576: true; the input reads as it did. -/
def spanBoundsUptoRow : OpenClaim := { program := "ytjdadhmdgddpcaa", sum := "7c1b758fdebfe8e2d5872fca456902be051af1e40c46245572016fdd45c20bb9", func := "ostiary/ostiarylaw10.SpanBounds", spec := "spanBounds", unfollowed := true, recurses := true, apart := false, narrowed := true }
def SpanBoundsUptoSaid : Prop := spanBoundsUptoRow.holds Try.pinned (OpenSpec.upto spanBoundsSpec)

/-- 'ostiarylaw10.SpanGreat', WHERE WHAT IT READS IS OF BULK AT MOST 1048576: true; the input reads as it did. -/
def spanGreatUptoRow : OpenClaim := { program := "ytjdadhmdgddpcaa", sum := "7c1b758fdebfe8e2d5872fca456902be051af1e40c46245572016fdd45c20bb9", func := "ostiary/ostiarylaw10.SpanGreat", spec := "spanGreat", unfollowed := true, recurses := true, apart := false, narrowed := true }
def SpanGreatUptoSaid : Prop := spanGreatUptoRow.holds Try.pinned (OpenSpec.upto spanGreatSpec)

/-- 'ostiarylaw10.SpanClocks', WHERE WHAT IT READS IS OF BULK AT MOST 1048576: true; the input reads as it did. -/
def spanClocksUptoRow : OpenClaim := { program := "ytjdadhmdgddpcaa", sum := "7c1b758fdebfe8e2d5872fca456902be051af1e40c46245572016fdd45c20bb9", func := "ostiary/ostiarylaw10.SpanClocks", spec := "spanClocks", unfollowed := true, recurses := true, apart := false, narrowed := true }
def SpanClocksUptoSaid : Prop := spanClocksUptoRow.holds Try.pinned (OpenSpec.upto spanClocksSpec)

end Rows
end Go.Proofs.Ytjdadhmdgddpcaa
