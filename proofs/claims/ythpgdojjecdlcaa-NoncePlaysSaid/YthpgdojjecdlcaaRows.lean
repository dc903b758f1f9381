/-
  No cell of these rows narrows 'for every input' (looked for: loops, veiled, ifaces, maps, wideKeys, modest, calm, conditions, laid).
  DERIVED. THE GIVEN ROWS OF THIS SEAT. 4 by the template 'for every input the law returns true; each argument reads behind the call as it read before'; 0 by the template 'total and deterministic' (their statements: YthpgdojjecdlcaaTotals.lean).
  GIVEN WITH THE SEED: the statements are not yours to turn. If you find one false, say at which input.
  Laid BY PROGRAM, IN A SANDBOX (cutbox-rows.mjs): the forced cells as the released guide's own fill.sh prints them over the translation 235864558f8f7c2b… (all of the seat's roots in one cut). By AI agents, Wed Nov 11 2026. No macro, syntax, notation, axiom, sorry.
-/
import Derived.Test.YthpgdojjecdlcaaChecked
import GoSem.Claim
import GoSem.ClaimJoined
import GoSem.ClaimMapViews
import Derived.JoinedTies
import Derived.KernelRfl
namespace Go.Proofs.Ythpgdojjecdlcaa
/- THE CELL 'sum', in the pinned program and in every row, IS THE sha256 OF THE DUMP (.gsa) THAT YthpgdojjecdlcaaProg.lean LOADS. Nothing in Lean hashes anything: it is a label: what it is worth is what the hold of that sum in a sandbox is worth. -/
noncomputable def Try.pinned : Pinned := { name := "ythpgdojjecdlcaa", sum := "235864558f8f7c2b3047d2a867ece69844111d6a83b4842d1454d011b7e56e84", checked := Try.checked }
namespace Rows
def none {H : Type} : Left H := { results := [], args := [] }

/-- 'ostiarylaw12.NoncePlays': WHATEVER THE INPUT: true; the input reads as it did. -/
def noncePlaysSpec : ChangeSpec := { name := "noncePlays", fn := fun _ => fun
  | [d1, d2, d3, d4] => { results := [.lit (.bool true)], args := [d1, d2, d3, d4] }
  | _ => none }
def noncePlaysRow : OpenClaim := { program := "ythpgdojjecdlcaa", sum := "235864558f8f7c2b3047d2a867ece69844111d6a83b4842d1454d011b7e56e84", func := "ostiary/ostiarylaw12.NoncePlays", spec := "noncePlays", unfollowed := true, recurses := true, apart := false }
def NoncePlaysSaid : Prop := noncePlaysRow.holds Try.pinned (OpenSpec.ofChange noncePlaysSpec)

/-- ITS FALSE NEIGHBOUR: 'it returns false'. Refute it at one input. -/
def noncePlaysWrong : ChangeSpec := { name := "noncePlays", fn := fun _ => fun
  | [d1, d2, d3, d4] => { results := [.lit (.bool false)], args := [d1, d2, d3, d4] }
  | _ => none }
def NoncePlaysWrongFalsely : Prop := noncePlaysRow.holds Try.pinned (OpenSpec.ofChange noncePlaysWrong)

/-- 'ostiarylaw12.NonceOnce': WHATEVER THE INPUT: true; the input reads as it did. -/
def nonceOnceSpec : ChangeSpec := { name := "nonceOnce", fn := fun _ => fun
  | [d1, d2, d3] => { results := [.lit (.bool true)], args := [d1, d2, d3] }
  | _ => none }
def nonceOnceRow : OpenClaim := { program := "ythpgdojjecdlcaa", sum := "235864558f8f7c2b3047d2a867ece69844111d6a83b4842d1454d011b7e56e84", func := "ostiary/ostiarylaw12.NonceOnce", spec := "nonceOnce", unfollowed := true, recurses := true, apart := false }
def NonceOnceSaid : Prop := nonceOnceRow.holds Try.pinned (OpenSpec.ofChange nonceOnceSpec)

/-- ITS FALSE NEIGHBOUR: 'it returns false'. Refute it at one input. -/
def nonceOnceWrong : ChangeSpec := { name := "nonceOnce", fn := fun _ => fun
  | [d1, d2, d3] => { results := [.lit (.bool false)], args := [d1, d2, d3] }
  | _ => none }
def NonceOnceWrongFalsely : Prop := nonceOnceRow.holds Try.pinned (OpenSpec.ofChange nonceOnceWrong)

/-- 'ostiarylaw12.NonceWindows': WHATEVER THE INPUT: true; the input reads as it did. -/
def nonceWindowsSpec : ChangeSpec := { name := "nonceWindows", fn := fun _ => fun
  | [d1, d2, d3, d4] => { results := [.lit (.bool true)], args := [d1, d2, d3, d4] }
  | _ => none }
def nonceWindowsRow : OpenClaim := { program := "ythpgdojjecdlcaa", sum := "235864558f8f7c2b3047d2a867ece69844111d6a83b4842d1454d011b7e56e84", func := "ostiary/ostiarylaw12.NonceWindows", spec := "nonceWindows", unfollowed := true, recurses := true, apart := false }
def NonceWindowsSaid : Prop := nonceWindowsRow.holds Try.pinned (OpenSpec.ofChange nonceWindowsSpec)

/-- ITS FALSE NEIGHBOUR: 'it returns false'. Refute it at one input. -/
def nonceWindowsWrong : ChangeSpec := { name := "nonceWindows", fn := fun _ => fun
  | [d1, d2, d3, d4] => { results := [.lit (.bool false)], args := [d1, d2, d3, d4] }
  | _ => none }
def NonceWindowsWrongFalsely : Prop := nonceWindowsRow.holds Try.pinned (OpenSpec.ofChange nonceWindowsWrong)

/-- 'ostiarylaw12.NonceRoom': WHATEVER THE INPUT: true; the input reads as it did. -/
def nonceRoomSpec : ChangeSpec := { name := "nonceRoom", fn := fun _ => fun
  | [d1, d2, d3] => { results := [.lit (.bool true)], args := [d1, d2, d3] }
  | _ => none }
def nonceRoomRow : OpenClaim := { program := "ythpgdojjecdlcaa", sum := "235864558f8f7c2b3047d2a867ece69844111d6a83b4842d1454d011b7e56e84", func := "ostiary/ostiarylaw12.NonceRoom", spec := "nonceRoom", unfollowed := true, recurses := true, apart := false }
def NonceRoomSaid : Prop := nonceRoomRow.holds Try.pinned (OpenSpec.ofChange nonceRoomSpec)

/-- ITS FALSE NEIGHBOUR: 'it returns false'. Refute it at one input. -/
def nonceRoomWrong : ChangeSpec := { name := "nonceRoom", fn := fun _ => fun
  | [d1, d2, d3] => { results := [.lit (.bool false)], args := [d1, d2, d3] }
  | _ => none }
def NonceRoomWrongFalsely : Prop := nonceRoomRow.holds Try.pinned (OpenSpec.ofChange nonceRoomWrong)

/- THE SECOND FORM. 'bulk': how many values and letters a reading holds, each counted each time it is reached (what is shared counts as often as it is met; a slice's spare places count too). A statement '..UptoSaid' is the law's where the arguments, and the package variables that the reading takes, are together of bulk at most 1048576: NARROWER than '..Said'. Prove '..Said' where nothing that the law and all that it calls make is longer than what came in: it says more and counts as full. Else prove '..UptoSaid'. A law counts once. -/
mutual
def uptoBulk {H : Type} : DataW H → Nat
  | .lit (.string bytes) => bytes.length + 1
  | .lit _ => 1
  | .nil => 1
  | .ptr d => uptoBulk d + 1
  | .slice elems spare => uptoBulkAll elems + uptoBulkAll spare + 1
  | .agg parts => uptoBulkAll parts + 1
  | .iface _ d => uptoBulk d + 1
  | .map entries => uptoBulkEntries entries + 1
  | .held _ => 1
def uptoBulkAll {H : Type} : List (DataW H) → Nat
  | [] => 0
  | d :: r => uptoBulk d + uptoBulkAll r
def uptoBulkEntries {H : Type} : List (Lit × DataW H) → Nat
  | [] => 0
  | x :: r => uptoBulkEntry x + uptoBulkEntries r
def uptoBulkEntry {H : Type} : Lit × DataW H → Nat
  | (.string bytes, d) => bytes.length + uptoBulk d + 1
  | (_, d) => uptoBulk d + 1
 end
def uptoSmall : (H : Type) → List (DataW H) → Bool := fun _ ds => decide (uptoBulkAll ds ≤ 1048576)
def OpenSpec.upto (s : _root_.Go.ChangeSpec) : _root_.Go.OpenSpec := { _root_.Go.OpenSpec.ofChange s with cond := some uptoSmall }

/-- 'ostiarylaw12.NoncePlays', WHERE WHAT IT READS IS OF BULK AT MOST 1048576: true; the input reads as it did. -/
def noncePlaysUptoRow : OpenClaim := { program := "ythpgdojjecdlcaa", sum := "235864558f8f7c2b3047d2a867ece69844111d6a83b4842d1454d011b7e56e84", func := "ostiary/ostiarylaw12.NoncePlays", spec := "noncePlays", unfollowed := true, recurses := true, apart := false, narrowed := true }
def NoncePlaysUptoSaid : Prop := noncePlaysUptoRow.holds Try.pinned (OpenSpec.upto noncePlaysSpec)

/-- 'ostiarylaw12.NonceOnce', WHERE WHAT IT READS IS OF BULK AT MOST 1048576: true; the input reads as it did. -/
def nonceOnceUptoRow : OpenClaim := { program := "ythpgdojjecdlcaa", sum := "235864558f8f7c2b3047d2a867ece69844111d6a83b4842d1454d011b7e56e84", func := "ostiary/ostiarylaw12.NonceOnce", spec := "nonceOnce", unfollowed := true, recurses := true, apart := false, narrowed := true }
def NonceOnceUptoSaid : Prop := nonceOnceUptoRow.holds Try.pinned (OpenSpec.upto nonceOnceSpec)

/-- 'ostiarylaw12.NonceWindows', WHERE WHAT IT READS IS OF BULK AT MOST 1048576: true; the input reads as it did. -/
def nonceWindowsUptoRow : OpenClaim := { program := "ythpgdojjecdlcaa", sum := "235864558f8f7c2b3047d2a867ece69844111d6a83b4842d1454d011b7e56e84", func := "ostiary/ostiarylaw12.NonceWindows", spec := "nonceWindows", unfollowed := true, recurses := true, apart := false, narrowed := true }
def NonceWindowsUptoSaid : Prop := nonceWindowsUptoRow.holds Try.pinned (OpenSpec.upto nonceWindowsSpec)

/-- 'ostiarylaw12.NonceRoom', WHERE WHAT IT READS IS OF BULK AT MOST 1048576: true; the input reads as it did. -/
def nonceRoomUptoRow : OpenClaim := { program := "ythpgdojjecdlcaa", sum := "235864558f8f7c2b3047d2a867ece69844111d6a83b4842d1454d011b7e56e84", func := "ostiary/ostiarylaw12.NonceRoom", spec := "nonceRoom", unfollowed := true, recurses := true, apart := false, narrowed := true }
def NonceRoomUptoSaid : Prop := nonceRoomUptoRow.holds Try.pinned (OpenSpec.upto nonceRoomSpec)

end Rows
end Go.Proofs.Ythpgdojjecdlcaa
