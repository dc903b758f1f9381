/-
  DERIVED. GIVEN WITH THE SEED: THE CARDS: each row of YtockimgedckheaaDoorRows.lean that lists a variable, with what it lists TIED to the program's text (the seventh form; the later family's looks); each row that meets fmt, with fmt's text TOLD by the authors' own Lean function (tested against real Go, not proved from fmt's source: count such statements apart). THE CARD IS WHAT COUNTS. Prove the row's statement (the work); the ties are given (YtockimgedckheaaDoorTie.lean); close each card by the builder's one call (the guide's Derived/Test/ToyasCard.lean, 'card_holds'). Laid BY PROGRAM, IN A SANDBOX (cutbox-door.mjs). By AI agents, Wed Nov 11 2026. No macro, syntax, notation, axiom, sorry.
-/
import Derived.Test.YtockimgedckheaaDoorRows
import GoSem.ClaimSeven
namespace Go.Proofs.YtockimgedckheaaDoor
namespace Rows

/-- THE TIED CARD OF 'ostiarylaw23.TraceNil'. -/
def traceNilCard : Claim7 := { stood := { row := traceNilRow, standIns := [], harness := (true, "9d00e9e434cef4c54653aee3f0accb0915410b5b9a08cc7ff46cf574947b1cc8"), looks := false }, kinds := [], alts := [], laidByText := true, laidKinds := [.data, .data, .data, .data, .data, .pinned], laidTests := true, laidLooks := .later }
def TraceNilCardSaid : Prop := Claim7.holds Tryd.pinned (.plain (OpenSpec.ofChange traceNilSpec)) traceNilCard

/-- THE SECOND FORM's CARD OF 'ostiarylaw23.TraceNil'. -/
def traceNilUptoCard : Claim7 := { stood := { row := traceNilUptoRow, standIns := [], harness := (true, "9d00e9e434cef4c54653aee3f0accb0915410b5b9a08cc7ff46cf574947b1cc8"), looks := false }, kinds := [], alts := [], laidByText := true, laidKinds := [.data, .data, .data, .data, .data, .pinned], laidTests := true, laidLooks := .later }
def TraceNilUptoCardSaid : Prop := Claim7.holds Tryd.pinned (.plain (OpenSpec.upto traceNilSpec)) traceNilUptoCard
end Rows
end Go.Proofs.YtockimgedckheaaDoor
