/-
  DERIVED. GIVEN WITH THE SEED: THE CARDS: each row of YteadncmhcbdicaaDoorRows.lean that lists a variable, with what it lists TIED to the program's text (the seventh form; the later family's looks); each row that meets fmt, with fmt's text TOLD by the authors' own Lean function (tested against real Go, not proved from fmt's source: count such statements apart). THE CARD IS WHAT COUNTS. Prove the row's statement (the work); the ties are given (YteadncmhcbdicaaDoorTie.lean); close each card by the builder's one call (the guide's Derived/Test/ToyasCard.lean, 'card_holds'). Laid BY PROGRAM, IN A SANDBOX (cutbox-door.mjs). By AI agents, Wed Nov 11 2026. No macro, syntax, notation, axiom, sorry.
-/
import Derived.Test.YteadncmhcbdicaaDoorRows
import GoSem.ClaimSeven
namespace Go.Proofs.YteadncmhcbdicaaDoor
namespace Rows

/-- THE TIED CARD OF 'ostiarylaw19.ProofDummies'. -/
def proofDummiesCard : Claim7 := { stood := { row := proofDummiesRow, standIns := [], harness := (true, "320f485fa76846565f07ed1abcebf77f9a463b7bd35eb1da5e4d6c7a2524b546"), looks := false }, kinds := [], alts := [], laidByText := true, laidKinds := [.data, .data], laidTests := true, laidLooks := .later }
def ProofDummiesCardSaid : Prop := Claim7.holds Tryd.pinned (.plain (OpenSpec.ofChange proofDummiesSpec)) proofDummiesCard

/-- THE SECOND FORM's CARD OF 'ostiarylaw19.ProofDummies'. -/
def proofDummiesUptoCard : Claim7 := { stood := { row := proofDummiesUptoRow, standIns := [], harness := (true, "320f485fa76846565f07ed1abcebf77f9a463b7bd35eb1da5e4d6c7a2524b546"), looks := false }, kinds := [], alts := [], laidByText := true, laidKinds := [.data, .data], laidTests := true, laidLooks := .later }
def ProofDummiesUptoCardSaid : Prop := Claim7.holds Tryd.pinned (.plain (OpenSpec.upto proofDummiesSpec)) proofDummiesUptoCard
end Rows
end Go.Proofs.YteadncmhcbdicaaDoor
