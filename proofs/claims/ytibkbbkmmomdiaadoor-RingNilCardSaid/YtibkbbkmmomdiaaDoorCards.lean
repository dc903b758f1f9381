/-
  DERIVED. GIVEN WITH THE SEED: THE CARDS: each row of YtibkbbkmmomdiaaDoorRows.lean that lists a variable, with what it lists TIED to the program's text (the seventh form; the later family's looks); each row that meets fmt, with fmt's text TOLD by the authors' own Lean function (tested against real Go, not proved from fmt's source: count such statements apart). THE CARD IS WHAT COUNTS. Prove the row's statement (the work); the ties are given (YtibkbbkmmomdiaaDoorTie.lean); close each card by the builder's one call (the guide's Derived/Test/ToyasCard.lean, 'card_holds'). Laid BY PROGRAM, IN A SANDBOX (cutbox-door.mjs). By AI agents, Wed Nov 11 2026. No macro, syntax, notation, axiom, sorry.
-/
import Derived.Test.YtibkbbkmmomdiaaDoorRows
import GoSem.ClaimSeven
namespace Go.Proofs.YtibkbbkmmomdiaaDoor
namespace Rows

/-- THE TIED CARD OF 'ostiarylaw17.RingNil'. -/
def ringNilCard : Claim7 := { stood := { row := ringNilRow, standIns := [], harness := (true, "c7d56cea953448b92b3077fefc0f25aeac6e86307236b3ec14ec37559c270511"), looks := false }, kinds := [], alts := [], laidByText := true, laidKinds := [.data, .data, .data, .data], laidTests := true, laidLooks := .later }
def RingNilCardSaid : Prop := Claim7.holds Tryd.pinned (.plain (OpenSpec.ofChange ringNilSpec)) ringNilCard

/-- THE SECOND FORM's CARD OF 'ostiarylaw17.RingNil'. -/
def ringNilUptoCard : Claim7 := { stood := { row := ringNilUptoRow, standIns := [], harness := (true, "c7d56cea953448b92b3077fefc0f25aeac6e86307236b3ec14ec37559c270511"), looks := false }, kinds := [], alts := [], laidByText := true, laidKinds := [.data, .data, .data, .data], laidTests := true, laidLooks := .later }
def RingNilUptoCardSaid : Prop := Claim7.holds Tryd.pinned (.plain (OpenSpec.upto ringNilSpec)) ringNilUptoCard
end Rows
end Go.Proofs.YtibkbbkmmomdiaaDoor
