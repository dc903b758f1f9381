/-
  DERIVED. GIVEN WITH THE SEED: THE CARDS: each row of YtlnjpmpddomjiaaGreatDoorRows.lean that lists a variable, with what it lists TIED to the program's text (the seventh form; the later family's looks); each row that meets fmt, with fmt's text TOLD by the authors' own Lean function (tested against real Go, not proved from fmt's source: count such statements apart). THE CARD IS WHAT COUNTS. Prove the row's statement (the work); the ties are given (YtlnjpmpddomjiaaGreatDoorTie.lean); close each card by the builder's one call (the guide's Derived/Test/ToyasCard.lean, 'card_holds'). Laid BY PROGRAM, IN A SANDBOX (cutbox-door.mjs). By AI agents, Wed Nov 11 2026. No macro, syntax, notation, axiom, sorry.
-/
import Derived.Test.YtlnjpmpddomjiaaGreatDoorRows
import GoSem.ClaimSeven
namespace Go.Proofs.YtlnjpmpddomjiaaGreatDoor
namespace Rows

/-- THE TIED CARD OF 'ostiarylaw05.BoxPlays'. -/
def boxPlaysCard : Claim7 := { stood := { row := boxPlaysRow, standIns := [], harness := (true, "08a3c551f04309ba84c05215e035ba56a8cc5b0af46d1e68bed3a99cea55c46b"), looks := false }, kinds := [], alts := [], laidByText := true, laidKinds := [.data, .data], laidTests := true, laidLooks := .later }
def BoxPlaysCardSaid : Prop := Claim7.holds Tryz.pinned (.plain (OpenSpec.ofChange boxPlaysSpec)) boxPlaysCard

/-- THE TIED CARD OF 'ostiarylaw05.BoxOpaque'. -/
def boxOpaqueCard : Claim7 := { stood := { row := boxOpaqueRow, standIns := [], harness := (true, "08a3c551f04309ba84c05215e035ba56a8cc5b0af46d1e68bed3a99cea55c46b"), looks := false }, kinds := [], alts := [], laidByText := true, laidKinds := [.data, .data], laidTests := true, laidLooks := .later }
def BoxOpaqueCardSaid : Prop := Claim7.holds Tryz.pinned (.plain (OpenSpec.ofChange boxOpaqueSpec)) boxOpaqueCard

/-- THE TIED CARD OF 'ostiarylaw05.BoxTurns'. -/
def boxTurnsCard : Claim7 := { stood := { row := boxTurnsRow, standIns := [], harness := (true, "08a3c551f04309ba84c05215e035ba56a8cc5b0af46d1e68bed3a99cea55c46b"), looks := false }, kinds := [], alts := [], laidByText := true, laidKinds := [.data, .data], laidTests := true, laidLooks := .later }
def BoxTurnsCardSaid : Prop := Claim7.holds Tryz.pinned (.plain (OpenSpec.ofChange boxTurnsSpec)) boxTurnsCard

/-- THE TIED CARD OF 'ostiarylaw05.BoxTerms'. -/
def boxTermsCard : Claim7 := { stood := { row := boxTermsRow, standIns := [], harness := (true, "08a3c551f04309ba84c05215e035ba56a8cc5b0af46d1e68bed3a99cea55c46b"), looks := false }, kinds := [], alts := [], laidByText := true, laidKinds := [.data, .data], laidTests := true, laidLooks := .later }
def BoxTermsCardSaid : Prop := Claim7.holds Tryz.pinned (.plain (OpenSpec.ofChange boxTermsSpec)) boxTermsCard

/-- THE SECOND FORM's CARD OF 'ostiarylaw05.BoxPlays'. -/
def boxPlaysUptoCard : Claim7 := { stood := { row := boxPlaysUptoRow, standIns := [], harness := (true, "08a3c551f04309ba84c05215e035ba56a8cc5b0af46d1e68bed3a99cea55c46b"), looks := false }, kinds := [], alts := [], laidByText := true, laidKinds := [.data, .data], laidTests := true, laidLooks := .later }
def BoxPlaysUptoCardSaid : Prop := Claim7.holds Tryz.pinned (.plain (OpenSpec.upto boxPlaysSpec)) boxPlaysUptoCard

/-- THE SECOND FORM's CARD OF 'ostiarylaw05.BoxOpaque'. -/
def boxOpaqueUptoCard : Claim7 := { stood := { row := boxOpaqueUptoRow, standIns := [], harness := (true, "08a3c551f04309ba84c05215e035ba56a8cc5b0af46d1e68bed3a99cea55c46b"), looks := false }, kinds := [], alts := [], laidByText := true, laidKinds := [.data, .data], laidTests := true, laidLooks := .later }
def BoxOpaqueUptoCardSaid : Prop := Claim7.holds Tryz.pinned (.plain (OpenSpec.upto boxOpaqueSpec)) boxOpaqueUptoCard

/-- THE SECOND FORM's CARD OF 'ostiarylaw05.BoxTurns'. -/
def boxTurnsUptoCard : Claim7 := { stood := { row := boxTurnsUptoRow, standIns := [], harness := (true, "08a3c551f04309ba84c05215e035ba56a8cc5b0af46d1e68bed3a99cea55c46b"), looks := false }, kinds := [], alts := [], laidByText := true, laidKinds := [.data, .data], laidTests := true, laidLooks := .later }
def BoxTurnsUptoCardSaid : Prop := Claim7.holds Tryz.pinned (.plain (OpenSpec.upto boxTurnsSpec)) boxTurnsUptoCard

/-- THE SECOND FORM's CARD OF 'ostiarylaw05.BoxTerms'. -/
def boxTermsUptoCard : Claim7 := { stood := { row := boxTermsUptoRow, standIns := [], harness := (true, "08a3c551f04309ba84c05215e035ba56a8cc5b0af46d1e68bed3a99cea55c46b"), looks := false }, kinds := [], alts := [], laidByText := true, laidKinds := [.data, .data], laidTests := true, laidLooks := .later }
def BoxTermsUptoCardSaid : Prop := Claim7.holds Tryz.pinned (.plain (OpenSpec.upto boxTermsSpec)) boxTermsUptoCard
end Rows
end Go.Proofs.YtlnjpmpddomjiaaGreatDoor
