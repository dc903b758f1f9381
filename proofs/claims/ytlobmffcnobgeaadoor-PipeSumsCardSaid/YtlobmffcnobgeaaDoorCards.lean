/-
  DERIVED. GIVEN WITH THE SEED: THE CARDS: each row of YtlobmffcnobgeaaDoorRows.lean that lists a variable, with what it lists TIED to the program's text (the seventh form; the later family's looks); each row that meets fmt, with fmt's text TOLD by the authors' own Lean function (tested against real Go, not proved from fmt's source: count such statements apart). THE CARD IS WHAT COUNTS. Prove the row's statement (the work); the ties are given (YtlobmffcnobgeaaDoorTie.lean); close each card by the builder's one call (the guide's Derived/Test/ToyasCard.lean, 'card_holds'). Laid BY PROGRAM, IN A SANDBOX (cutbox-door.mjs). By AI agents, Wed Nov 11 2026. No macro, syntax, notation, axiom, sorry.
-/
import Derived.Test.YtlobmffcnobgeaaDoorRows
import GoSem.ClaimSeven
namespace Go.Proofs.YtlobmffcnobgeaaDoor
namespace Rows

/-- THE TIED CARD OF 'ostiarylaw22.PipePlays'. -/
def pipePlaysCard : Claim7 := { stood := { row := pipePlaysRow, standIns := [], harness := (true, "0e0248cba188d64b345a2e7b298440952dd63229677525790121ff991416296c"), looks := false }, kinds := [], alts := [], laidByText := true, laidKinds := [.data], laidTests := true, laidLooks := .later }
def PipePlaysCardSaid : Prop := Claim7.holds Tryd.pinned (.plain (OpenSpec.ofChange pipePlaysSpec)) pipePlaysCard

/-- THE TIED CARD OF 'ostiarylaw22.PipeSums'. -/
def pipeSumsCard : Claim7 := { stood := { row := pipeSumsRow, standIns := [], harness := (true, "0e0248cba188d64b345a2e7b298440952dd63229677525790121ff991416296c"), looks := false }, kinds := [], alts := [], laidByText := true, laidKinds := [.data, .data], laidTests := true, laidLooks := .later }
def PipeSumsCardSaid : Prop := Claim7.holds Tryd.pinned (.plain (OpenSpec.ofChange pipeSumsSpec)) pipeSumsCard

/-- THE TIED CARD OF 'ostiarylaw22.PipeShuts'. -/
def pipeShutsCard : Claim7 := { stood := { row := pipeShutsRow, standIns := [], harness := (true, "0e0248cba188d64b345a2e7b298440952dd63229677525790121ff991416296c"), looks := false }, kinds := [], alts := [], laidByText := true, laidKinds := [.data], laidTests := true, laidLooks := .later }
def PipeShutsCardSaid : Prop := Claim7.holds Tryd.pinned (.plain (OpenSpec.ofChange pipeShutsSpec)) pipeShutsCard

/-- THE SECOND FORM's CARD OF 'ostiarylaw22.PipePlays'. -/
def pipePlaysUptoCard : Claim7 := { stood := { row := pipePlaysUptoRow, standIns := [], harness := (true, "0e0248cba188d64b345a2e7b298440952dd63229677525790121ff991416296c"), looks := false }, kinds := [], alts := [], laidByText := true, laidKinds := [.data], laidTests := true, laidLooks := .later }
def PipePlaysUptoCardSaid : Prop := Claim7.holds Tryd.pinned (.plain (OpenSpec.upto pipePlaysSpec)) pipePlaysUptoCard

/-- THE SECOND FORM's CARD OF 'ostiarylaw22.PipeSums'. -/
def pipeSumsUptoCard : Claim7 := { stood := { row := pipeSumsUptoRow, standIns := [], harness := (true, "0e0248cba188d64b345a2e7b298440952dd63229677525790121ff991416296c"), looks := false }, kinds := [], alts := [], laidByText := true, laidKinds := [.data, .data], laidTests := true, laidLooks := .later }
def PipeSumsUptoCardSaid : Prop := Claim7.holds Tryd.pinned (.plain (OpenSpec.upto pipeSumsSpec)) pipeSumsUptoCard

/-- THE SECOND FORM's CARD OF 'ostiarylaw22.PipeShuts'. -/
def pipeShutsUptoCard : Claim7 := { stood := { row := pipeShutsUptoRow, standIns := [], harness := (true, "0e0248cba188d64b345a2e7b298440952dd63229677525790121ff991416296c"), looks := false }, kinds := [], alts := [], laidByText := true, laidKinds := [.data], laidTests := true, laidLooks := .later }
def PipeShutsUptoCardSaid : Prop := Claim7.holds Tryd.pinned (.plain (OpenSpec.upto pipeShutsSpec)) pipeShutsUptoCard
end Rows
end Go.Proofs.YtlobmffcnobgeaaDoor
