/-
  DERIVED. GIVEN WITH THE SEED: THE CARDS: each row of YtpfbpiegejbhkaaDoorRows.lean that lists a variable, with what it lists TIED to the program's text (the seventh form; the later family's looks); each row that meets fmt, with fmt's text TOLD by the authors' own Lean function (tested against real Go, not proved from fmt's source: count such statements apart). THE CARD IS WHAT COUNTS. Prove the row's statement (the work); the ties are given (YtpfbpiegejbhkaaDoorTie.lean); close each card by the builder's one call (the guide's Derived/Test/ToyasCard.lean, 'card_holds'). Laid BY PROGRAM, IN A SANDBOX (cutbox-door.mjs). By AI agents, Wed Nov 11 2026. No macro, syntax, notation, axiom, sorry.
-/
import Derived.Test.YtpfbpiegejbhkaaDoorRows
import GoSem.ClaimSeven
namespace Go.Proofs.YtpfbpiegejbhkaaDoor
namespace Rows

/-- THE TIED CARD OF 'ostiarylaw05.BoxHandles'. -/
def boxHandlesCard : Claim7 := { stood := { row := boxHandlesRow, standIns := [], harness := (true, "ffbea63b86e73a782fd8a1558781e59d86f1733136973bec778a710778841e3f"), looks := false }, kinds := [], alts := [], laidByText := true, laidKinds := [.data], laidTests := true, laidLooks := .later }
def BoxHandlesCardSaid : Prop := Claim7.holds Tryd.pinned (.plain (OpenSpec.ofChange boxHandlesSpec)) boxHandlesCard

/-- THE SECOND FORM's CARD OF 'ostiarylaw05.BoxHandles'. -/
def boxHandlesUptoCard : Claim7 := { stood := { row := boxHandlesUptoRow, standIns := [], harness := (true, "ffbea63b86e73a782fd8a1558781e59d86f1733136973bec778a710778841e3f"), looks := false }, kinds := [], alts := [], laidByText := true, laidKinds := [.data], laidTests := true, laidLooks := .later }
def BoxHandlesUptoCardSaid : Prop := Claim7.holds Tryd.pinned (.plain (OpenSpec.upto boxHandlesSpec)) boxHandlesUptoCard
end Rows
end Go.Proofs.YtpfbpiegejbhkaaDoor
