/-
  DERIVED. GIVEN WITH THE SEED: THE CARDS: each row of YtockimgedckheaaGreatDoorRows.lean that lists a variable, with what it lists TIED to the program's text (the seventh form; the later family's looks); each row that meets fmt, with fmt's text TOLD by the authors' own Lean function (tested against real Go, not proved from fmt's source: count such statements apart). THE CARD IS WHAT COUNTS. Prove the row's statement (the work); the ties are given (YtockimgedckheaaGreatDoorTie.lean); close each card by the builder's one call (the guide's Derived/Test/ToyasCard.lean, 'card_holds'). Laid BY PROGRAM, IN A SANDBOX (cutbox-door.mjs). By AI agents, Wed Nov 11 2026. No macro, syntax, notation, axiom, sorry.
-/
import Derived.Test.YtockimgedckheaaGreatDoorRows
import GoSem.ClaimSeven
namespace Go.Proofs.YtockimgedckheaaGreatDoor
namespace Rows

/-- THE TIED CARD OF 'ostiarylaw23.TraceLines'. -/
def traceLinesCard : Claim7 := { stood := { row := traceLinesRow, standIns := [], harness := (true, "fdbaf3a093979df2e9106e1a69363897a0ca4f9ce6bc4c868b62ffdb5fb17c46"), looks := true }, kinds := [], alts := [], laidByText := true, laidKinds := [.data, .data, .data, .data, .data, .sentinel, .sentinel, .pinned], laidTests := true, laidLooks := .later }
def TraceLinesCardSaid : Prop := Claim7.holds Tryz.pinned (.plain (OpenSpec.ofChange traceLinesSpec)) traceLinesCard

/-- THE TIED CARD OF 'ostiarylaw23.TraceKeeps'. -/
def traceKeepsCard : Claim7 := { stood := { row := traceKeepsRow, standIns := [], harness := (true, "fdbaf3a093979df2e9106e1a69363897a0ca4f9ce6bc4c868b62ffdb5fb17c46"), looks := true }, kinds := [], alts := [], laidByText := true, laidKinds := [.data, .data, .data, .data, .data, .data, .pinned], laidTests := true, laidLooks := .later }
def TraceKeepsCardSaid : Prop := Claim7.holds Tryz.pinned (.plain (OpenSpec.ofChange traceKeepsSpec)) traceKeepsCard

/-- THE TIED CARD OF 'ostiarylaw23.TraceFinds'. -/
def traceFindsCard : Claim7 := { stood := { row := traceFindsRow, standIns := [], harness := (true, "fdbaf3a093979df2e9106e1a69363897a0ca4f9ce6bc4c868b62ffdb5fb17c46"), looks := true }, kinds := [], alts := [], laidByText := true, laidKinds := [.data, .data, .data, .data, .data, .pinned], laidTests := true, laidLooks := .later }
def TraceFindsCardSaid : Prop := Claim7.holds Tryz.pinned (.plain (OpenSpec.ofChange traceFindsSpec)) traceFindsCard

/-- THE TIED CARD OF 'ostiarylaw23.TraceVerifies'. -/
def traceVerifiesCard : Claim7 := { stood := { row := traceVerifiesRow, standIns := [], harness := (true, "fdbaf3a093979df2e9106e1a69363897a0ca4f9ce6bc4c868b62ffdb5fb17c46"), looks := true }, kinds := [], alts := [], laidByText := true, laidKinds := [.data, .data, .data, .data, .data, .data, .pinned], laidTests := true, laidLooks := .later }
def TraceVerifiesCardSaid : Prop := Claim7.holds Tryz.pinned (.plain (OpenSpec.ofChange traceVerifiesSpec)) traceVerifiesCard

/-- THE SECOND FORM's CARD OF 'ostiarylaw23.TraceLines'. -/
def traceLinesUptoCard : Claim7 := { stood := { row := traceLinesUptoRow, standIns := [], harness := (true, "fdbaf3a093979df2e9106e1a69363897a0ca4f9ce6bc4c868b62ffdb5fb17c46"), looks := true }, kinds := [], alts := [], laidByText := true, laidKinds := [.data, .data, .data, .data, .data, .sentinel, .sentinel, .pinned], laidTests := true, laidLooks := .later }
def TraceLinesUptoCardSaid : Prop := Claim7.holds Tryz.pinned (.plain (OpenSpec.upto traceLinesSpec)) traceLinesUptoCard

/-- THE SECOND FORM's CARD OF 'ostiarylaw23.TraceKeeps'. -/
def traceKeepsUptoCard : Claim7 := { stood := { row := traceKeepsUptoRow, standIns := [], harness := (true, "fdbaf3a093979df2e9106e1a69363897a0ca4f9ce6bc4c868b62ffdb5fb17c46"), looks := true }, kinds := [], alts := [], laidByText := true, laidKinds := [.data, .data, .data, .data, .data, .data, .pinned], laidTests := true, laidLooks := .later }
def TraceKeepsUptoCardSaid : Prop := Claim7.holds Tryz.pinned (.plain (OpenSpec.upto traceKeepsSpec)) traceKeepsUptoCard

/-- THE SECOND FORM's CARD OF 'ostiarylaw23.TraceFinds'. -/
def traceFindsUptoCard : Claim7 := { stood := { row := traceFindsUptoRow, standIns := [], harness := (true, "fdbaf3a093979df2e9106e1a69363897a0ca4f9ce6bc4c868b62ffdb5fb17c46"), looks := true }, kinds := [], alts := [], laidByText := true, laidKinds := [.data, .data, .data, .data, .data, .pinned], laidTests := true, laidLooks := .later }
def TraceFindsUptoCardSaid : Prop := Claim7.holds Tryz.pinned (.plain (OpenSpec.upto traceFindsSpec)) traceFindsUptoCard

/-- THE SECOND FORM's CARD OF 'ostiarylaw23.TraceVerifies'. -/
def traceVerifiesUptoCard : Claim7 := { stood := { row := traceVerifiesUptoRow, standIns := [], harness := (true, "fdbaf3a093979df2e9106e1a69363897a0ca4f9ce6bc4c868b62ffdb5fb17c46"), looks := true }, kinds := [], alts := [], laidByText := true, laidKinds := [.data, .data, .data, .data, .data, .data, .pinned], laidTests := true, laidLooks := .later }
def TraceVerifiesUptoCardSaid : Prop := Claim7.holds Tryz.pinned (.plain (OpenSpec.upto traceVerifiesSpec)) traceVerifiesUptoCard
end Rows
end Go.Proofs.YtockimgedckheaaGreatDoor
