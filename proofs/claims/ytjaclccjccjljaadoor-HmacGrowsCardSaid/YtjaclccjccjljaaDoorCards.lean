/-
  DERIVED. GIVEN WITH THE SEED: THE CARDS: each row of YtjaclccjccjljaaDoorRows.lean that lists a variable, with what it lists TIED to the program's text (the seventh form; the later family's looks); each row that meets fmt, with fmt's text TOLD by the authors' own Lean function (tested against real Go, not proved from fmt's source: count such statements apart). THE CARD IS WHAT COUNTS. Prove the row's statement (the work); the ties are given (YtjaclccjccjljaaDoorTie.lean); close each card by the builder's one call (the guide's Derived/Test/ToyasCard.lean, 'card_holds'). Laid BY PROGRAM, IN A SANDBOX (cutbox-door.mjs). By AI agents, Wed Nov 11 2026. No macro, syntax, notation, axiom, sorry.
-/
import Derived.Test.YtjaclccjccjljaaDoorRows
import GoSem.ClaimSeven
namespace Go.Proofs.YtjaclccjccjljaaDoor
namespace Rows

/-- THE TIED CARD OF 'ostiarylaw02.HmacSums'. -/
def hmacSumsCard : Claim7 := { stood := { row := hmacSumsRow, standIns := [], harness := (true, "8cc8391ec53ce82fcd7b11f643de4771ea9bfeb4f0e086b2108f2b2e2ec61552"), looks := false }, kinds := [], alts := [], laidByText := true, laidKinds := [.data, .data], laidTests := true, laidLooks := .later }
def HmacSumsCardSaid : Prop := Claim7.holds Tryd.pinned (.plain (OpenSpec.ofChange hmacSumsSpec)) hmacSumsCard

/-- THE TIED CARD OF 'ostiarylaw02.HmacStreams'. -/
def hmacStreamsCard : Claim7 := { stood := { row := hmacStreamsRow, standIns := [], harness := (true, "8cc8391ec53ce82fcd7b11f643de4771ea9bfeb4f0e086b2108f2b2e2ec61552"), looks := false }, kinds := [], alts := [], laidByText := true, laidKinds := [.data, .data], laidTests := true, laidLooks := .later }
def HmacStreamsCardSaid : Prop := Claim7.holds Tryd.pinned (.plain (OpenSpec.ofChange hmacStreamsSpec)) hmacStreamsCard

/-- THE TIED CARD OF 'ostiarylaw02.HmacStretches'. -/
def hmacStretchesCard : Claim7 := { stood := { row := hmacStretchesRow, standIns := [], harness := (true, "8cc8391ec53ce82fcd7b11f643de4771ea9bfeb4f0e086b2108f2b2e2ec61552"), looks := false }, kinds := [], alts := [], laidByText := true, laidKinds := [.data, .data], laidTests := true, laidLooks := .later }
def HmacStretchesCardSaid : Prop := Claim7.holds Tryd.pinned (.plain (OpenSpec.ofChange hmacStretchesSpec)) hmacStretchesCard

/-- THE TIED CARD OF 'ostiarylaw02.HmacGrows'. -/
def hmacGrowsCard : Claim7 := { stood := { row := hmacGrowsRow, standIns := [], harness := (true, "8cc8391ec53ce82fcd7b11f643de4771ea9bfeb4f0e086b2108f2b2e2ec61552"), looks := false }, kinds := [], alts := [], laidByText := true, laidKinds := [.data, .data], laidTests := true, laidLooks := .later }
def HmacGrowsCardSaid : Prop := Claim7.holds Tryd.pinned (.plain (OpenSpec.ofChange hmacGrowsSpec)) hmacGrowsCard

/-- THE TIED CARD OF 'ostiarylaw02.HmacCompares'. -/
def hmacComparesCard : Claim7 := { stood := { row := hmacComparesRow, standIns := [], harness := (true, "8cc8391ec53ce82fcd7b11f643de4771ea9bfeb4f0e086b2108f2b2e2ec61552"), looks := false }, kinds := [], alts := [], laidByText := true, laidKinds := [.data], laidTests := true, laidLooks := .later }
def HmacComparesCardSaid : Prop := Claim7.holds Tryd.pinned (.plain (OpenSpec.ofChange hmacComparesSpec)) hmacComparesCard

/-- THE SECOND FORM's CARD OF 'ostiarylaw02.HmacSums'. -/
def hmacSumsUptoCard : Claim7 := { stood := { row := hmacSumsUptoRow, standIns := [], harness := (true, "8cc8391ec53ce82fcd7b11f643de4771ea9bfeb4f0e086b2108f2b2e2ec61552"), looks := false }, kinds := [], alts := [], laidByText := true, laidKinds := [.data, .data], laidTests := true, laidLooks := .later }
def HmacSumsUptoCardSaid : Prop := Claim7.holds Tryd.pinned (.plain (OpenSpec.upto hmacSumsSpec)) hmacSumsUptoCard

/-- THE SECOND FORM's CARD OF 'ostiarylaw02.HmacStreams'. -/
def hmacStreamsUptoCard : Claim7 := { stood := { row := hmacStreamsUptoRow, standIns := [], harness := (true, "8cc8391ec53ce82fcd7b11f643de4771ea9bfeb4f0e086b2108f2b2e2ec61552"), looks := false }, kinds := [], alts := [], laidByText := true, laidKinds := [.data, .data], laidTests := true, laidLooks := .later }
def HmacStreamsUptoCardSaid : Prop := Claim7.holds Tryd.pinned (.plain (OpenSpec.upto hmacStreamsSpec)) hmacStreamsUptoCard

/-- THE SECOND FORM's CARD OF 'ostiarylaw02.HmacStretches'. -/
def hmacStretchesUptoCard : Claim7 := { stood := { row := hmacStretchesUptoRow, standIns := [], harness := (true, "8cc8391ec53ce82fcd7b11f643de4771ea9bfeb4f0e086b2108f2b2e2ec61552"), looks := false }, kinds := [], alts := [], laidByText := true, laidKinds := [.data, .data], laidTests := true, laidLooks := .later }
def HmacStretchesUptoCardSaid : Prop := Claim7.holds Tryd.pinned (.plain (OpenSpec.upto hmacStretchesSpec)) hmacStretchesUptoCard

/-- THE SECOND FORM's CARD OF 'ostiarylaw02.HmacGrows'. -/
def hmacGrowsUptoCard : Claim7 := { stood := { row := hmacGrowsUptoRow, standIns := [], harness := (true, "8cc8391ec53ce82fcd7b11f643de4771ea9bfeb4f0e086b2108f2b2e2ec61552"), looks := false }, kinds := [], alts := [], laidByText := true, laidKinds := [.data, .data], laidTests := true, laidLooks := .later }
def HmacGrowsUptoCardSaid : Prop := Claim7.holds Tryd.pinned (.plain (OpenSpec.upto hmacGrowsSpec)) hmacGrowsUptoCard

/-- THE SECOND FORM's CARD OF 'ostiarylaw02.HmacCompares'. -/
def hmacComparesUptoCard : Claim7 := { stood := { row := hmacComparesUptoRow, standIns := [], harness := (true, "8cc8391ec53ce82fcd7b11f643de4771ea9bfeb4f0e086b2108f2b2e2ec61552"), looks := false }, kinds := [], alts := [], laidByText := true, laidKinds := [.data], laidTests := true, laidLooks := .later }
def HmacComparesUptoCardSaid : Prop := Claim7.holds Tryd.pinned (.plain (OpenSpec.upto hmacComparesSpec)) hmacComparesUptoCard
end Rows
end Go.Proofs.YtjaclccjccjljaaDoor
