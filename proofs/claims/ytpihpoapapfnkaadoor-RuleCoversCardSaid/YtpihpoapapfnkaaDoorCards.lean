/-
  DERIVED. GIVEN WITH THE SEED: THE CARDS: each row of YtpihpoapapfnkaaDoorRows.lean that lists a variable, with what it lists TIED to the program's text (the seventh form; the later family's looks); each row that meets fmt, with fmt's text TOLD by the authors' own Lean function (tested against real Go, not proved from fmt's source: count such statements apart). THE CARD IS WHAT COUNTS. Prove the row's statement (the work); the ties are given (YtpihpoapapfnkaaDoorTie.lean); close each card by the builder's one call (the guide's Derived/Test/ToyasCard.lean, 'card_holds'). Laid BY PROGRAM, IN A SANDBOX (cutbox-door.mjs). By AI agents, Wed Nov 11 2026. No macro, syntax, notation, axiom, sorry.
-/
import Derived.Test.YtpihpoapapfnkaaDoorRows
import GoSem.ClaimSeven
namespace Go.Proofs.YtpihpoapapfnkaaDoor
namespace Rows

/-- THE TIED CARD OF 'ostiarylaw16.RuleMatches'. -/
def ruleMatchesCard : Claim7 := { stood := { row := ruleMatchesRow, standIns := [], harness := (true, "99ef8853b6183cd94e0c472fb04aa0455ee36c4cffe1cc8e003d78aadf79c275"), looks := true }, kinds := [], alts := [], laidByText := true, laidKinds := [.data, .data, .data, .data, .sentinel, .sentinel, .pinned], laidTests := true, laidLooks := .later }
def RuleMatchesCardSaid : Prop := Claim7.holds Tryd.pinned (.plain (OpenSpec.ofChange ruleMatchesSpec)) ruleMatchesCard

/-- THE TIED CARD OF 'ostiarylaw16.RuleCovers'. -/
def ruleCoversCard : Claim7 := { stood := { row := ruleCoversRow, standIns := [], harness := (true, "99ef8853b6183cd94e0c472fb04aa0455ee36c4cffe1cc8e003d78aadf79c275"), looks := true }, kinds := [], alts := [], laidByText := true, laidKinds := [.data, .data, .data, .data, .sentinel, .sentinel, .pinned], laidTests := true, laidLooks := .later }
def RuleCoversCardSaid : Prop := Claim7.holds Tryd.pinned (.plain (OpenSpec.ofChange ruleCoversSpec)) ruleCoversCard

/-- THE SECOND FORM's CARD OF 'ostiarylaw16.RuleMatches'. -/
def ruleMatchesUptoCard : Claim7 := { stood := { row := ruleMatchesUptoRow, standIns := [], harness := (true, "99ef8853b6183cd94e0c472fb04aa0455ee36c4cffe1cc8e003d78aadf79c275"), looks := true }, kinds := [], alts := [], laidByText := true, laidKinds := [.data, .data, .data, .data, .sentinel, .sentinel, .pinned], laidTests := true, laidLooks := .later }
def RuleMatchesUptoCardSaid : Prop := Claim7.holds Tryd.pinned (.plain (OpenSpec.upto ruleMatchesSpec)) ruleMatchesUptoCard

/-- THE SECOND FORM's CARD OF 'ostiarylaw16.RuleCovers'. -/
def ruleCoversUptoCard : Claim7 := { stood := { row := ruleCoversUptoRow, standIns := [], harness := (true, "99ef8853b6183cd94e0c472fb04aa0455ee36c4cffe1cc8e003d78aadf79c275"), looks := true }, kinds := [], alts := [], laidByText := true, laidKinds := [.data, .data, .data, .data, .sentinel, .sentinel, .pinned], laidTests := true, laidLooks := .later }
def RuleCoversUptoCardSaid : Prop := Claim7.holds Tryd.pinned (.plain (OpenSpec.upto ruleCoversSpec)) ruleCoversUptoCard
end Rows
end Go.Proofs.YtpihpoapapfnkaaDoor
