/-
  DERIVED. GIVEN WITH THE SEED: THE CARDS: each row of YthpkmdojeegleaaGreatDoorRows.lean that lists a variable, with what it lists TIED to the program's text (the seventh form; the later family's looks); each row that meets fmt, with fmt's text TOLD by the authors' own Lean function (tested against real Go, not proved from fmt's source: count such statements apart). THE CARD IS WHAT COUNTS. Prove the row's statement (the work); the ties are given (YthpkmdojeegleaaGreatDoorTie.lean); close each card by the builder's one call (the guide's Derived/Test/ToyasCard.lean, 'card_holds'). Laid BY PROGRAM, IN A SANDBOX (cutbox-door.mjs). By AI agents, Wed Nov 11 2026. No macro, syntax, notation, axiom, sorry.
-/
import Derived.Test.YthpkmdojeegleaaGreatDoorRows
import GoSem.ClaimSeven
namespace Go.Proofs.YthpkmdojeegleaaGreatDoor
namespace Rows

/-- THE TIED CARD OF 'ostiarylaw16.RuleReads'. -/
def ruleReadsCard : Claim7 := { stood := { row := ruleReadsRow, standIns := [], harness := (true, "5201b3c2ff25202c34a0bb7a2b3c64eb043a99761b4353f235aecf39c22c0a18"), looks := true }, kinds := [], alts := [], laidByText := true, laidKinds := [.data, .data, .data, .data, .sentinel, .sentinel, .pinned], laidTests := true, laidLooks := .later }
def RuleReadsCardSaid : Prop := Claim7.holds Tryz.pinned (.plain (OpenSpec.ofChange ruleReadsSpec)) ruleReadsCard

/-- THE TIED CARD OF 'ostiarylaw16.RuleTexts'. -/
def ruleTextsCard : Claim7 := { stood := { row := ruleTextsRow, standIns := [], harness := (true, "5201b3c2ff25202c34a0bb7a2b3c64eb043a99761b4353f235aecf39c22c0a18"), looks := true }, kinds := [], alts := [], laidByText := true, laidKinds := [.data, .data, .data, .data, .sentinel, .sentinel, .pinned], laidTests := true, laidLooks := .later }
def RuleTextsCardSaid : Prop := Claim7.holds Tryz.pinned (.plain (OpenSpec.ofChange ruleTextsSpec)) ruleTextsCard

/-- THE TIED CARD OF 'ostiarylaw16.RuleIdles'. -/
def ruleIdlesCard : Claim7 := { stood := { row := ruleIdlesRow, standIns := [], harness := (true, "5201b3c2ff25202c34a0bb7a2b3c64eb043a99761b4353f235aecf39c22c0a18"), looks := true }, kinds := [], alts := [], laidByText := true, laidKinds := [.data, .data, .data, .data, .sentinel, .sentinel, .pinned], laidTests := true, laidLooks := .later }
def RuleIdlesCardSaid : Prop := Claim7.holds Tryz.pinned (.plain (OpenSpec.ofChange ruleIdlesSpec)) ruleIdlesCard

/-- THE SECOND FORM's CARD OF 'ostiarylaw16.RuleReads'. -/
def ruleReadsUptoCard : Claim7 := { stood := { row := ruleReadsUptoRow, standIns := [], harness := (true, "5201b3c2ff25202c34a0bb7a2b3c64eb043a99761b4353f235aecf39c22c0a18"), looks := true }, kinds := [], alts := [], laidByText := true, laidKinds := [.data, .data, .data, .data, .sentinel, .sentinel, .pinned], laidTests := true, laidLooks := .later }
def RuleReadsUptoCardSaid : Prop := Claim7.holds Tryz.pinned (.plain (OpenSpec.upto ruleReadsSpec)) ruleReadsUptoCard

/-- THE SECOND FORM's CARD OF 'ostiarylaw16.RuleTexts'. -/
def ruleTextsUptoCard : Claim7 := { stood := { row := ruleTextsUptoRow, standIns := [], harness := (true, "5201b3c2ff25202c34a0bb7a2b3c64eb043a99761b4353f235aecf39c22c0a18"), looks := true }, kinds := [], alts := [], laidByText := true, laidKinds := [.data, .data, .data, .data, .sentinel, .sentinel, .pinned], laidTests := true, laidLooks := .later }
def RuleTextsUptoCardSaid : Prop := Claim7.holds Tryz.pinned (.plain (OpenSpec.upto ruleTextsSpec)) ruleTextsUptoCard

/-- THE SECOND FORM's CARD OF 'ostiarylaw16.RuleIdles'. -/
def ruleIdlesUptoCard : Claim7 := { stood := { row := ruleIdlesUptoRow, standIns := [], harness := (true, "5201b3c2ff25202c34a0bb7a2b3c64eb043a99761b4353f235aecf39c22c0a18"), looks := true }, kinds := [], alts := [], laidByText := true, laidKinds := [.data, .data, .data, .data, .sentinel, .sentinel, .pinned], laidTests := true, laidLooks := .later }
def RuleIdlesUptoCardSaid : Prop := Claim7.holds Tryz.pinned (.plain (OpenSpec.upto ruleIdlesSpec)) ruleIdlesUptoCard
end Rows
end Go.Proofs.YthpkmdojeegleaaGreatDoor
