/-
  DERIVED. GIVEN WITH THE SEED: THE CARDS: each row of YtkbelfoeofhppaaDoorRows.lean that lists a variable, with what it lists TIED to the program's text (the seventh form; the later family's looks); each row that meets fmt, with fmt's text TOLD by the authors' own Lean function (tested against real Go, not proved from fmt's source: count such statements apart). THE CARD IS WHAT COUNTS. Prove the row's statement (the work); the ties are given (YtkbelfoeofhppaaDoorTie.lean); close each card by the builder's one call (the guide's Derived/Test/ToyasCard.lean, 'card_holds'). Laid BY PROGRAM, IN A SANDBOX (cutbox-door.mjs). By AI agents, Wed Nov 11 2026. No macro, syntax, notation, axiom, sorry.
-/
import Derived.Test.YtkbelfoeofhppaaDoorRows
import GoSem.ClaimSeven
namespace Go.Proofs.YtkbelfoeofhppaaDoor
namespace Rows

/-- THE TIED CARD OF 'ostiarylaw01.ShaSums'. -/
def shaSumsCard : Claim7 := { stood := { row := shaSumsRow, standIns := [], harness := (true, "5b6aad10d578605110c31c67c42d39e441e3c700892a4e8ab49203a68802f813"), looks := false }, kinds := [], alts := [], laidByText := true, laidKinds := [.data, .data], laidTests := true, laidLooks := .later }
def ShaSumsCardSaid : Prop := Claim7.holds Tryd.pinned (.plain (OpenSpec.ofChange shaSumsSpec)) shaSumsCard

/-- THE TIED CARD OF 'ostiarylaw01.ShaStreams'. -/
def shaStreamsCard : Claim7 := { stood := { row := shaStreamsRow, standIns := [], harness := (true, "5b6aad10d578605110c31c67c42d39e441e3c700892a4e8ab49203a68802f813"), looks := false }, kinds := [], alts := [], laidByText := true, laidKinds := [.data, .data], laidTests := true, laidLooks := .later }
def ShaStreamsCardSaid : Prop := Claim7.holds Tryd.pinned (.plain (OpenSpec.ofChange shaStreamsSpec)) shaStreamsCard

/-- THE TIED CARD OF 'ostiarylaw01.ShaSaves'. -/
def shaSavesCard : Claim7 := { stood := { row := shaSavesRow, standIns := [], harness := (true, "5b6aad10d578605110c31c67c42d39e441e3c700892a4e8ab49203a68802f813"), looks := false }, kinds := [], alts := [], laidByText := true, laidKinds := [.data, .data], laidTests := true, laidLooks := .later }
def ShaSavesCardSaid : Prop := Claim7.holds Tryd.pinned (.plain (OpenSpec.ofChange shaSavesSpec)) shaSavesCard

/-- THE TIED CARD OF 'ostiarylaw01.ShaLoads'. -/
def shaLoadsCard : Claim7 := { stood := { row := shaLoadsRow, standIns := [], harness := (true, "5b6aad10d578605110c31c67c42d39e441e3c700892a4e8ab49203a68802f813"), looks := false }, kinds := [], alts := [], laidByText := true, laidKinds := [.data], laidTests := true, laidLooks := .later }
def ShaLoadsCardSaid : Prop := Claim7.holds Tryd.pinned (.plain (OpenSpec.ofChange shaLoadsSpec)) shaLoadsCard

/-- THE TIED CARD OF 'ostiarylaw01.ShaBlocks'. -/
def shaBlocksCard : Claim7 := { stood := { row := shaBlocksRow, standIns := [], harness := (true, "5b6aad10d578605110c31c67c42d39e441e3c700892a4e8ab49203a68802f813"), looks := false }, kinds := [], alts := [], laidByText := true, laidKinds := [.data], laidTests := true, laidLooks := .later }
def ShaBlocksCardSaid : Prop := Claim7.holds Tryd.pinned (.plain (OpenSpec.ofChange shaBlocksSpec)) shaBlocksCard

/-- THE TIED CARD OF 'ostiarylaw01.ShaHex'. -/
def shaHexCard : Claim7 := { stood := { row := shaHexRow, standIns := [], harness := (true, "5b6aad10d578605110c31c67c42d39e441e3c700892a4e8ab49203a68802f813"), looks := false }, kinds := [], alts := [], laidByText := true, laidKinds := [.data], laidTests := true, laidLooks := .later }
def ShaHexCardSaid : Prop := Claim7.holds Tryd.pinned (.plain (OpenSpec.ofChange shaHexSpec)) shaHexCard

/-- THE SECOND FORM's CARD OF 'ostiarylaw01.ShaSums'. -/
def shaSumsUptoCard : Claim7 := { stood := { row := shaSumsUptoRow, standIns := [], harness := (true, "5b6aad10d578605110c31c67c42d39e441e3c700892a4e8ab49203a68802f813"), looks := false }, kinds := [], alts := [], laidByText := true, laidKinds := [.data, .data], laidTests := true, laidLooks := .later }
def ShaSumsUptoCardSaid : Prop := Claim7.holds Tryd.pinned (.plain (OpenSpec.upto shaSumsSpec)) shaSumsUptoCard

/-- THE SECOND FORM's CARD OF 'ostiarylaw01.ShaStreams'. -/
def shaStreamsUptoCard : Claim7 := { stood := { row := shaStreamsUptoRow, standIns := [], harness := (true, "5b6aad10d578605110c31c67c42d39e441e3c700892a4e8ab49203a68802f813"), looks := false }, kinds := [], alts := [], laidByText := true, laidKinds := [.data, .data], laidTests := true, laidLooks := .later }
def ShaStreamsUptoCardSaid : Prop := Claim7.holds Tryd.pinned (.plain (OpenSpec.upto shaStreamsSpec)) shaStreamsUptoCard

/-- THE SECOND FORM's CARD OF 'ostiarylaw01.ShaSaves'. -/
def shaSavesUptoCard : Claim7 := { stood := { row := shaSavesUptoRow, standIns := [], harness := (true, "5b6aad10d578605110c31c67c42d39e441e3c700892a4e8ab49203a68802f813"), looks := false }, kinds := [], alts := [], laidByText := true, laidKinds := [.data, .data], laidTests := true, laidLooks := .later }
def ShaSavesUptoCardSaid : Prop := Claim7.holds Tryd.pinned (.plain (OpenSpec.upto shaSavesSpec)) shaSavesUptoCard

/-- THE SECOND FORM's CARD OF 'ostiarylaw01.ShaLoads'. -/
def shaLoadsUptoCard : Claim7 := { stood := { row := shaLoadsUptoRow, standIns := [], harness := (true, "5b6aad10d578605110c31c67c42d39e441e3c700892a4e8ab49203a68802f813"), looks := false }, kinds := [], alts := [], laidByText := true, laidKinds := [.data], laidTests := true, laidLooks := .later }
def ShaLoadsUptoCardSaid : Prop := Claim7.holds Tryd.pinned (.plain (OpenSpec.upto shaLoadsSpec)) shaLoadsUptoCard

/-- THE SECOND FORM's CARD OF 'ostiarylaw01.ShaBlocks'. -/
def shaBlocksUptoCard : Claim7 := { stood := { row := shaBlocksUptoRow, standIns := [], harness := (true, "5b6aad10d578605110c31c67c42d39e441e3c700892a4e8ab49203a68802f813"), looks := false }, kinds := [], alts := [], laidByText := true, laidKinds := [.data], laidTests := true, laidLooks := .later }
def ShaBlocksUptoCardSaid : Prop := Claim7.holds Tryd.pinned (.plain (OpenSpec.upto shaBlocksSpec)) shaBlocksUptoCard

/-- THE SECOND FORM's CARD OF 'ostiarylaw01.ShaHex'. -/
def shaHexUptoCard : Claim7 := { stood := { row := shaHexUptoRow, standIns := [], harness := (true, "5b6aad10d578605110c31c67c42d39e441e3c700892a4e8ab49203a68802f813"), looks := false }, kinds := [], alts := [], laidByText := true, laidKinds := [.data], laidTests := true, laidLooks := .later }
def ShaHexUptoCardSaid : Prop := Claim7.holds Tryd.pinned (.plain (OpenSpec.upto shaHexSpec)) shaHexUptoCard
end Rows
end Go.Proofs.YtkbelfoeofhppaaDoor
