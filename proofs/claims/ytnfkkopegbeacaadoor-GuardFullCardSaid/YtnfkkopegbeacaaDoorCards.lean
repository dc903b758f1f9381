/-
  DERIVED. GIVEN WITH THE SEED: THE CARDS: each row of YtnfkkopegbeacaaDoorRows.lean that lists a variable, with what it lists TIED to the program's text (the seventh form; the later family's looks); each row that meets fmt, with fmt's text TOLD by the authors' own Lean function (tested against real Go, not proved from fmt's source: count such statements apart). THE CARD IS WHAT COUNTS. Prove the row's statement (the work); the ties are given (YtnfkkopegbeacaaDoorTie.lean); close each card by the builder's one call (the guide's Derived/Test/ToyasCard.lean, 'card_holds'). Laid BY PROGRAM, IN A SANDBOX (cutbox-door.mjs). By AI agents, Wed Nov 11 2026. No macro, syntax, notation, axiom, sorry.
-/
import Derived.Test.YtnfkkopegbeacaaDoorRows
import GoSem.ClaimSeven
namespace Go.Proofs.YtnfkkopegbeacaaDoor
namespace Rows

/-- THE TIED CARD OF 'ostiarylaw13.GuardLocks'. -/
def guardLocksCard : Claim7 := { stood := { row := guardLocksRow, standIns := [], harness := (true, "c33a03094fe7eb49c1f472d8437095c5f88d853a21d60e98878f3e752e1ec86f"), looks := false }, kinds := [], alts := [], laidByText := true, laidKinds := [.data, .pinned], laidTests := true, laidLooks := .later }
def GuardLocksCardSaid : Prop := Claim7.holds Tryd.pinned (.plain (OpenSpec.ofChange guardLocksSpec)) guardLocksCard

/-- THE TIED CARD OF 'ostiarylaw13.GuardBounds'. -/
def guardBoundsCard : Claim7 := { stood := { row := guardBoundsRow, standIns := [], harness := (true, "c33a03094fe7eb49c1f472d8437095c5f88d853a21d60e98878f3e752e1ec86f"), looks := false }, kinds := [], alts := [], laidByText := true, laidKinds := [.data, .pinned], laidTests := true, laidLooks := .later }
def GuardBoundsCardSaid : Prop := Claim7.holds Tryd.pinned (.plain (OpenSpec.ofChange guardBoundsSpec)) guardBoundsCard

/-- THE TIED CARD OF 'ostiarylaw13.GuardFull'. -/
def guardFullCard : Claim7 := { stood := { row := guardFullRow, standIns := [], harness := (true, "c33a03094fe7eb49c1f472d8437095c5f88d853a21d60e98878f3e752e1ec86f"), looks := false }, kinds := [], alts := [], laidByText := true, laidKinds := [.data, .pinned], laidTests := true, laidLooks := .later }
def GuardFullCardSaid : Prop := Claim7.holds Tryd.pinned (.plain (OpenSpec.ofChange guardFullSpec)) guardFullCard

/-- THE TIED CARD OF 'ostiarylaw13.GuardGood'. -/
def guardGoodCard : Claim7 := { stood := { row := guardGoodRow, standIns := [], harness := (true, "c33a03094fe7eb49c1f472d8437095c5f88d853a21d60e98878f3e752e1ec86f"), looks := false }, kinds := [], alts := [], laidByText := true, laidKinds := [.data, .pinned], laidTests := true, laidLooks := .later }
def GuardGoodCardSaid : Prop := Claim7.holds Tryd.pinned (.plain (OpenSpec.ofChange guardGoodSpec)) guardGoodCard

/-- THE SECOND FORM's CARD OF 'ostiarylaw13.GuardLocks'. -/
def guardLocksUptoCard : Claim7 := { stood := { row := guardLocksUptoRow, standIns := [], harness := (true, "c33a03094fe7eb49c1f472d8437095c5f88d853a21d60e98878f3e752e1ec86f"), looks := false }, kinds := [], alts := [], laidByText := true, laidKinds := [.data, .pinned], laidTests := true, laidLooks := .later }
def GuardLocksUptoCardSaid : Prop := Claim7.holds Tryd.pinned (.plain (OpenSpec.upto guardLocksSpec)) guardLocksUptoCard

/-- THE SECOND FORM's CARD OF 'ostiarylaw13.GuardBounds'. -/
def guardBoundsUptoCard : Claim7 := { stood := { row := guardBoundsUptoRow, standIns := [], harness := (true, "c33a03094fe7eb49c1f472d8437095c5f88d853a21d60e98878f3e752e1ec86f"), looks := false }, kinds := [], alts := [], laidByText := true, laidKinds := [.data, .pinned], laidTests := true, laidLooks := .later }
def GuardBoundsUptoCardSaid : Prop := Claim7.holds Tryd.pinned (.plain (OpenSpec.upto guardBoundsSpec)) guardBoundsUptoCard

/-- THE SECOND FORM's CARD OF 'ostiarylaw13.GuardFull'. -/
def guardFullUptoCard : Claim7 := { stood := { row := guardFullUptoRow, standIns := [], harness := (true, "c33a03094fe7eb49c1f472d8437095c5f88d853a21d60e98878f3e752e1ec86f"), looks := false }, kinds := [], alts := [], laidByText := true, laidKinds := [.data, .pinned], laidTests := true, laidLooks := .later }
def GuardFullUptoCardSaid : Prop := Claim7.holds Tryd.pinned (.plain (OpenSpec.upto guardFullSpec)) guardFullUptoCard

/-- THE SECOND FORM's CARD OF 'ostiarylaw13.GuardGood'. -/
def guardGoodUptoCard : Claim7 := { stood := { row := guardGoodUptoRow, standIns := [], harness := (true, "c33a03094fe7eb49c1f472d8437095c5f88d853a21d60e98878f3e752e1ec86f"), looks := false }, kinds := [], alts := [], laidByText := true, laidKinds := [.data, .pinned], laidTests := true, laidLooks := .later }
def GuardGoodUptoCardSaid : Prop := Claim7.holds Tryd.pinned (.plain (OpenSpec.upto guardGoodSpec)) guardGoodUptoCard
end Rows
end Go.Proofs.YtnfkkopegbeacaaDoor
