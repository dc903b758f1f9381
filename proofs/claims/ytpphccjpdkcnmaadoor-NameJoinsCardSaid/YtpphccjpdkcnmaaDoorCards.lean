/-
  DERIVED. GIVEN WITH THE SEED: THE CARDS: each row of YtpphccjpdkcnmaaDoorRows.lean that lists a variable, with what it lists TIED to the program's text (the seventh form; the later family's looks); each row that meets fmt, with fmt's text TOLD by the authors' own Lean function (tested against real Go, not proved from fmt's source: count such statements apart). THE CARD IS WHAT COUNTS. Prove the row's statement (the work); the ties are given (YtpphccjpdkcnmaaDoorTie.lean); close each card by the builder's one call (the guide's Derived/Test/ToyasCard.lean, 'card_holds'). Laid BY PROGRAM, IN A SANDBOX (cutbox-door.mjs). By AI agents, Wed Nov 11 2026. No macro, syntax, notation, axiom, sorry.
-/
import Derived.Test.YtpphccjpdkcnmaaDoorRows
import GoSem.ClaimSeven
namespace Go.Proofs.YtpphccjpdkcnmaaDoor
namespace Rows

/-- THE TIED CARD OF 'ostiarylaw04.NameRunes'. -/
def nameRunesCard : Claim7 := { stood := { row := nameRunesRow, standIns := [], harness := (true, "5aa41a5b426683056bf573258140c85b1044fae36c181a09845a99136fffb6ce"), looks := false }, kinds := [], alts := [], laidByText := true, laidKinds := [.data, .pinned], laidTests := true, laidLooks := .later }
def NameRunesCardSaid : Prop := Claim7.holds Tryd.pinned (.plain (OpenSpec.ofChange nameRunesSpec)) nameRunesCard

/-- THE TIED CARD OF 'ostiarylaw04.NameAppends'. -/
def nameAppendsCard : Claim7 := { stood := { row := nameAppendsRow, standIns := [], harness := (true, "5aa41a5b426683056bf573258140c85b1044fae36c181a09845a99136fffb6ce"), looks := false }, kinds := [], alts := [], laidByText := true, laidKinds := [.data, .pinned], laidTests := true, laidLooks := .later }
def NameAppendsCardSaid : Prop := Claim7.holds Tryd.pinned (.plain (OpenSpec.ofChange nameAppendsSpec)) nameAppendsCard

/-- THE TIED CARD OF 'ostiarylaw04.NamePrepares'. -/
def namePreparesCard : Claim7 := { stood := { row := namePreparesRow, standIns := [], harness := (true, "5aa41a5b426683056bf573258140c85b1044fae36c181a09845a99136fffb6ce"), looks := false }, kinds := [], alts := [], laidByText := true, laidKinds := [.data, .pinned], laidTests := true, laidLooks := .later }
def NamePreparesCardSaid : Prop := Claim7.holds Tryd.pinned (.plain (OpenSpec.ofChange namePreparesSpec)) namePreparesCard

/-- THE TIED CARD OF 'ostiarylaw04.NameSizes'. -/
def nameSizesCard : Claim7 := { stood := { row := nameSizesRow, standIns := [], harness := (true, "5aa41a5b426683056bf573258140c85b1044fae36c181a09845a99136fffb6ce"), looks := false }, kinds := [], alts := [], laidByText := true, laidKinds := [.data, .pinned], laidTests := true, laidLooks := .later }
def NameSizesCardSaid : Prop := Claim7.holds Tryd.pinned (.plain (OpenSpec.ofChange nameSizesSpec)) nameSizesCard

/-- THE TIED CARD OF 'ostiarylaw04.NameJoins'. -/
def nameJoinsCard : Claim7 := { stood := { row := nameJoinsRow, standIns := [], harness := (true, "5aa41a5b426683056bf573258140c85b1044fae36c181a09845a99136fffb6ce"), looks := false }, kinds := [], alts := [], laidByText := true, laidKinds := [.data, .pinned], laidTests := true, laidLooks := .later }
def NameJoinsCardSaid : Prop := Claim7.holds Tryd.pinned (.plain (OpenSpec.ofChange nameJoinsSpec)) nameJoinsCard

/-- THE SECOND FORM's CARD OF 'ostiarylaw04.NameRunes'. -/
def nameRunesUptoCard : Claim7 := { stood := { row := nameRunesUptoRow, standIns := [], harness := (true, "5aa41a5b426683056bf573258140c85b1044fae36c181a09845a99136fffb6ce"), looks := false }, kinds := [], alts := [], laidByText := true, laidKinds := [.data, .pinned], laidTests := true, laidLooks := .later }
def NameRunesUptoCardSaid : Prop := Claim7.holds Tryd.pinned (.plain (OpenSpec.upto nameRunesSpec)) nameRunesUptoCard

/-- THE SECOND FORM's CARD OF 'ostiarylaw04.NameAppends'. -/
def nameAppendsUptoCard : Claim7 := { stood := { row := nameAppendsUptoRow, standIns := [], harness := (true, "5aa41a5b426683056bf573258140c85b1044fae36c181a09845a99136fffb6ce"), looks := false }, kinds := [], alts := [], laidByText := true, laidKinds := [.data, .pinned], laidTests := true, laidLooks := .later }
def NameAppendsUptoCardSaid : Prop := Claim7.holds Tryd.pinned (.plain (OpenSpec.upto nameAppendsSpec)) nameAppendsUptoCard

/-- THE SECOND FORM's CARD OF 'ostiarylaw04.NamePrepares'. -/
def namePreparesUptoCard : Claim7 := { stood := { row := namePreparesUptoRow, standIns := [], harness := (true, "5aa41a5b426683056bf573258140c85b1044fae36c181a09845a99136fffb6ce"), looks := false }, kinds := [], alts := [], laidByText := true, laidKinds := [.data, .pinned], laidTests := true, laidLooks := .later }
def NamePreparesUptoCardSaid : Prop := Claim7.holds Tryd.pinned (.plain (OpenSpec.upto namePreparesSpec)) namePreparesUptoCard

/-- THE SECOND FORM's CARD OF 'ostiarylaw04.NameSizes'. -/
def nameSizesUptoCard : Claim7 := { stood := { row := nameSizesUptoRow, standIns := [], harness := (true, "5aa41a5b426683056bf573258140c85b1044fae36c181a09845a99136fffb6ce"), looks := false }, kinds := [], alts := [], laidByText := true, laidKinds := [.data, .pinned], laidTests := true, laidLooks := .later }
def NameSizesUptoCardSaid : Prop := Claim7.holds Tryd.pinned (.plain (OpenSpec.upto nameSizesSpec)) nameSizesUptoCard

/-- THE SECOND FORM's CARD OF 'ostiarylaw04.NameJoins'. -/
def nameJoinsUptoCard : Claim7 := { stood := { row := nameJoinsUptoRow, standIns := [], harness := (true, "5aa41a5b426683056bf573258140c85b1044fae36c181a09845a99136fffb6ce"), looks := false }, kinds := [], alts := [], laidByText := true, laidKinds := [.data, .pinned], laidTests := true, laidLooks := .later }
def NameJoinsUptoCardSaid : Prop := Claim7.holds Tryd.pinned (.plain (OpenSpec.upto nameJoinsSpec)) nameJoinsUptoCard
end Rows
end Go.Proofs.YtpphccjpdkcnmaaDoor
