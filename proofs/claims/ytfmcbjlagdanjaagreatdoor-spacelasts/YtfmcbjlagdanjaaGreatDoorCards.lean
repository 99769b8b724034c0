/-
  DERIVED. GIVEN WITH THE SEED: THE CARDS: each row of YtfmcbjlagdanjaaGreatDoorRows.lean that lists a variable, with what it lists TIED to the program's text (the seventh form; the later family's looks); each row that meets fmt, with fmt's text TOLD by the authors' own Lean function (tested against real Go, not proved from fmt's source: count such statements apart). THE CARD IS WHAT COUNTS. Prove the row's statement (the work); the ties are given (YtfmcbjlagdanjaaGreatDoorTie.lean); close each card by the builder's one call (the guide's Derived/Test/ToyasCard.lean, 'card_holds'). Laid BY PROGRAM, IN A SANDBOX (cutbox-door.mjs). By AI agents, Wed Nov 11 2026. No macro, syntax, notation, axiom, sorry.
-/
import Derived.Test.YtfmcbjlagdanjaaGreatDoorRows
import GoSem.ClaimSeven
namespace Go.Proofs.YtfmcbjlagdanjaaGreatDoor
namespace Rows

/-- THE TIED CARD OF 'annexlaw8.SpaceFills'. -/
def spaceFillsCard : Claim7 := { stood := { row := spaceFillsRow, standIns := [], harness := (true, "cbc5117394773e8eba59cc8a3e1580be5de808b69bbbc9e8106b69d2fa4b0c1d"), looks := true }, kinds := [], alts := [], laidByText := true, laidKinds := [.handle, .sentinel, .sentinel, .sentinel, .sentinel, .sentinel, .data], laidTests := true, laidLooks := .later }
def SpaceFillsCardSaid : Prop := Claim7.holds Tryz.pinned (.plain (OpenSpec.ofChange spaceFillsSpec)) spaceFillsCard

/-- THE TIED CARD OF 'annexlaw8.SpaceLowest'. -/
def spaceLowestCard : Claim7 := { stood := { row := spaceLowestRow, standIns := [], harness := (true, "cbc5117394773e8eba59cc8a3e1580be5de808b69bbbc9e8106b69d2fa4b0c1d"), looks := true }, kinds := [], alts := [], laidByText := true, laidKinds := [.handle, .sentinel, .sentinel, .sentinel, .sentinel, .sentinel, .data], laidTests := true, laidLooks := .later }
def SpaceLowestCardSaid : Prop := Claim7.holds Tryz.pinned (.plain (OpenSpec.ofChange spaceLowestSpec)) spaceLowestCard

/-- THE TIED CARD OF 'annexlaw8.SpaceEnded'. -/
def spaceEndedCard : Claim7 := { stood := { row := spaceEndedRow, standIns := [], harness := (true, "cbc5117394773e8eba59cc8a3e1580be5de808b69bbbc9e8106b69d2fa4b0c1d"), looks := true }, kinds := [], alts := [], laidByText := true, laidKinds := [.handle, .sentinel, .sentinel, .sentinel, .sentinel, .sentinel, .data], laidTests := true, laidLooks := .later }
def SpaceEndedCardSaid : Prop := Claim7.holds Tryz.pinned (.plain (OpenSpec.ofChange spaceEndedSpec)) spaceEndedCard

/-- THE TIED CARD OF 'annexlaw8.SpaceShapes'. -/
def spaceShapesCard : Claim7 := { stood := { row := spaceShapesRow, standIns := [], harness := (true, "cbc5117394773e8eba59cc8a3e1580be5de808b69bbbc9e8106b69d2fa4b0c1d"), looks := true }, kinds := [], alts := [], laidByText := true, laidKinds := [.handle, .sentinel, .sentinel, .sentinel, .sentinel, .sentinel, .data], laidTests := true, laidLooks := .later }
def SpaceShapesCardSaid : Prop := Claim7.holds Tryz.pinned (.plain (OpenSpec.ofChange spaceShapesSpec)) spaceShapesCard

/-- THE TIED CARD OF 'annexlaw8.SpaceLasts'. -/
def spaceLastsCard : Claim7 := { stood := { row := spaceLastsRow, standIns := [], harness := (true, "cbc5117394773e8eba59cc8a3e1580be5de808b69bbbc9e8106b69d2fa4b0c1d"), looks := true }, kinds := [], alts := [], laidByText := true, laidKinds := [.handle, .sentinel, .sentinel, .sentinel, .sentinel, .sentinel, .data], laidTests := true, laidLooks := .later }
def SpaceLastsCardSaid : Prop := Claim7.holds Tryz.pinned (.plain (OpenSpec.ofChange spaceLastsSpec)) spaceLastsCard

/-- THE TIED CARD OF 'annexlaw8.SpaceBits'. -/
def spaceBitsCard : Claim7 := { stood := { row := spaceBitsRow, standIns := [], harness := (true, "cbc5117394773e8eba59cc8a3e1580be5de808b69bbbc9e8106b69d2fa4b0c1d"), looks := true }, kinds := [], alts := [], laidByText := true, laidKinds := [.handle, .sentinel, .sentinel, .sentinel, .sentinel, .sentinel, .data], laidTests := true, laidLooks := .later }
def SpaceBitsCardSaid : Prop := Claim7.holds Tryz.pinned (.plain (OpenSpec.ofChange spaceBitsSpec)) spaceBitsCard

/-- THE SECOND FORM's CARD OF 'annexlaw8.SpaceFills'. -/
def spaceFillsUptoCard : Claim7 := { stood := { row := spaceFillsUptoRow, standIns := [], harness := (true, "cbc5117394773e8eba59cc8a3e1580be5de808b69bbbc9e8106b69d2fa4b0c1d"), looks := true }, kinds := [], alts := [], laidByText := true, laidKinds := [.handle, .sentinel, .sentinel, .sentinel, .sentinel, .sentinel, .data], laidTests := true, laidLooks := .later }
def SpaceFillsUptoCardSaid : Prop := Claim7.holds Tryz.pinned (.plain (OpenSpec.upto spaceFillsSpec)) spaceFillsUptoCard

/-- THE SECOND FORM's CARD OF 'annexlaw8.SpaceLowest'. -/
def spaceLowestUptoCard : Claim7 := { stood := { row := spaceLowestUptoRow, standIns := [], harness := (true, "cbc5117394773e8eba59cc8a3e1580be5de808b69bbbc9e8106b69d2fa4b0c1d"), looks := true }, kinds := [], alts := [], laidByText := true, laidKinds := [.handle, .sentinel, .sentinel, .sentinel, .sentinel, .sentinel, .data], laidTests := true, laidLooks := .later }
def SpaceLowestUptoCardSaid : Prop := Claim7.holds Tryz.pinned (.plain (OpenSpec.upto spaceLowestSpec)) spaceLowestUptoCard

/-- THE SECOND FORM's CARD OF 'annexlaw8.SpaceEnded'. -/
def spaceEndedUptoCard : Claim7 := { stood := { row := spaceEndedUptoRow, standIns := [], harness := (true, "cbc5117394773e8eba59cc8a3e1580be5de808b69bbbc9e8106b69d2fa4b0c1d"), looks := true }, kinds := [], alts := [], laidByText := true, laidKinds := [.handle, .sentinel, .sentinel, .sentinel, .sentinel, .sentinel, .data], laidTests := true, laidLooks := .later }
def SpaceEndedUptoCardSaid : Prop := Claim7.holds Tryz.pinned (.plain (OpenSpec.upto spaceEndedSpec)) spaceEndedUptoCard

/-- THE SECOND FORM's CARD OF 'annexlaw8.SpaceShapes'. -/
def spaceShapesUptoCard : Claim7 := { stood := { row := spaceShapesUptoRow, standIns := [], harness := (true, "cbc5117394773e8eba59cc8a3e1580be5de808b69bbbc9e8106b69d2fa4b0c1d"), looks := true }, kinds := [], alts := [], laidByText := true, laidKinds := [.handle, .sentinel, .sentinel, .sentinel, .sentinel, .sentinel, .data], laidTests := true, laidLooks := .later }
def SpaceShapesUptoCardSaid : Prop := Claim7.holds Tryz.pinned (.plain (OpenSpec.upto spaceShapesSpec)) spaceShapesUptoCard

/-- THE SECOND FORM's CARD OF 'annexlaw8.SpaceLasts'. -/
def spaceLastsUptoCard : Claim7 := { stood := { row := spaceLastsUptoRow, standIns := [], harness := (true, "cbc5117394773e8eba59cc8a3e1580be5de808b69bbbc9e8106b69d2fa4b0c1d"), looks := true }, kinds := [], alts := [], laidByText := true, laidKinds := [.handle, .sentinel, .sentinel, .sentinel, .sentinel, .sentinel, .data], laidTests := true, laidLooks := .later }
def SpaceLastsUptoCardSaid : Prop := Claim7.holds Tryz.pinned (.plain (OpenSpec.upto spaceLastsSpec)) spaceLastsUptoCard

/-- THE SECOND FORM's CARD OF 'annexlaw8.SpaceBits'. -/
def spaceBitsUptoCard : Claim7 := { stood := { row := spaceBitsUptoRow, standIns := [], harness := (true, "cbc5117394773e8eba59cc8a3e1580be5de808b69bbbc9e8106b69d2fa4b0c1d"), looks := true }, kinds := [], alts := [], laidByText := true, laidKinds := [.handle, .sentinel, .sentinel, .sentinel, .sentinel, .sentinel, .data], laidTests := true, laidLooks := .later }
def SpaceBitsUptoCardSaid : Prop := Claim7.holds Tryz.pinned (.plain (OpenSpec.upto spaceBitsSpec)) spaceBitsUptoCard
end Rows
end Go.Proofs.YtfmcbjlagdanjaaGreatDoor
