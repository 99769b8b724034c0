/-
  DERIVED. GIVEN WITH THE SEED: THE CARDS: each row of YtdkcplndplhblaaGreatDoorRows.lean that lists a variable, with what it lists TIED to the program's text (the seventh form; the later family's looks); each row that meets fmt, with fmt's text TOLD by the authors' own Lean function (tested against real Go, not proved from fmt's source: count such statements apart). THE CARD IS WHAT COUNTS. Prove the row's statement (the work); the ties are given (YtdkcplndplhblaaGreatDoorTie.lean); close each card by the builder's one call (the guide's Derived/Test/ToyasCard.lean, 'card_holds'). Laid BY PROGRAM, IN A SANDBOX (cutbox-door.mjs). By AI agents, Wed Nov 11 2026. No macro, syntax, notation, axiom, sorry.
-/
import Derived.Test.YtdkcplndplhblaaGreatDoorRows
import GoSem.ClaimSeven
namespace Go.Proofs.YtdkcplndplhblaaGreatDoor
namespace Rows

/-- THE TIED CARD OF 'annexlaw4.MsgChecks'. -/
def msgChecksCard : Claim7 := { stood := { row := msgChecksRow, standIns := [], harness := (true, "2c919977582840c1adc2d6b71bdbc7a027992e4cde02dccaf8bfc07af7198036"), looks := true }, kinds := [], alts := [], laidByText := true, laidKinds := [.sentinel, .sentinel, .sentinel, .sentinel, .sentinel], laidTests := true, laidLooks := .later }
def MsgChecksCardSaid : Prop := Claim7.holds Tryz.pinned (.plain (OpenSpec.ofChange msgChecksSpec)) msgChecksCard

/-- THE TIED CARD OF 'annexlaw4.MsgEncodes'. -/
def msgEncodesCard : Claim7 := { stood := { row := msgEncodesRow, standIns := [], harness := (true, "2c919977582840c1adc2d6b71bdbc7a027992e4cde02dccaf8bfc07af7198036"), looks := true }, kinds := [], alts := [], laidByText := true, laidKinds := [.sentinel, .sentinel, .sentinel, .sentinel, .sentinel], laidTests := true, laidLooks := .later }
def MsgEncodesCardSaid : Prop := Claim7.holds Tryz.pinned (.plain (OpenSpec.ofChange msgEncodesSpec)) msgEncodesCard

/-- THE TIED CARD OF 'annexlaw4.MsgOwn'. -/
def msgOwnCard : Claim7 := { stood := { row := msgOwnRow, standIns := [], harness := (true, "2c919977582840c1adc2d6b71bdbc7a027992e4cde02dccaf8bfc07af7198036"), looks := true }, kinds := [], alts := [], laidByText := true, laidKinds := [.sentinel, .sentinel, .sentinel, .sentinel, .sentinel], laidTests := true, laidLooks := .later }
def MsgOwnCardSaid : Prop := Claim7.holds Tryz.pinned (.plain (OpenSpec.ofChange msgOwnSpec)) msgOwnCard

/-- THE TIED CARD OF 'annexlaw4.MsgDecodes'. -/
def msgDecodesCard : Claim7 := { stood := { row := msgDecodesRow, standIns := [], harness := (true, "2c919977582840c1adc2d6b71bdbc7a027992e4cde02dccaf8bfc07af7198036"), looks := true }, kinds := [], alts := [], laidByText := true, laidKinds := [.sentinel, .sentinel, .sentinel, .sentinel, .sentinel], laidTests := true, laidLooks := .later }
def MsgDecodesCardSaid : Prop := Claim7.holds Tryz.pinned (.plain (OpenSpec.ofChange msgDecodesSpec)) msgDecodesCard

/-- THE SECOND FORM's CARD OF 'annexlaw4.MsgChecks'. -/
def msgChecksUptoCard : Claim7 := { stood := { row := msgChecksUptoRow, standIns := [], harness := (true, "2c919977582840c1adc2d6b71bdbc7a027992e4cde02dccaf8bfc07af7198036"), looks := true }, kinds := [], alts := [], laidByText := true, laidKinds := [.sentinel, .sentinel, .sentinel, .sentinel, .sentinel], laidTests := true, laidLooks := .later }
def MsgChecksUptoCardSaid : Prop := Claim7.holds Tryz.pinned (.plain (OpenSpec.upto msgChecksSpec)) msgChecksUptoCard

/-- THE SECOND FORM's CARD OF 'annexlaw4.MsgEncodes'. -/
def msgEncodesUptoCard : Claim7 := { stood := { row := msgEncodesUptoRow, standIns := [], harness := (true, "2c919977582840c1adc2d6b71bdbc7a027992e4cde02dccaf8bfc07af7198036"), looks := true }, kinds := [], alts := [], laidByText := true, laidKinds := [.sentinel, .sentinel, .sentinel, .sentinel, .sentinel], laidTests := true, laidLooks := .later }
def MsgEncodesUptoCardSaid : Prop := Claim7.holds Tryz.pinned (.plain (OpenSpec.upto msgEncodesSpec)) msgEncodesUptoCard

/-- THE SECOND FORM's CARD OF 'annexlaw4.MsgOwn'. -/
def msgOwnUptoCard : Claim7 := { stood := { row := msgOwnUptoRow, standIns := [], harness := (true, "2c919977582840c1adc2d6b71bdbc7a027992e4cde02dccaf8bfc07af7198036"), looks := true }, kinds := [], alts := [], laidByText := true, laidKinds := [.sentinel, .sentinel, .sentinel, .sentinel, .sentinel], laidTests := true, laidLooks := .later }
def MsgOwnUptoCardSaid : Prop := Claim7.holds Tryz.pinned (.plain (OpenSpec.upto msgOwnSpec)) msgOwnUptoCard

/-- THE SECOND FORM's CARD OF 'annexlaw4.MsgDecodes'. -/
def msgDecodesUptoCard : Claim7 := { stood := { row := msgDecodesUptoRow, standIns := [], harness := (true, "2c919977582840c1adc2d6b71bdbc7a027992e4cde02dccaf8bfc07af7198036"), looks := true }, kinds := [], alts := [], laidByText := true, laidKinds := [.sentinel, .sentinel, .sentinel, .sentinel, .sentinel], laidTests := true, laidLooks := .later }
def MsgDecodesUptoCardSaid : Prop := Claim7.holds Tryz.pinned (.plain (OpenSpec.upto msgDecodesSpec)) msgDecodesUptoCard
end Rows
end Go.Proofs.YtdkcplndplhblaaGreatDoor
