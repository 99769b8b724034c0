/-
  DERIVED. GIVEN WITH THE SEED: THE CARDS: each row of YtdcliiojdlonbaaGreatDoorRows.lean that lists a variable, with what it lists TIED to the program's text (the seventh form; the later family's looks); each row that meets fmt, with fmt's text TOLD by the authors' own Lean function (tested against real Go, not proved from fmt's source: count such statements apart). THE CARD IS WHAT COUNTS. Prove the row's statement (the work); the ties are given (YtdcliiojdlonbaaGreatDoorTie.lean); close each card by the builder's one call (the guide's Derived/Test/ToyasCard.lean, 'card_holds'). Laid BY PROGRAM, IN A SANDBOX (cutbox-door.mjs). By AI agents, Wed Nov 11 2026. No macro, syntax, notation, axiom, sorry.
-/
import Derived.Test.YtdcliiojdlonbaaGreatDoorRows
import GoSem.ClaimSeven
namespace Go.Proofs.YtdcliiojdlonbaaGreatDoor
namespace Rows

/-- THE TIED CARD OF 'annexlaw4.MsgUnlike'. -/
def msgUnlikeCard : Claim7 := { stood := { row := msgUnlikeRow, standIns := [], harness := (true, "23f761c09a333784341f03090f684a23b1492a4c61c1bad401c1ed1ffa2a015e"), looks := true }, kinds := [], alts := [], laidByText := true, laidKinds := [.sentinel, .sentinel, .sentinel, .sentinel, .sentinel], laidTests := true, laidLooks := .later }
def MsgUnlikeCardSaid : Prop := Claim7.holds Tryz.pinned (.plain (OpenSpec.ofChange msgUnlikeSpec)) msgUnlikeCard

/-- THE TIED CARD OF 'annexlaw4.MsgBack'. -/
def msgBackCard : Claim7 := { stood := { row := msgBackRow, standIns := [], harness := (true, "23f761c09a333784341f03090f684a23b1492a4c61c1bad401c1ed1ffa2a015e"), looks := true }, kinds := [], alts := [], laidByText := true, laidKinds := [.sentinel, .sentinel, .sentinel, .sentinel, .sentinel], laidTests := true, laidLooks := .later }
def MsgBackCardSaid : Prop := Claim7.holds Tryz.pinned (.plain (OpenSpec.ofChange msgBackSpec)) msgBackCard

/-- THE TIED CARD OF 'annexlaw4.MsgOneForm'. -/
def msgOneFormCard : Claim7 := { stood := { row := msgOneFormRow, standIns := [], harness := (true, "23f761c09a333784341f03090f684a23b1492a4c61c1bad401c1ed1ffa2a015e"), looks := true }, kinds := [], alts := [], laidByText := true, laidKinds := [.sentinel, .sentinel, .sentinel, .sentinel, .sentinel], laidTests := true, laidLooks := .later }
def MsgOneFormCardSaid : Prop := Claim7.holds Tryz.pinned (.plain (OpenSpec.ofChange msgOneFormSpec)) msgOneFormCard

/-- THE TIED CARD OF 'annexlaw4.MsgOneByte'. -/
def msgOneByteCard : Claim7 := { stood := { row := msgOneByteRow, standIns := [], harness := (true, "23f761c09a333784341f03090f684a23b1492a4c61c1bad401c1ed1ffa2a015e"), looks := true }, kinds := [], alts := [], laidByText := true, laidKinds := [.sentinel, .sentinel, .sentinel, .sentinel, .sentinel], laidTests := true, laidLooks := .later }
def MsgOneByteCardSaid : Prop := Claim7.holds Tryz.pinned (.plain (OpenSpec.ofChange msgOneByteSpec)) msgOneByteCard

/-- THE TIED CARD OF 'annexlaw4.MsgSums'. -/
def msgSumsCard : Claim7 := { stood := { row := msgSumsRow, standIns := [], harness := (true, "23f761c09a333784341f03090f684a23b1492a4c61c1bad401c1ed1ffa2a015e"), looks := true }, kinds := [], alts := [], laidByText := true, laidKinds := [.sentinel, .sentinel, .sentinel, .sentinel, .sentinel], laidTests := true, laidLooks := .later }
def MsgSumsCardSaid : Prop := Claim7.holds Tryz.pinned (.plain (OpenSpec.ofChange msgSumsSpec)) msgSumsCard

/-- THE TIED CARD OF 'annexlaw4.MsgChecks'. -/
def msgChecksCard : Claim7 := { stood := { row := msgChecksRow, standIns := [], harness := (true, "23f761c09a333784341f03090f684a23b1492a4c61c1bad401c1ed1ffa2a015e"), looks := true }, kinds := [], alts := [], laidByText := true, laidKinds := [.sentinel, .sentinel, .sentinel, .sentinel, .sentinel], laidTests := true, laidLooks := .later }
def MsgChecksCardSaid : Prop := Claim7.holds Tryz.pinned (.plain (OpenSpec.ofChange msgChecksSpec)) msgChecksCard

/-- THE SECOND FORM's CARD OF 'annexlaw4.MsgUnlike'. -/
def msgUnlikeUptoCard : Claim7 := { stood := { row := msgUnlikeUptoRow, standIns := [], harness := (true, "23f761c09a333784341f03090f684a23b1492a4c61c1bad401c1ed1ffa2a015e"), looks := true }, kinds := [], alts := [], laidByText := true, laidKinds := [.sentinel, .sentinel, .sentinel, .sentinel, .sentinel], laidTests := true, laidLooks := .later }
def MsgUnlikeUptoCardSaid : Prop := Claim7.holds Tryz.pinned (.plain (OpenSpec.upto msgUnlikeSpec)) msgUnlikeUptoCard

/-- THE SECOND FORM's CARD OF 'annexlaw4.MsgBack'. -/
def msgBackUptoCard : Claim7 := { stood := { row := msgBackUptoRow, standIns := [], harness := (true, "23f761c09a333784341f03090f684a23b1492a4c61c1bad401c1ed1ffa2a015e"), looks := true }, kinds := [], alts := [], laidByText := true, laidKinds := [.sentinel, .sentinel, .sentinel, .sentinel, .sentinel], laidTests := true, laidLooks := .later }
def MsgBackUptoCardSaid : Prop := Claim7.holds Tryz.pinned (.plain (OpenSpec.upto msgBackSpec)) msgBackUptoCard

/-- THE SECOND FORM's CARD OF 'annexlaw4.MsgOneForm'. -/
def msgOneFormUptoCard : Claim7 := { stood := { row := msgOneFormUptoRow, standIns := [], harness := (true, "23f761c09a333784341f03090f684a23b1492a4c61c1bad401c1ed1ffa2a015e"), looks := true }, kinds := [], alts := [], laidByText := true, laidKinds := [.sentinel, .sentinel, .sentinel, .sentinel, .sentinel], laidTests := true, laidLooks := .later }
def MsgOneFormUptoCardSaid : Prop := Claim7.holds Tryz.pinned (.plain (OpenSpec.upto msgOneFormSpec)) msgOneFormUptoCard

/-- THE SECOND FORM's CARD OF 'annexlaw4.MsgOneByte'. -/
def msgOneByteUptoCard : Claim7 := { stood := { row := msgOneByteUptoRow, standIns := [], harness := (true, "23f761c09a333784341f03090f684a23b1492a4c61c1bad401c1ed1ffa2a015e"), looks := true }, kinds := [], alts := [], laidByText := true, laidKinds := [.sentinel, .sentinel, .sentinel, .sentinel, .sentinel], laidTests := true, laidLooks := .later }
def MsgOneByteUptoCardSaid : Prop := Claim7.holds Tryz.pinned (.plain (OpenSpec.upto msgOneByteSpec)) msgOneByteUptoCard

/-- THE SECOND FORM's CARD OF 'annexlaw4.MsgSums'. -/
def msgSumsUptoCard : Claim7 := { stood := { row := msgSumsUptoRow, standIns := [], harness := (true, "23f761c09a333784341f03090f684a23b1492a4c61c1bad401c1ed1ffa2a015e"), looks := true }, kinds := [], alts := [], laidByText := true, laidKinds := [.sentinel, .sentinel, .sentinel, .sentinel, .sentinel], laidTests := true, laidLooks := .later }
def MsgSumsUptoCardSaid : Prop := Claim7.holds Tryz.pinned (.plain (OpenSpec.upto msgSumsSpec)) msgSumsUptoCard

/-- THE SECOND FORM's CARD OF 'annexlaw4.MsgChecks'. -/
def msgChecksUptoCard : Claim7 := { stood := { row := msgChecksUptoRow, standIns := [], harness := (true, "23f761c09a333784341f03090f684a23b1492a4c61c1bad401c1ed1ffa2a015e"), looks := true }, kinds := [], alts := [], laidByText := true, laidKinds := [.sentinel, .sentinel, .sentinel, .sentinel, .sentinel], laidTests := true, laidLooks := .later }
def MsgChecksUptoCardSaid : Prop := Claim7.holds Tryz.pinned (.plain (OpenSpec.upto msgChecksSpec)) msgChecksUptoCard
end Rows
end Go.Proofs.YtdcliiojdlonbaaGreatDoor
