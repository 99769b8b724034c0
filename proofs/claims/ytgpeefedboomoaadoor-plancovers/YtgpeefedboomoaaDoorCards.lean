/-
  DERIVED. GIVEN WITH THE SEED: THE CARDS: each row of YtgpeefedboomoaaDoorRows.lean that lists a variable, with what it lists TIED to the program's text (the seventh form; the later family's looks); each row that meets fmt, with fmt's text TOLD by the authors' own Lean function (tested against real Go, not proved from fmt's source: count such statements apart). THE CARD IS WHAT COUNTS. Prove the row's statement (the work); the ties are given (YtgpeefedboomoaaDoorTie.lean); close each card by the builder's one call (the guide's Derived/Test/ToyasCard.lean, 'card_holds'). Laid BY PROGRAM, IN A SANDBOX (cutbox-door.mjs). By AI agents, Wed Nov 11 2026. No macro, syntax, notation, axiom, sorry.
-/
import Derived.Test.YtgpeefedboomoaaDoorRows
import GoSem.ClaimSeven
namespace Go.Proofs.YtgpeefedboomoaaDoor
namespace Rows

/-- THE TIED CARD OF 'annexlaw6.PlanReturns'. -/
def planReturnsCard : Claim7 := { stood := { row := planReturnsRow, standIns := [], harness := (true, "3e71d0ee80a4c74273ede43c1acff14a8b78f486f31c88bf36b66b344ac5c01f"), looks := true }, kinds := [], alts := [], laidByText := true, laidKinds := [.sentinel, .sentinel, .sentinel, .sentinel, .sentinel, .data], laidTests := true, laidLooks := .later }
def PlanReturnsCardSaid : Prop := Claim7.holds Tryd.pinned (.plain (OpenSpec.ofChange planReturnsSpec)) planReturnsCard

/-- THE TIED CARD OF 'annexlaw6.PlanRots'. -/
def planRotsCard : Claim7 := { stood := { row := planRotsRow, standIns := [], harness := (true, "3e71d0ee80a4c74273ede43c1acff14a8b78f486f31c88bf36b66b344ac5c01f"), looks := true }, kinds := [], alts := [], laidByText := true, laidKinds := [.sentinel, .sentinel, .sentinel, .sentinel, .sentinel, .data], laidTests := true, laidLooks := .later }
def PlanRotsCardSaid : Prop := Claim7.holds Tryd.pinned (.plain (OpenSpec.ofChange planRotsSpec)) planRotsCard

/-- THE TIED CARD OF 'annexlaw6.PlanCovers'. -/
def planCoversCard : Claim7 := { stood := { row := planCoversRow, standIns := [], harness := (true, "3e71d0ee80a4c74273ede43c1acff14a8b78f486f31c88bf36b66b344ac5c01f"), looks := true }, kinds := [], alts := [], laidByText := true, laidKinds := [.sentinel, .sentinel, .sentinel, .sentinel, .sentinel, .data], laidTests := true, laidLooks := .later }
def PlanCoversCardSaid : Prop := Claim7.holds Tryd.pinned (.plain (OpenSpec.ofChange planCoversSpec)) planCoversCard

/-- THE TIED CARD OF 'annexlaw6.PlanRoom'. -/
def planRoomCard : Claim7 := { stood := { row := planRoomRow, standIns := [], harness := (true, "3e71d0ee80a4c74273ede43c1acff14a8b78f486f31c88bf36b66b344ac5c01f"), looks := true }, kinds := [], alts := [], laidByText := true, laidKinds := [.sentinel, .sentinel, .sentinel, .sentinel, .sentinel, .data], laidTests := true, laidLooks := .later }
def PlanRoomCardSaid : Prop := Claim7.holds Tryd.pinned (.plain (OpenSpec.ofChange planRoomSpec)) planRoomCard

/-- THE TIED CARD OF 'annexlaw6.PlanOneForm'. -/
def planOneFormCard : Claim7 := { stood := { row := planOneFormRow, standIns := [], harness := (true, "3e71d0ee80a4c74273ede43c1acff14a8b78f486f31c88bf36b66b344ac5c01f"), looks := true }, kinds := [], alts := [], laidByText := true, laidKinds := [.sentinel, .sentinel, .sentinel, .sentinel, .sentinel, .data], laidTests := true, laidLooks := .later }
def PlanOneFormCardSaid : Prop := Claim7.holds Tryd.pinned (.plain (OpenSpec.ofChange planOneFormSpec)) planOneFormCard

/-- THE TIED CARD OF 'annexlaw6.PlanPlans'. -/
def planPlansCard : Claim7 := { stood := { row := planPlansRow, standIns := [], harness := (true, "3e71d0ee80a4c74273ede43c1acff14a8b78f486f31c88bf36b66b344ac5c01f"), looks := true }, kinds := [], alts := [], laidByText := true, laidKinds := [.sentinel, .sentinel, .sentinel, .sentinel, .sentinel, .data], laidTests := true, laidLooks := .later }
def PlanPlansCardSaid : Prop := Claim7.holds Tryd.pinned (.plain (OpenSpec.ofChange planPlansSpec)) planPlansCard

/-- THE SECOND FORM's CARD OF 'annexlaw6.PlanReturns'. -/
def planReturnsUptoCard : Claim7 := { stood := { row := planReturnsUptoRow, standIns := [], harness := (true, "3e71d0ee80a4c74273ede43c1acff14a8b78f486f31c88bf36b66b344ac5c01f"), looks := true }, kinds := [], alts := [], laidByText := true, laidKinds := [.sentinel, .sentinel, .sentinel, .sentinel, .sentinel, .data], laidTests := true, laidLooks := .later }
def PlanReturnsUptoCardSaid : Prop := Claim7.holds Tryd.pinned (.plain (OpenSpec.upto planReturnsSpec)) planReturnsUptoCard

/-- THE SECOND FORM's CARD OF 'annexlaw6.PlanRots'. -/
def planRotsUptoCard : Claim7 := { stood := { row := planRotsUptoRow, standIns := [], harness := (true, "3e71d0ee80a4c74273ede43c1acff14a8b78f486f31c88bf36b66b344ac5c01f"), looks := true }, kinds := [], alts := [], laidByText := true, laidKinds := [.sentinel, .sentinel, .sentinel, .sentinel, .sentinel, .data], laidTests := true, laidLooks := .later }
def PlanRotsUptoCardSaid : Prop := Claim7.holds Tryd.pinned (.plain (OpenSpec.upto planRotsSpec)) planRotsUptoCard

/-- THE SECOND FORM's CARD OF 'annexlaw6.PlanCovers'. -/
def planCoversUptoCard : Claim7 := { stood := { row := planCoversUptoRow, standIns := [], harness := (true, "3e71d0ee80a4c74273ede43c1acff14a8b78f486f31c88bf36b66b344ac5c01f"), looks := true }, kinds := [], alts := [], laidByText := true, laidKinds := [.sentinel, .sentinel, .sentinel, .sentinel, .sentinel, .data], laidTests := true, laidLooks := .later }
def PlanCoversUptoCardSaid : Prop := Claim7.holds Tryd.pinned (.plain (OpenSpec.upto planCoversSpec)) planCoversUptoCard

/-- THE SECOND FORM's CARD OF 'annexlaw6.PlanRoom'. -/
def planRoomUptoCard : Claim7 := { stood := { row := planRoomUptoRow, standIns := [], harness := (true, "3e71d0ee80a4c74273ede43c1acff14a8b78f486f31c88bf36b66b344ac5c01f"), looks := true }, kinds := [], alts := [], laidByText := true, laidKinds := [.sentinel, .sentinel, .sentinel, .sentinel, .sentinel, .data], laidTests := true, laidLooks := .later }
def PlanRoomUptoCardSaid : Prop := Claim7.holds Tryd.pinned (.plain (OpenSpec.upto planRoomSpec)) planRoomUptoCard

/-- THE SECOND FORM's CARD OF 'annexlaw6.PlanOneForm'. -/
def planOneFormUptoCard : Claim7 := { stood := { row := planOneFormUptoRow, standIns := [], harness := (true, "3e71d0ee80a4c74273ede43c1acff14a8b78f486f31c88bf36b66b344ac5c01f"), looks := true }, kinds := [], alts := [], laidByText := true, laidKinds := [.sentinel, .sentinel, .sentinel, .sentinel, .sentinel, .data], laidTests := true, laidLooks := .later }
def PlanOneFormUptoCardSaid : Prop := Claim7.holds Tryd.pinned (.plain (OpenSpec.upto planOneFormSpec)) planOneFormUptoCard

/-- THE SECOND FORM's CARD OF 'annexlaw6.PlanPlans'. -/
def planPlansUptoCard : Claim7 := { stood := { row := planPlansUptoRow, standIns := [], harness := (true, "3e71d0ee80a4c74273ede43c1acff14a8b78f486f31c88bf36b66b344ac5c01f"), looks := true }, kinds := [], alts := [], laidByText := true, laidKinds := [.sentinel, .sentinel, .sentinel, .sentinel, .sentinel, .data], laidTests := true, laidLooks := .later }
def PlanPlansUptoCardSaid : Prop := Claim7.holds Tryd.pinned (.plain (OpenSpec.upto planPlansSpec)) planPlansUptoCard
end Rows
end Go.Proofs.YtgpeefedboomoaaDoor
