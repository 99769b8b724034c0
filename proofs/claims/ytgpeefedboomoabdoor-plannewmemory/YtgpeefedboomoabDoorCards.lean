/-
  DERIVED. GIVEN WITH THE SEED: THE CARDS: each row of YtgpeefedboomoabDoorRows.lean that lists a variable, with what it lists TIED to the program's text (the seventh form; the later family's looks); each row that meets fmt, with fmt's text TOLD by the authors' own Lean function (tested against real Go, not proved from fmt's source: count such statements apart). THE CARD IS WHAT COUNTS. Prove the row's statement (the work); the ties are given (YtgpeefedboomoabDoorTie.lean); close each card by the builder's one call (the guide's Derived/Test/ToyasCard.lean, 'card_holds'). Laid BY PROGRAM, IN A SANDBOX (cutbox-door.mjs). By AI agents, Wed Nov 11 2026. No macro, syntax, notation, axiom, sorry.
-/
import Derived.Test.YtgpeefedboomoabDoorRows
import GoSem.ClaimSeven
namespace Go.Proofs.YtgpeefedboomoabDoor
namespace Rows

/-- THE TIED CARD OF 'annexlaw6.PlanNewMemory'. -/
def planNewMemoryCard : Claim7 := { stood := { row := planNewMemoryRow, standIns := [], harness := (true, "062a6ba65394e50a7563278f1e85a1f91a2f77359f11fa8c468ea4666997a73f"), looks := true }, kinds := [], alts := [], laidByText := true, laidKinds := [.sentinel, .sentinel, .sentinel, .sentinel, .sentinel, .data], laidTests := true, laidLooks := .later }
def PlanNewMemoryCardSaid : Prop := Claim7.holds Tryd.pinned (.plain (OpenSpec.ofChange planNewMemorySpec)) planNewMemoryCard

/-- THE TIED CARD OF 'annexlaw6.PlanWheres'. -/
def planWheresCard : Claim7 := { stood := { row := planWheresRow, standIns := [], harness := (true, "062a6ba65394e50a7563278f1e85a1f91a2f77359f11fa8c468ea4666997a73f"), looks := true }, kinds := [], alts := [], laidByText := true, laidKinds := [.sentinel, .sentinel, .sentinel, .sentinel, .sentinel, .data], laidTests := true, laidLooks := .later }
def PlanWheresCardSaid : Prop := Claim7.holds Tryd.pinned (.plain (OpenSpec.ofChange planWheresSpec)) planWheresCard

/-- THE TIED CARD OF 'annexlaw6.PlanSupers'. -/
def planSupersCard : Claim7 := { stood := { row := planSupersRow, standIns := [], harness := (true, "062a6ba65394e50a7563278f1e85a1f91a2f77359f11fa8c468ea4666997a73f"), looks := true }, kinds := [], alts := [], laidByText := true, laidKinds := [.sentinel, .sentinel, .sentinel, .sentinel, .sentinel, .data], laidTests := true, laidLooks := .later }
def PlanSupersCardSaid : Prop := Claim7.holds Tryd.pinned (.plain (OpenSpec.ofChange planSupersSpec)) planSupersCard

/-- THE TIED CARD OF 'annexlaw6.PlanReads'. -/
def planReadsCard : Claim7 := { stood := { row := planReadsRow, standIns := [], harness := (true, "062a6ba65394e50a7563278f1e85a1f91a2f77359f11fa8c468ea4666997a73f"), looks := true }, kinds := [], alts := [], laidByText := true, laidKinds := [.sentinel, .sentinel, .sentinel, .sentinel, .sentinel, .data], laidTests := true, laidLooks := .later }
def PlanReadsCardSaid : Prop := Claim7.holds Tryd.pinned (.plain (OpenSpec.ofChange planReadsSpec)) planReadsCard

/-- THE SECOND FORM's CARD OF 'annexlaw6.PlanNewMemory'. -/
def planNewMemoryUptoCard : Claim7 := { stood := { row := planNewMemoryUptoRow, standIns := [], harness := (true, "062a6ba65394e50a7563278f1e85a1f91a2f77359f11fa8c468ea4666997a73f"), looks := true }, kinds := [], alts := [], laidByText := true, laidKinds := [.sentinel, .sentinel, .sentinel, .sentinel, .sentinel, .data], laidTests := true, laidLooks := .later }
def PlanNewMemoryUptoCardSaid : Prop := Claim7.holds Tryd.pinned (.plain (OpenSpec.upto planNewMemorySpec)) planNewMemoryUptoCard

/-- THE SECOND FORM's CARD OF 'annexlaw6.PlanWheres'. -/
def planWheresUptoCard : Claim7 := { stood := { row := planWheresUptoRow, standIns := [], harness := (true, "062a6ba65394e50a7563278f1e85a1f91a2f77359f11fa8c468ea4666997a73f"), looks := true }, kinds := [], alts := [], laidByText := true, laidKinds := [.sentinel, .sentinel, .sentinel, .sentinel, .sentinel, .data], laidTests := true, laidLooks := .later }
def PlanWheresUptoCardSaid : Prop := Claim7.holds Tryd.pinned (.plain (OpenSpec.upto planWheresSpec)) planWheresUptoCard

/-- THE SECOND FORM's CARD OF 'annexlaw6.PlanSupers'. -/
def planSupersUptoCard : Claim7 := { stood := { row := planSupersUptoRow, standIns := [], harness := (true, "062a6ba65394e50a7563278f1e85a1f91a2f77359f11fa8c468ea4666997a73f"), looks := true }, kinds := [], alts := [], laidByText := true, laidKinds := [.sentinel, .sentinel, .sentinel, .sentinel, .sentinel, .data], laidTests := true, laidLooks := .later }
def PlanSupersUptoCardSaid : Prop := Claim7.holds Tryd.pinned (.plain (OpenSpec.upto planSupersSpec)) planSupersUptoCard

/-- THE SECOND FORM's CARD OF 'annexlaw6.PlanReads'. -/
def planReadsUptoCard : Claim7 := { stood := { row := planReadsUptoRow, standIns := [], harness := (true, "062a6ba65394e50a7563278f1e85a1f91a2f77359f11fa8c468ea4666997a73f"), looks := true }, kinds := [], alts := [], laidByText := true, laidKinds := [.sentinel, .sentinel, .sentinel, .sentinel, .sentinel, .data], laidTests := true, laidLooks := .later }
def PlanReadsUptoCardSaid : Prop := Claim7.holds Tryd.pinned (.plain (OpenSpec.upto planReadsSpec)) planReadsUptoCard
end Rows
end Go.Proofs.YtgpeefedboomoabDoor
