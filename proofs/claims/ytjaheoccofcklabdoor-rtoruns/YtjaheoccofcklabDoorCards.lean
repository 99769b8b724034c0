/-
  DERIVED. GIVEN WITH THE SEED: THE CARDS: each row of YtjaheoccofcklabDoorRows.lean that lists a variable, with what it lists TIED to the program's text (the seventh form; the later family's looks); each row that meets fmt, with fmt's text TOLD by the authors' own Lean function (tested against real Go, not proved from fmt's source: count such statements apart). THE CARD IS WHAT COUNTS. Prove the row's statement (the work); the ties are given (YtjaheoccofcklabDoorTie.lean); close each card by the builder's one call (the guide's Derived/Test/ToyasCard.lean, 'card_holds'). Laid BY PROGRAM, IN A SANDBOX (cutbox-door.mjs). By AI agents, Wed Nov 11 2026. No macro, syntax, notation, axiom, sorry.
-/
import Derived.Test.YtjaheoccofcklabDoorRows
import GoSem.ClaimSeven
namespace Go.Proofs.YtjaheoccofcklabDoor
namespace Rows

/-- THE TIED CARD OF 'annexlaw17.RtoWaits'. -/
def rtoWaitsCard : Claim7 := { stood := { row := rtoWaitsRow, standIns := [], harness := (true, "9d37e72f30fda58dd8b8d20cda1c2283a1661f0e74a5ca34c7f972326a0bfcdf"), looks := false }, kinds := [], alts := [], laidByText := true, laidKinds := [.wider], laidTests := true, laidLooks := .later }
def RtoWaitsCardSaid : Prop := Claim7.holds Tryd.pinned (.plain (OpenSpec.ofChange rtoWaitsSpec)) rtoWaitsCard

/-- THE TIED CARD OF 'annexlaw17.RtoExpires'. -/
def rtoExpiresCard : Claim7 := { stood := { row := rtoExpiresRow, standIns := [], harness := (true, "9d37e72f30fda58dd8b8d20cda1c2283a1661f0e74a5ca34c7f972326a0bfcdf"), looks := false }, kinds := [], alts := [], laidByText := true, laidKinds := [.wider], laidTests := true, laidLooks := .later }
def RtoExpiresCardSaid : Prop := Claim7.holds Tryd.pinned (.plain (OpenSpec.ofChange rtoExpiresSpec)) rtoExpiresCard

/-- THE TIED CARD OF 'annexlaw17.RtoRuns'. -/
def rtoRunsCard : Claim7 := { stood := { row := rtoRunsRow, standIns := [], harness := (true, "9d37e72f30fda58dd8b8d20cda1c2283a1661f0e74a5ca34c7f972326a0bfcdf"), looks := false }, kinds := [], alts := [], laidByText := true, laidKinds := [.wider], laidTests := true, laidLooks := .later }
def RtoRunsCardSaid : Prop := Claim7.holds Tryd.pinned (.plain (OpenSpec.ofChange rtoRunsSpec)) rtoRunsCard

/-- THE SECOND FORM's CARD OF 'annexlaw17.RtoWaits'. -/
def rtoWaitsUptoCard : Claim7 := { stood := { row := rtoWaitsUptoRow, standIns := [], harness := (true, "9d37e72f30fda58dd8b8d20cda1c2283a1661f0e74a5ca34c7f972326a0bfcdf"), looks := false }, kinds := [], alts := [], laidByText := true, laidKinds := [.wider], laidTests := true, laidLooks := .later }
def RtoWaitsUptoCardSaid : Prop := Claim7.holds Tryd.pinned (.plain (OpenSpec.upto rtoWaitsSpec)) rtoWaitsUptoCard

/-- THE SECOND FORM's CARD OF 'annexlaw17.RtoExpires'. -/
def rtoExpiresUptoCard : Claim7 := { stood := { row := rtoExpiresUptoRow, standIns := [], harness := (true, "9d37e72f30fda58dd8b8d20cda1c2283a1661f0e74a5ca34c7f972326a0bfcdf"), looks := false }, kinds := [], alts := [], laidByText := true, laidKinds := [.wider], laidTests := true, laidLooks := .later }
def RtoExpiresUptoCardSaid : Prop := Claim7.holds Tryd.pinned (.plain (OpenSpec.upto rtoExpiresSpec)) rtoExpiresUptoCard

/-- THE SECOND FORM's CARD OF 'annexlaw17.RtoRuns'. -/
def rtoRunsUptoCard : Claim7 := { stood := { row := rtoRunsUptoRow, standIns := [], harness := (true, "9d37e72f30fda58dd8b8d20cda1c2283a1661f0e74a5ca34c7f972326a0bfcdf"), looks := false }, kinds := [], alts := [], laidByText := true, laidKinds := [.wider], laidTests := true, laidLooks := .later }
def RtoRunsUptoCardSaid : Prop := Claim7.holds Tryd.pinned (.plain (OpenSpec.upto rtoRunsSpec)) rtoRunsUptoCard
end Rows
end Go.Proofs.YtjaheoccofcklabDoor
