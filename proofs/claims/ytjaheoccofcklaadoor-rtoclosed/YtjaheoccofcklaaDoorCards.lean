/-
  DERIVED. GIVEN WITH THE SEED: THE CARDS: each row of YtjaheoccofcklaaDoorRows.lean that lists a variable, with what it lists TIED to the program's text (the seventh form; the later family's looks); each row that meets fmt, with fmt's text TOLD by the authors' own Lean function (tested against real Go, not proved from fmt's source: count such statements apart). THE CARD IS WHAT COUNTS. Prove the row's statement (the work); the ties are given (YtjaheoccofcklaaDoorTie.lean); close each card by the builder's one call (the guide's Derived/Test/ToyasCard.lean, 'card_holds'). Laid BY PROGRAM, IN A SANDBOX (cutbox-door.mjs). By AI agents, Wed Nov 11 2026. No macro, syntax, notation, axiom, sorry.
-/
import Derived.Test.YtjaheoccofcklaaDoorRows
import GoSem.ClaimSeven
namespace Go.Proofs.YtjaheoccofcklaaDoor
namespace Rows

/-- THE TIED CARD OF 'annexlaw17.RtoBetween'. -/
def rtoBetweenCard : Claim7 := { stood := { row := rtoBetweenRow, standIns := [], harness := (true, "9e24a7b6c9b0e6f16ff181d6908b9ea4d71ea64cb1e6d77b8db8773e241a5a92"), looks := false }, kinds := [], alts := [], laidByText := true, laidKinds := [.wider], laidTests := true, laidLooks := .later }
def RtoBetweenCardSaid : Prop := Claim7.holds Tryd.pinned (.plain (OpenSpec.ofChange rtoBetweenSpec)) rtoBetweenCard

/-- THE TIED CARD OF 'annexlaw17.RtoSteady'. -/
def rtoSteadyCard : Claim7 := { stood := { row := rtoSteadyRow, standIns := [], harness := (true, "9e24a7b6c9b0e6f16ff181d6908b9ea4d71ea64cb1e6d77b8db8773e241a5a92"), looks := false }, kinds := [], alts := [], laidByText := true, laidKinds := [.wider], laidTests := true, laidLooks := .later }
def RtoSteadyCardSaid : Prop := Claim7.holds Tryd.pinned (.plain (OpenSpec.ofChange rtoSteadySpec)) rtoSteadyCard

/-- THE TIED CARD OF 'annexlaw17.RtoStarts'. -/
def rtoStartsCard : Claim7 := { stood := { row := rtoStartsRow, standIns := [], harness := (true, "9e24a7b6c9b0e6f16ff181d6908b9ea4d71ea64cb1e6d77b8db8773e241a5a92"), looks := false }, kinds := [], alts := [], laidByText := true, laidKinds := [.wider], laidTests := true, laidLooks := .later }
def RtoStartsCardSaid : Prop := Claim7.holds Tryd.pinned (.plain (OpenSpec.ofChange rtoStartsSpec)) rtoStartsCard

/-- THE TIED CARD OF 'annexlaw17.RtoClosed'. -/
def rtoClosedCard : Claim7 := { stood := { row := rtoClosedRow, standIns := [], harness := (true, "9e24a7b6c9b0e6f16ff181d6908b9ea4d71ea64cb1e6d77b8db8773e241a5a92"), looks := false }, kinds := [], alts := [], laidByText := true, laidKinds := [.wider], laidTests := true, laidLooks := .later }
def RtoClosedCardSaid : Prop := Claim7.holds Tryd.pinned (.plain (OpenSpec.ofChange rtoClosedSpec)) rtoClosedCard

/-- THE TIED CARD OF 'annexlaw17.RtoDoubles'. -/
def rtoDoublesCard : Claim7 := { stood := { row := rtoDoublesRow, standIns := [], harness := (true, "9e24a7b6c9b0e6f16ff181d6908b9ea4d71ea64cb1e6d77b8db8773e241a5a92"), looks := false }, kinds := [], alts := [], laidByText := true, laidKinds := [.wider], laidTests := true, laidLooks := .later }
def RtoDoublesCardSaid : Prop := Claim7.holds Tryd.pinned (.plain (OpenSpec.ofChange rtoDoublesSpec)) rtoDoublesCard

/-- THE TIED CARD OF 'annexlaw17.RtoSamples'. -/
def rtoSamplesCard : Claim7 := { stood := { row := rtoSamplesRow, standIns := [], harness := (true, "9e24a7b6c9b0e6f16ff181d6908b9ea4d71ea64cb1e6d77b8db8773e241a5a92"), looks := false }, kinds := [], alts := [], laidByText := true, laidKinds := [.wider], laidTests := true, laidLooks := .later }
def RtoSamplesCardSaid : Prop := Claim7.holds Tryd.pinned (.plain (OpenSpec.ofChange rtoSamplesSpec)) rtoSamplesCard

/-- THE SECOND FORM's CARD OF 'annexlaw17.RtoBetween'. -/
def rtoBetweenUptoCard : Claim7 := { stood := { row := rtoBetweenUptoRow, standIns := [], harness := (true, "9e24a7b6c9b0e6f16ff181d6908b9ea4d71ea64cb1e6d77b8db8773e241a5a92"), looks := false }, kinds := [], alts := [], laidByText := true, laidKinds := [.wider], laidTests := true, laidLooks := .later }
def RtoBetweenUptoCardSaid : Prop := Claim7.holds Tryd.pinned (.plain (OpenSpec.upto rtoBetweenSpec)) rtoBetweenUptoCard

/-- THE SECOND FORM's CARD OF 'annexlaw17.RtoSteady'. -/
def rtoSteadyUptoCard : Claim7 := { stood := { row := rtoSteadyUptoRow, standIns := [], harness := (true, "9e24a7b6c9b0e6f16ff181d6908b9ea4d71ea64cb1e6d77b8db8773e241a5a92"), looks := false }, kinds := [], alts := [], laidByText := true, laidKinds := [.wider], laidTests := true, laidLooks := .later }
def RtoSteadyUptoCardSaid : Prop := Claim7.holds Tryd.pinned (.plain (OpenSpec.upto rtoSteadySpec)) rtoSteadyUptoCard

/-- THE SECOND FORM's CARD OF 'annexlaw17.RtoStarts'. -/
def rtoStartsUptoCard : Claim7 := { stood := { row := rtoStartsUptoRow, standIns := [], harness := (true, "9e24a7b6c9b0e6f16ff181d6908b9ea4d71ea64cb1e6d77b8db8773e241a5a92"), looks := false }, kinds := [], alts := [], laidByText := true, laidKinds := [.wider], laidTests := true, laidLooks := .later }
def RtoStartsUptoCardSaid : Prop := Claim7.holds Tryd.pinned (.plain (OpenSpec.upto rtoStartsSpec)) rtoStartsUptoCard

/-- THE SECOND FORM's CARD OF 'annexlaw17.RtoClosed'. -/
def rtoClosedUptoCard : Claim7 := { stood := { row := rtoClosedUptoRow, standIns := [], harness := (true, "9e24a7b6c9b0e6f16ff181d6908b9ea4d71ea64cb1e6d77b8db8773e241a5a92"), looks := false }, kinds := [], alts := [], laidByText := true, laidKinds := [.wider], laidTests := true, laidLooks := .later }
def RtoClosedUptoCardSaid : Prop := Claim7.holds Tryd.pinned (.plain (OpenSpec.upto rtoClosedSpec)) rtoClosedUptoCard

/-- THE SECOND FORM's CARD OF 'annexlaw17.RtoDoubles'. -/
def rtoDoublesUptoCard : Claim7 := { stood := { row := rtoDoublesUptoRow, standIns := [], harness := (true, "9e24a7b6c9b0e6f16ff181d6908b9ea4d71ea64cb1e6d77b8db8773e241a5a92"), looks := false }, kinds := [], alts := [], laidByText := true, laidKinds := [.wider], laidTests := true, laidLooks := .later }
def RtoDoublesUptoCardSaid : Prop := Claim7.holds Tryd.pinned (.plain (OpenSpec.upto rtoDoublesSpec)) rtoDoublesUptoCard

/-- THE SECOND FORM's CARD OF 'annexlaw17.RtoSamples'. -/
def rtoSamplesUptoCard : Claim7 := { stood := { row := rtoSamplesUptoRow, standIns := [], harness := (true, "9e24a7b6c9b0e6f16ff181d6908b9ea4d71ea64cb1e6d77b8db8773e241a5a92"), looks := false }, kinds := [], alts := [], laidByText := true, laidKinds := [.wider], laidTests := true, laidLooks := .later }
def RtoSamplesUptoCardSaid : Prop := Claim7.holds Tryd.pinned (.plain (OpenSpec.upto rtoSamplesSpec)) rtoSamplesUptoCard
end Rows
end Go.Proofs.YtjaheoccofcklaaDoor
