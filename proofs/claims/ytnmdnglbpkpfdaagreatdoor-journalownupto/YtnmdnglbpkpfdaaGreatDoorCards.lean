/-
  DERIVED. GIVEN WITH THE SEED: THE CARDS: each row of YtnmdnglbpkpfdaaGreatDoorRows.lean that lists a variable, with what it lists TIED to the program's text (the seventh form; the later family's looks); each row that meets fmt, with fmt's text TOLD by the authors' own Lean function (tested against real Go, not proved from fmt's source: count such statements apart). THE CARD IS WHAT COUNTS. Prove the row's statement (the work); the ties are given (YtnmdnglbpkpfdaaGreatDoorTie.lean); close each card by the builder's one call (the guide's Derived/Test/ToyasCard.lean, 'card_holds'). Laid BY PROGRAM, IN A SANDBOX (cutbox-door.mjs). By AI agents, Wed Nov 11 2026. No macro, syntax, notation, axiom, sorry.
-/
import Derived.Test.YtnmdnglbpkpfdaaGreatDoorRows
import GoSem.ClaimSeven
namespace Go.Proofs.YtnmdnglbpkpfdaaGreatDoor
namespace Rows

/-- THE TIED CARD OF 'annexlaw7.JournalSteps'. -/
def journalStepsCard : Claim7 := { stood := { row := journalStepsRow, standIns := [], harness := (true, "cdef72a3f3ec27d99d70980864bf9f4ae1c2d407f83b51fbe52da9ccb781ccbb"), looks := true }, kinds := [], alts := [], laidByText := true, laidKinds := [.handle, .sentinel, .sentinel, .sentinel, .sentinel, .sentinel], laidTests := true, laidLooks := .later }
def JournalStepsCardSaid : Prop := Claim7.holds Tryz.pinned (.plain (OpenSpec.ofChange journalStepsSpec)) journalStepsCard

/-- THE TIED CARD OF 'annexlaw7.JournalSaves'. -/
def journalSavesCard : Claim7 := { stood := { row := journalSavesRow, standIns := [], harness := (true, "cdef72a3f3ec27d99d70980864bf9f4ae1c2d407f83b51fbe52da9ccb781ccbb"), looks := true }, kinds := [], alts := [], laidByText := true, laidKinds := [.handle, .sentinel, .sentinel, .sentinel, .sentinel, .sentinel], laidTests := true, laidLooks := .later }
def JournalSavesCardSaid : Prop := Claim7.holds Tryz.pinned (.plain (OpenSpec.ofChange journalSavesSpec)) journalSavesCard

/-- THE TIED CARD OF 'annexlaw7.JournalEvery'. -/
def journalEveryCard : Claim7 := { stood := { row := journalEveryRow, standIns := [], harness := (true, "cdef72a3f3ec27d99d70980864bf9f4ae1c2d407f83b51fbe52da9ccb781ccbb"), looks := true }, kinds := [], alts := [], laidByText := true, laidKinds := [.handle, .sentinel, .sentinel, .sentinel, .sentinel, .sentinel], laidTests := true, laidLooks := .later }
def JournalEveryCardSaid : Prop := Claim7.holds Tryz.pinned (.plain (OpenSpec.ofChange journalEverySpec)) journalEveryCard

/-- THE TIED CARD OF 'annexlaw7.JournalWhole'. -/
def journalWholeCard : Claim7 := { stood := { row := journalWholeRow, standIns := [], harness := (true, "cdef72a3f3ec27d99d70980864bf9f4ae1c2d407f83b51fbe52da9ccb781ccbb"), looks := true }, kinds := [], alts := [], laidByText := true, laidKinds := [.handle, .sentinel, .sentinel, .sentinel, .sentinel, .sentinel], laidTests := true, laidLooks := .later }
def JournalWholeCardSaid : Prop := Claim7.holds Tryz.pinned (.plain (OpenSpec.ofChange journalWholeSpec)) journalWholeCard

/-- THE TIED CARD OF 'annexlaw7.JournalAgain'. -/
def journalAgainCard : Claim7 := { stood := { row := journalAgainRow, standIns := [], harness := (true, "cdef72a3f3ec27d99d70980864bf9f4ae1c2d407f83b51fbe52da9ccb781ccbb"), looks := true }, kinds := [], alts := [], laidByText := true, laidKinds := [.handle, .sentinel, .sentinel, .sentinel, .sentinel, .sentinel], laidTests := true, laidLooks := .later }
def JournalAgainCardSaid : Prop := Claim7.holds Tryz.pinned (.plain (OpenSpec.ofChange journalAgainSpec)) journalAgainCard

/-- THE TIED CARD OF 'annexlaw7.JournalOwn'. -/
def journalOwnCard : Claim7 := { stood := { row := journalOwnRow, standIns := [], harness := (true, "cdef72a3f3ec27d99d70980864bf9f4ae1c2d407f83b51fbe52da9ccb781ccbb"), looks := true }, kinds := [], alts := [], laidByText := true, laidKinds := [.handle, .sentinel, .sentinel, .sentinel, .sentinel, .sentinel], laidTests := true, laidLooks := .later }
def JournalOwnCardSaid : Prop := Claim7.holds Tryz.pinned (.plain (OpenSpec.ofChange journalOwnSpec)) journalOwnCard

/-- THE SECOND FORM's CARD OF 'annexlaw7.JournalSteps'. -/
def journalStepsUptoCard : Claim7 := { stood := { row := journalStepsUptoRow, standIns := [], harness := (true, "cdef72a3f3ec27d99d70980864bf9f4ae1c2d407f83b51fbe52da9ccb781ccbb"), looks := true }, kinds := [], alts := [], laidByText := true, laidKinds := [.handle, .sentinel, .sentinel, .sentinel, .sentinel, .sentinel], laidTests := true, laidLooks := .later }
def JournalStepsUptoCardSaid : Prop := Claim7.holds Tryz.pinned (.plain (OpenSpec.upto journalStepsSpec)) journalStepsUptoCard

/-- THE SECOND FORM's CARD OF 'annexlaw7.JournalSaves'. -/
def journalSavesUptoCard : Claim7 := { stood := { row := journalSavesUptoRow, standIns := [], harness := (true, "cdef72a3f3ec27d99d70980864bf9f4ae1c2d407f83b51fbe52da9ccb781ccbb"), looks := true }, kinds := [], alts := [], laidByText := true, laidKinds := [.handle, .sentinel, .sentinel, .sentinel, .sentinel, .sentinel], laidTests := true, laidLooks := .later }
def JournalSavesUptoCardSaid : Prop := Claim7.holds Tryz.pinned (.plain (OpenSpec.upto journalSavesSpec)) journalSavesUptoCard

/-- THE SECOND FORM's CARD OF 'annexlaw7.JournalEvery'. -/
def journalEveryUptoCard : Claim7 := { stood := { row := journalEveryUptoRow, standIns := [], harness := (true, "cdef72a3f3ec27d99d70980864bf9f4ae1c2d407f83b51fbe52da9ccb781ccbb"), looks := true }, kinds := [], alts := [], laidByText := true, laidKinds := [.handle, .sentinel, .sentinel, .sentinel, .sentinel, .sentinel], laidTests := true, laidLooks := .later }
def JournalEveryUptoCardSaid : Prop := Claim7.holds Tryz.pinned (.plain (OpenSpec.upto journalEverySpec)) journalEveryUptoCard

/-- THE SECOND FORM's CARD OF 'annexlaw7.JournalWhole'. -/
def journalWholeUptoCard : Claim7 := { stood := { row := journalWholeUptoRow, standIns := [], harness := (true, "cdef72a3f3ec27d99d70980864bf9f4ae1c2d407f83b51fbe52da9ccb781ccbb"), looks := true }, kinds := [], alts := [], laidByText := true, laidKinds := [.handle, .sentinel, .sentinel, .sentinel, .sentinel, .sentinel], laidTests := true, laidLooks := .later }
def JournalWholeUptoCardSaid : Prop := Claim7.holds Tryz.pinned (.plain (OpenSpec.upto journalWholeSpec)) journalWholeUptoCard

/-- THE SECOND FORM's CARD OF 'annexlaw7.JournalAgain'. -/
def journalAgainUptoCard : Claim7 := { stood := { row := journalAgainUptoRow, standIns := [], harness := (true, "cdef72a3f3ec27d99d70980864bf9f4ae1c2d407f83b51fbe52da9ccb781ccbb"), looks := true }, kinds := [], alts := [], laidByText := true, laidKinds := [.handle, .sentinel, .sentinel, .sentinel, .sentinel, .sentinel], laidTests := true, laidLooks := .later }
def JournalAgainUptoCardSaid : Prop := Claim7.holds Tryz.pinned (.plain (OpenSpec.upto journalAgainSpec)) journalAgainUptoCard

/-- THE SECOND FORM's CARD OF 'annexlaw7.JournalOwn'. -/
def journalOwnUptoCard : Claim7 := { stood := { row := journalOwnUptoRow, standIns := [], harness := (true, "cdef72a3f3ec27d99d70980864bf9f4ae1c2d407f83b51fbe52da9ccb781ccbb"), looks := true }, kinds := [], alts := [], laidByText := true, laidKinds := [.handle, .sentinel, .sentinel, .sentinel, .sentinel, .sentinel], laidTests := true, laidLooks := .later }
def JournalOwnUptoCardSaid : Prop := Claim7.holds Tryz.pinned (.plain (OpenSpec.upto journalOwnSpec)) journalOwnUptoCard
end Rows
end Go.Proofs.YtnmdnglbpkpfdaaGreatDoor
