/-
  DERIVED. GIVEN WITH THE SEED: THE CARDS: each row of YtjpaooejkbkliaaDoorRows.lean that lists a variable, with what it lists TIED to the program's text (the seventh form; the later family's looks); each row that meets fmt, with fmt's text TOLD by the authors' own Lean function (tested against real Go, not proved from fmt's source: count such statements apart). THE CARD IS WHAT COUNTS. Prove the row's statement (the work); the ties are given (YtjpaooejkbkliaaDoorTie.lean); close each card by the builder's one call (the guide's Derived/Test/ToyasCard.lean, 'card_holds'). Laid BY PROGRAM, IN A SANDBOX (cutbox-door.mjs). By AI agents, Wed Nov 11 2026. No macro, syntax, notation, axiom, sorry.
-/
import Derived.Test.YtjpaooejkbkliaaDoorRows
import GoSem.ClaimSeven
namespace Go.Proofs.YtjpaooejkbkliaaDoor
namespace Rows

/-- THE TIED CARD OF 'annexlaw1.BitsNumbers'. -/
def bitsNumbersCard : Claim7 := { stood := { row := bitsNumbersRow, standIns := [], harness := (true, "76035a17c8d7a8d169b67c2daed34137e4cc5a225582007a3a4cfb68c66a9b09"), looks := true }, kinds := [], alts := [], laidByText := true, laidKinds := [.sentinel, .sentinel, .sentinel, .sentinel, .sentinel], laidTests := true, laidLooks := .later }
def BitsNumbersCardSaid : Prop := Claim7.holds Tryd.pinned (.plain (OpenSpec.ofChange bitsNumbersSpec)) bitsNumbersCard

/-- THE TIED CARD OF 'annexlaw1.BitsOneForm'. -/
def bitsOneFormCard : Claim7 := { stood := { row := bitsOneFormRow, standIns := [], harness := (true, "76035a17c8d7a8d169b67c2daed34137e4cc5a225582007a3a4cfb68c66a9b09"), looks := true }, kinds := [], alts := [], laidByText := true, laidKinds := [.sentinel, .sentinel, .sentinel, .sentinel, .sentinel], laidTests := true, laidLooks := .later }
def BitsOneFormCardSaid : Prop := Claim7.holds Tryd.pinned (.plain (OpenSpec.ofChange bitsOneFormSpec)) bitsOneFormCard

/-- THE TIED CARD OF 'annexlaw1.BitsCut'. -/
def bitsCutCard : Claim7 := { stood := { row := bitsCutRow, standIns := [], harness := (true, "76035a17c8d7a8d169b67c2daed34137e4cc5a225582007a3a4cfb68c66a9b09"), looks := true }, kinds := [], alts := [], laidByText := true, laidKinds := [.sentinel, .sentinel, .sentinel, .sentinel, .sentinel], laidTests := true, laidLooks := .later }
def BitsCutCardSaid : Prop := Claim7.holds Tryd.pinned (.plain (OpenSpec.ofChange bitsCutSpec)) bitsCutCard

/-- THE TIED CARD OF 'annexlaw1.BitsBack'. -/
def bitsBackCard : Claim7 := { stood := { row := bitsBackRow, standIns := [], harness := (true, "76035a17c8d7a8d169b67c2daed34137e4cc5a225582007a3a4cfb68c66a9b09"), looks := true }, kinds := [], alts := [], laidByText := true, laidKinds := [.sentinel, .sentinel, .sentinel, .sentinel, .sentinel], laidTests := true, laidLooks := .later }
def BitsBackCardSaid : Prop := Claim7.holds Tryd.pinned (.plain (OpenSpec.ofChange bitsBackSpec)) bitsBackCard

/-- THE TIED CARD OF 'annexlaw1.BitsPuts'. -/
def bitsPutsCard : Claim7 := { stood := { row := bitsPutsRow, standIns := [], harness := (true, "76035a17c8d7a8d169b67c2daed34137e4cc5a225582007a3a4cfb68c66a9b09"), looks := true }, kinds := [], alts := [], laidByText := true, laidKinds := [.sentinel, .sentinel, .sentinel, .sentinel, .sentinel], laidTests := true, laidLooks := .later }
def BitsPutsCardSaid : Prop := Claim7.holds Tryd.pinned (.plain (OpenSpec.ofChange bitsPutsSpec)) bitsPutsCard

/-- THE TIED CARD OF 'annexlaw1.BitsOwn'. -/
def bitsOwnCard : Claim7 := { stood := { row := bitsOwnRow, standIns := [], harness := (true, "76035a17c8d7a8d169b67c2daed34137e4cc5a225582007a3a4cfb68c66a9b09"), looks := true }, kinds := [], alts := [], laidByText := true, laidKinds := [.sentinel, .sentinel, .sentinel, .sentinel, .sentinel], laidTests := true, laidLooks := .later }
def BitsOwnCardSaid : Prop := Claim7.holds Tryd.pinned (.plain (OpenSpec.ofChange bitsOwnSpec)) bitsOwnCard

/-- THE SECOND FORM's CARD OF 'annexlaw1.BitsNumbers'. -/
def bitsNumbersUptoCard : Claim7 := { stood := { row := bitsNumbersUptoRow, standIns := [], harness := (true, "76035a17c8d7a8d169b67c2daed34137e4cc5a225582007a3a4cfb68c66a9b09"), looks := true }, kinds := [], alts := [], laidByText := true, laidKinds := [.sentinel, .sentinel, .sentinel, .sentinel, .sentinel], laidTests := true, laidLooks := .later }
def BitsNumbersUptoCardSaid : Prop := Claim7.holds Tryd.pinned (.plain (OpenSpec.upto bitsNumbersSpec)) bitsNumbersUptoCard

/-- THE SECOND FORM's CARD OF 'annexlaw1.BitsOneForm'. -/
def bitsOneFormUptoCard : Claim7 := { stood := { row := bitsOneFormUptoRow, standIns := [], harness := (true, "76035a17c8d7a8d169b67c2daed34137e4cc5a225582007a3a4cfb68c66a9b09"), looks := true }, kinds := [], alts := [], laidByText := true, laidKinds := [.sentinel, .sentinel, .sentinel, .sentinel, .sentinel], laidTests := true, laidLooks := .later }
def BitsOneFormUptoCardSaid : Prop := Claim7.holds Tryd.pinned (.plain (OpenSpec.upto bitsOneFormSpec)) bitsOneFormUptoCard

/-- THE SECOND FORM's CARD OF 'annexlaw1.BitsCut'. -/
def bitsCutUptoCard : Claim7 := { stood := { row := bitsCutUptoRow, standIns := [], harness := (true, "76035a17c8d7a8d169b67c2daed34137e4cc5a225582007a3a4cfb68c66a9b09"), looks := true }, kinds := [], alts := [], laidByText := true, laidKinds := [.sentinel, .sentinel, .sentinel, .sentinel, .sentinel], laidTests := true, laidLooks := .later }
def BitsCutUptoCardSaid : Prop := Claim7.holds Tryd.pinned (.plain (OpenSpec.upto bitsCutSpec)) bitsCutUptoCard

/-- THE SECOND FORM's CARD OF 'annexlaw1.BitsBack'. -/
def bitsBackUptoCard : Claim7 := { stood := { row := bitsBackUptoRow, standIns := [], harness := (true, "76035a17c8d7a8d169b67c2daed34137e4cc5a225582007a3a4cfb68c66a9b09"), looks := true }, kinds := [], alts := [], laidByText := true, laidKinds := [.sentinel, .sentinel, .sentinel, .sentinel, .sentinel], laidTests := true, laidLooks := .later }
def BitsBackUptoCardSaid : Prop := Claim7.holds Tryd.pinned (.plain (OpenSpec.upto bitsBackSpec)) bitsBackUptoCard

/-- THE SECOND FORM's CARD OF 'annexlaw1.BitsPuts'. -/
def bitsPutsUptoCard : Claim7 := { stood := { row := bitsPutsUptoRow, standIns := [], harness := (true, "76035a17c8d7a8d169b67c2daed34137e4cc5a225582007a3a4cfb68c66a9b09"), looks := true }, kinds := [], alts := [], laidByText := true, laidKinds := [.sentinel, .sentinel, .sentinel, .sentinel, .sentinel], laidTests := true, laidLooks := .later }
def BitsPutsUptoCardSaid : Prop := Claim7.holds Tryd.pinned (.plain (OpenSpec.upto bitsPutsSpec)) bitsPutsUptoCard

/-- THE SECOND FORM's CARD OF 'annexlaw1.BitsOwn'. -/
def bitsOwnUptoCard : Claim7 := { stood := { row := bitsOwnUptoRow, standIns := [], harness := (true, "76035a17c8d7a8d169b67c2daed34137e4cc5a225582007a3a4cfb68c66a9b09"), looks := true }, kinds := [], alts := [], laidByText := true, laidKinds := [.sentinel, .sentinel, .sentinel, .sentinel, .sentinel], laidTests := true, laidLooks := .later }
def BitsOwnUptoCardSaid : Prop := Claim7.holds Tryd.pinned (.plain (OpenSpec.upto bitsOwnSpec)) bitsOwnUptoCard
end Rows
end Go.Proofs.YtjpaooejkbkliaaDoor
