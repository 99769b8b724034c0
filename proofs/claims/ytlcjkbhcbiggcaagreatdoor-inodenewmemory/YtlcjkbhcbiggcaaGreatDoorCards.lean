/-
  DERIVED. GIVEN WITH THE SEED: THE CARDS: each row of YtlcjkbhcbiggcaaGreatDoorRows.lean that lists a variable, with what it lists TIED to the program's text (the seventh form; the later family's looks); each row that meets fmt, with fmt's text TOLD by the authors' own Lean function (tested against real Go, not proved from fmt's source: count such statements apart). THE CARD IS WHAT COUNTS. Prove the row's statement (the work); the ties are given (YtlcjkbhcbiggcaaGreatDoorTie.lean); close each card by the builder's one call (the guide's Derived/Test/ToyasCard.lean, 'card_holds'). Laid BY PROGRAM, IN A SANDBOX (cutbox-door.mjs). By AI agents, Wed Nov 11 2026. No macro, syntax, notation, axiom, sorry.
-/
import Derived.Test.YtlcjkbhcbiggcaaGreatDoorRows
import GoSem.ClaimSeven
namespace Go.Proofs.YtlcjkbhcbiggcaaGreatDoor
namespace Rows

/-- THE TIED CARD OF 'annexlaw9.InodeNewMemory'. -/
def inodeNewMemoryCard : Claim7 := { stood := { row := inodeNewMemoryRow, standIns := [], harness := (true, "5a7ae8ec220fa7da8413e65bcb120b35669cef42e1c88bc23ac438e453c60c20"), looks := true }, kinds := [], alts := [], laidByText := true, laidKinds := [.handle, .sentinel, .sentinel, .sentinel, .sentinel, .sentinel, .data], laidTests := true, laidLooks := .later }
def InodeNewMemoryCardSaid : Prop := Claim7.holds Tryz.pinned (.plain (OpenSpec.ofChange inodeNewMemorySpec)) inodeNewMemoryCard

/-- THE TIED CARD OF 'annexlaw9.InodeLast'. -/
def inodeLastCard : Claim7 := { stood := { row := inodeLastRow, standIns := [], harness := (true, "5a7ae8ec220fa7da8413e65bcb120b35669cef42e1c88bc23ac438e453c60c20"), looks := true }, kinds := [], alts := [], laidByText := true, laidKinds := [.handle, .sentinel, .sentinel, .sentinel, .sentinel, .sentinel, .data], laidTests := true, laidLooks := .later }
def InodeLastCardSaid : Prop := Claim7.holds Tryz.pinned (.plain (OpenSpec.ofChange inodeLastSpec)) inodeLastCard

/-- THE TIED CARD OF 'annexlaw9.InodeModel'. -/
def inodeModelCard : Claim7 := { stood := { row := inodeModelRow, standIns := [], harness := (true, "5a7ae8ec220fa7da8413e65bcb120b35669cef42e1c88bc23ac438e453c60c20"), looks := true }, kinds := [], alts := [], laidByText := true, laidKinds := [.handle, .sentinel, .sentinel, .sentinel, .sentinel, .sentinel, .data], laidTests := true, laidLooks := .later }
def InodeModelCardSaid : Prop := Claim7.holds Tryz.pinned (.plain (OpenSpec.ofChange inodeModelSpec)) inodeModelCard

/-- THE TIED CARD OF 'annexlaw9.InodeUndone'. -/
def inodeUndoneCard : Claim7 := { stood := { row := inodeUndoneRow, standIns := [], harness := (true, "5a7ae8ec220fa7da8413e65bcb120b35669cef42e1c88bc23ac438e453c60c20"), looks := true }, kinds := [], alts := [], laidByText := true, laidKinds := [.handle, .sentinel, .sentinel, .sentinel, .sentinel, .sentinel, .data], laidTests := true, laidLooks := .later }
def InodeUndoneCardSaid : Prop := Claim7.holds Tryz.pinned (.plain (OpenSpec.ofChange inodeUndoneSpec)) inodeUndoneCard

/-- THE TIED CARD OF 'annexlaw9.InodeApart'. -/
def inodeApartCard : Claim7 := { stood := { row := inodeApartRow, standIns := [], harness := (true, "5a7ae8ec220fa7da8413e65bcb120b35669cef42e1c88bc23ac438e453c60c20"), looks := true }, kinds := [], alts := [], laidByText := true, laidKinds := [.handle, .sentinel, .sentinel, .sentinel, .sentinel, .sentinel, .data], laidTests := true, laidLooks := .later }
def InodeApartCardSaid : Prop := Claim7.holds Tryz.pinned (.plain (OpenSpec.ofChange inodeApartSpec)) inodeApartCard

/-- THE SECOND FORM's CARD OF 'annexlaw9.InodeNewMemory'. -/
def inodeNewMemoryUptoCard : Claim7 := { stood := { row := inodeNewMemoryUptoRow, standIns := [], harness := (true, "5a7ae8ec220fa7da8413e65bcb120b35669cef42e1c88bc23ac438e453c60c20"), looks := true }, kinds := [], alts := [], laidByText := true, laidKinds := [.handle, .sentinel, .sentinel, .sentinel, .sentinel, .sentinel, .data], laidTests := true, laidLooks := .later }
def InodeNewMemoryUptoCardSaid : Prop := Claim7.holds Tryz.pinned (.plain (OpenSpec.upto inodeNewMemorySpec)) inodeNewMemoryUptoCard

/-- THE SECOND FORM's CARD OF 'annexlaw9.InodeLast'. -/
def inodeLastUptoCard : Claim7 := { stood := { row := inodeLastUptoRow, standIns := [], harness := (true, "5a7ae8ec220fa7da8413e65bcb120b35669cef42e1c88bc23ac438e453c60c20"), looks := true }, kinds := [], alts := [], laidByText := true, laidKinds := [.handle, .sentinel, .sentinel, .sentinel, .sentinel, .sentinel, .data], laidTests := true, laidLooks := .later }
def InodeLastUptoCardSaid : Prop := Claim7.holds Tryz.pinned (.plain (OpenSpec.upto inodeLastSpec)) inodeLastUptoCard

/-- THE SECOND FORM's CARD OF 'annexlaw9.InodeModel'. -/
def inodeModelUptoCard : Claim7 := { stood := { row := inodeModelUptoRow, standIns := [], harness := (true, "5a7ae8ec220fa7da8413e65bcb120b35669cef42e1c88bc23ac438e453c60c20"), looks := true }, kinds := [], alts := [], laidByText := true, laidKinds := [.handle, .sentinel, .sentinel, .sentinel, .sentinel, .sentinel, .data], laidTests := true, laidLooks := .later }
def InodeModelUptoCardSaid : Prop := Claim7.holds Tryz.pinned (.plain (OpenSpec.upto inodeModelSpec)) inodeModelUptoCard

/-- THE SECOND FORM's CARD OF 'annexlaw9.InodeUndone'. -/
def inodeUndoneUptoCard : Claim7 := { stood := { row := inodeUndoneUptoRow, standIns := [], harness := (true, "5a7ae8ec220fa7da8413e65bcb120b35669cef42e1c88bc23ac438e453c60c20"), looks := true }, kinds := [], alts := [], laidByText := true, laidKinds := [.handle, .sentinel, .sentinel, .sentinel, .sentinel, .sentinel, .data], laidTests := true, laidLooks := .later }
def InodeUndoneUptoCardSaid : Prop := Claim7.holds Tryz.pinned (.plain (OpenSpec.upto inodeUndoneSpec)) inodeUndoneUptoCard

/-- THE SECOND FORM's CARD OF 'annexlaw9.InodeApart'. -/
def inodeApartUptoCard : Claim7 := { stood := { row := inodeApartUptoRow, standIns := [], harness := (true, "5a7ae8ec220fa7da8413e65bcb120b35669cef42e1c88bc23ac438e453c60c20"), looks := true }, kinds := [], alts := [], laidByText := true, laidKinds := [.handle, .sentinel, .sentinel, .sentinel, .sentinel, .sentinel, .data], laidTests := true, laidLooks := .later }
def InodeApartUptoCardSaid : Prop := Claim7.holds Tryz.pinned (.plain (OpenSpec.upto inodeApartSpec)) inodeApartUptoCard
end Rows
end Go.Proofs.YtlcjkbhcbiggcaaGreatDoor
