/-
  NARROWER THAN 'FOR EVERY INPUT', by the rows' own cells (each row's printed sentence says how): MsgChecks: laid · MsgEncodes: laid · MsgOwn: laid · MsgDecodes: laid.
  DERIVED. THE GIVEN ROWS OF THIS SEAT. 4 by the template 'for every input the law returns true; each argument reads behind the call as it read before'; 0 by the template 'total and deterministic' (their statements: YtdkcplndplhblaaGreatDoorTotals.lean).
  GIVEN WITH THE SEED: the statements are not yours to turn. If you find one false, say at which input.
  Laid BY PROGRAM, IN A SANDBOX (cutbox-rows.mjs): the forced cells as the released guide's own fill.sh prints them over the translation 8c4cea1c7f7e9d7f… (all of the seat's roots in one cut). By AI agents, Wed Nov 11 2026. No macro, syntax, notation, axiom, sorry.
-/
import Derived.Test.YtdkcplndplhblaaGreatDoorChecked
import GoSem.Claim
import GoSem.ClaimJoined
import GoSem.ClaimMapViews
import Derived.JoinedTies
import Derived.KernelRfl
namespace Go.Proofs.YtdkcplndplhblaaGreatDoor
/- THE CELL 'sum', in the pinned program and in every row, IS THE sha256 OF THE DUMP (.gsa) THAT YtdkcplndplhblaaGreatDoorProg.lean LOADS. Nothing in Lean hashes anything: it is a label: what it is worth is what the hold of that sum in a sandbox is worth. -/
noncomputable def Tryz.pinned : Pinned := { name := "ytdkcplndplhblaagreatdoor", sum := "8c4cea1c7f7e9d7ff56eaabf6725c8d3ec8b84503bcf004084110132780a89b1", checked := Tryz.checked }
namespace Rows
def none {H : Type} : Left H := { results := [], args := [] }

/- WHAT THE LISTED PACKAGE-LEVEL VARIABLES READ AS WHEN THE CALL BEGINS. Each datum BY PROGRAM (the guide's laid-datum.mjs) off the statement by which the dump's own 'gosem.cut.vars' lays the variable. In a bare row this is a premise. The card (YtdkcplndplhblaaGreatDoorCards.lean) ties it to the program's text. -/
def laid_annex_bits_errShort {H : Type} : DataW H := .iface "*errors.errorString" (.ptr (.agg [.lit (.string [98, 105, 116, 115, 58, 32, 116, 111, 111, 32, 102, 101, 119, 32, 98, 121, 116, 101, 115])]))
def laid_annex_bits_errWide {H : Type} : DataW H := .iface "*errors.errorString" (.ptr (.agg [.lit (.string [98, 105, 116, 115, 58, 32, 97, 32, 110, 117, 109, 98, 101, 114, 32, 97, 98, 111, 118, 101, 32, 105, 116, 115, 32, 98, 111, 117, 110, 100])]))
def laid_annex_bits_errFlag {H : Type} : DataW H := .iface "*errors.errorString" (.ptr (.agg [.lit (.string [98, 105, 116, 115, 58, 32, 110, 101, 105, 116, 104, 101, 114, 32, 48, 32, 110, 111, 114, 32, 49])]))
def laid_annex_bits_errLong {H : Type} : DataW H := .iface "*errors.errorString" (.ptr (.agg [.lit (.string [98, 105, 116, 115, 58, 32, 97, 32, 116, 101, 120, 116, 32, 97, 98, 111, 118, 101, 32, 105, 116, 115, 32, 98, 111, 117, 110, 100])]))
def laid_annex_bits_errPad {H : Type} : DataW H := .iface "*errors.errorString" (.ptr (.agg [.lit (.string [98, 105, 116, 115, 58, 32, 112, 97, 100, 100, 105, 110, 103, 32, 116, 104, 97, 116, 32, 105, 115, 32, 110, 111, 116, 32, 122, 101, 114, 111])]))

/-- 'annexlaw4.MsgChecks': WHATEVER THE INPUT: true; the input reads as it did. -/
def msgChecksSpec : ChangeSpec := { name := "msgChecks", fn := fun _ => fun
  | [d1, d2] => { results := [.lit (.bool true)], args := [d1, d2] }
  | _ => none }
def msgChecksRow : OpenClaim := { program := "ytdkcplndplhblaagreatdoor", sum := "8c4cea1c7f7e9d7ff56eaabf6725c8d3ec8b84503bcf004084110132780a89b1", func := "annex/annexlaw4.MsgChecks", spec := "msgChecks", inPlace := ["internal/bytealg.IndexByteString", "internal/bytealg.IndexString", "internal/reflectlite.TypeOf"], unfollowed := true, recurses := true, named := ["internal/bytealg.MaxLen", "annex/bits.errShort", "annex/bits.errWide", "annex/bits.errFlag", "annex/bits.errLong", "annex/bits.errPad"], apart := false, laid := [("annex/bits.errShort", laid_annex_bits_errShort), ("annex/bits.errWide", laid_annex_bits_errWide), ("annex/bits.errFlag", laid_annex_bits_errFlag), ("annex/bits.errLong", laid_annex_bits_errLong), ("annex/bits.errPad", laid_annex_bits_errPad)] }
def MsgChecksSaid : Prop := msgChecksRow.holds Tryz.pinned (OpenSpec.ofChange msgChecksSpec)

/-- ITS FALSE NEIGHBOUR: 'it returns false'. Refute it at one input. -/
def msgChecksWrong : ChangeSpec := { name := "msgChecks", fn := fun _ => fun
  | [d1, d2] => { results := [.lit (.bool false)], args := [d1, d2] }
  | _ => none }
def MsgChecksWrongFalsely : Prop := msgChecksRow.holds Tryz.pinned (OpenSpec.ofChange msgChecksWrong)

/-- 'annexlaw4.MsgEncodes': WHATEVER THE INPUT: true; the input reads as it did. -/
def msgEncodesSpec : ChangeSpec := { name := "msgEncodes", fn := fun _ => fun
  | [d1, d2] => { results := [.lit (.bool true)], args := [d1, d2] }
  | _ => none }
def msgEncodesRow : OpenClaim := { program := "ytdkcplndplhblaagreatdoor", sum := "8c4cea1c7f7e9d7ff56eaabf6725c8d3ec8b84503bcf004084110132780a89b1", func := "annex/annexlaw4.MsgEncodes", spec := "msgEncodes", inPlace := ["internal/bytealg.IndexByteString", "internal/bytealg.IndexString", "internal/reflectlite.TypeOf"], unfollowed := true, recurses := true, named := ["internal/bytealg.MaxLen", "annex/bits.errShort", "annex/bits.errWide", "annex/bits.errFlag", "annex/bits.errLong", "annex/bits.errPad"], apart := false, laid := [("annex/bits.errShort", laid_annex_bits_errShort), ("annex/bits.errWide", laid_annex_bits_errWide), ("annex/bits.errFlag", laid_annex_bits_errFlag), ("annex/bits.errLong", laid_annex_bits_errLong), ("annex/bits.errPad", laid_annex_bits_errPad)] }
def MsgEncodesSaid : Prop := msgEncodesRow.holds Tryz.pinned (OpenSpec.ofChange msgEncodesSpec)

/-- ITS FALSE NEIGHBOUR: 'it returns false'. Refute it at one input. -/
def msgEncodesWrong : ChangeSpec := { name := "msgEncodes", fn := fun _ => fun
  | [d1, d2] => { results := [.lit (.bool false)], args := [d1, d2] }
  | _ => none }
def MsgEncodesWrongFalsely : Prop := msgEncodesRow.holds Tryz.pinned (OpenSpec.ofChange msgEncodesWrong)

/-- 'annexlaw4.MsgOwn': WHATEVER THE INPUT: true; the input reads as it did. -/
def msgOwnSpec : ChangeSpec := { name := "msgOwn", fn := fun _ => fun
  | [d1, d2] => { results := [.lit (.bool true)], args := [d1, d2] }
  | _ => none }
def msgOwnRow : OpenClaim := { program := "ytdkcplndplhblaagreatdoor", sum := "8c4cea1c7f7e9d7ff56eaabf6725c8d3ec8b84503bcf004084110132780a89b1", func := "annex/annexlaw4.MsgOwn", spec := "msgOwn", inPlace := ["internal/bytealg.IndexByteString", "internal/bytealg.IndexString", "internal/reflectlite.TypeOf"], unfollowed := true, recurses := true, named := ["internal/bytealg.MaxLen", "annex/bits.errShort", "annex/bits.errWide", "annex/bits.errFlag", "annex/bits.errLong", "annex/bits.errPad"], apart := false, laid := [("annex/bits.errShort", laid_annex_bits_errShort), ("annex/bits.errWide", laid_annex_bits_errWide), ("annex/bits.errFlag", laid_annex_bits_errFlag), ("annex/bits.errLong", laid_annex_bits_errLong), ("annex/bits.errPad", laid_annex_bits_errPad)] }
def MsgOwnSaid : Prop := msgOwnRow.holds Tryz.pinned (OpenSpec.ofChange msgOwnSpec)

/-- ITS FALSE NEIGHBOUR: 'it returns false'. Refute it at one input. -/
def msgOwnWrong : ChangeSpec := { name := "msgOwn", fn := fun _ => fun
  | [d1, d2] => { results := [.lit (.bool false)], args := [d1, d2] }
  | _ => none }
def MsgOwnWrongFalsely : Prop := msgOwnRow.holds Tryz.pinned (OpenSpec.ofChange msgOwnWrong)

/-- 'annexlaw4.MsgDecodes': WHATEVER THE INPUT: true; the input reads as it did. -/
def msgDecodesSpec : ChangeSpec := { name := "msgDecodes", fn := fun _ => fun
  | [d] => { results := [.lit (.bool true)], args := [d] }
  | _ => none }
def msgDecodesRow : OpenClaim := { program := "ytdkcplndplhblaagreatdoor", sum := "8c4cea1c7f7e9d7ff56eaabf6725c8d3ec8b84503bcf004084110132780a89b1", func := "annex/annexlaw4.MsgDecodes", spec := "msgDecodes", inPlace := ["internal/bytealg.IndexByteString", "internal/bytealg.IndexString", "internal/reflectlite.TypeOf"], unfollowed := true, recurses := true, named := ["internal/bytealg.MaxLen", "annex/bits.errShort", "annex/bits.errWide", "annex/bits.errFlag", "annex/bits.errLong", "annex/bits.errPad"], apart := false, laid := [("annex/bits.errShort", laid_annex_bits_errShort), ("annex/bits.errWide", laid_annex_bits_errWide), ("annex/bits.errFlag", laid_annex_bits_errFlag), ("annex/bits.errLong", laid_annex_bits_errLong), ("annex/bits.errPad", laid_annex_bits_errPad)] }
def MsgDecodesSaid : Prop := msgDecodesRow.holds Tryz.pinned (OpenSpec.ofChange msgDecodesSpec)

/-- ITS FALSE NEIGHBOUR: 'it returns false'. Refute it at one input. -/
def msgDecodesWrong : ChangeSpec := { name := "msgDecodes", fn := fun _ => fun
  | [d] => { results := [.lit (.bool false)], args := [d] }
  | _ => none }
def MsgDecodesWrongFalsely : Prop := msgDecodesRow.holds Tryz.pinned (OpenSpec.ofChange msgDecodesWrong)

/- THE SECOND FORM. 'bulk': how many values and letters a reading holds, each counted each time it is reached (what is shared counts as often as it is met; a slice's spare places count too). A statement '..UptoSaid' is the law's where the arguments, and the package variables that the reading takes, are together of bulk at most 1048576: NARROWER than '..Said'. Prove '..Said' where nothing that the law and all that it calls make is longer than what came in: it says more and counts as full. Else prove '..UptoSaid'. A law counts once. -/
mutual
def uptoBulk {H : Type} : DataW H → Nat
  | .lit (.string bytes) => bytes.length + 1
  | .lit _ => 1
  | .nil => 1
  | .ptr d => uptoBulk d + 1
  | .slice elems spare => uptoBulkAll elems + uptoBulkAll spare + 1
  | .agg parts => uptoBulkAll parts + 1
  | .iface _ d => uptoBulk d + 1
  | .map entries => uptoBulkEntries entries + 1
  | .held _ => 1
def uptoBulkAll {H : Type} : List (DataW H) → Nat
  | [] => 0
  | d :: r => uptoBulk d + uptoBulkAll r
def uptoBulkEntries {H : Type} : List (Lit × DataW H) → Nat
  | [] => 0
  | x :: r => uptoBulkEntry x + uptoBulkEntries r
def uptoBulkEntry {H : Type} : Lit × DataW H → Nat
  | (.string bytes, d) => bytes.length + uptoBulk d + 1
  | (_, d) => uptoBulk d + 1
 end
def uptoSmall : (H : Type) → List (DataW H) → Bool := fun _ ds => decide (uptoBulkAll ds ≤ 1048576)
def OpenSpec.upto (s : _root_.Go.ChangeSpec) : _root_.Go.OpenSpec := { _root_.Go.OpenSpec.ofChange s with cond := some uptoSmall }

/-- 'annexlaw4.MsgChecks', WHERE WHAT IT READS IS OF BULK AT MOST 1048576: true; the input reads as it did. -/
def msgChecksUptoRow : OpenClaim := { program := "ytdkcplndplhblaagreatdoor", sum := "8c4cea1c7f7e9d7ff56eaabf6725c8d3ec8b84503bcf004084110132780a89b1", func := "annex/annexlaw4.MsgChecks", spec := "msgChecks", inPlace := ["internal/bytealg.IndexByteString", "internal/bytealg.IndexString", "internal/reflectlite.TypeOf"], unfollowed := true, recurses := true, named := ["internal/bytealg.MaxLen", "annex/bits.errShort", "annex/bits.errWide", "annex/bits.errFlag", "annex/bits.errLong", "annex/bits.errPad"], apart := false, laid := [("annex/bits.errShort", laid_annex_bits_errShort), ("annex/bits.errWide", laid_annex_bits_errWide), ("annex/bits.errFlag", laid_annex_bits_errFlag), ("annex/bits.errLong", laid_annex_bits_errLong), ("annex/bits.errPad", laid_annex_bits_errPad)], narrowed := true }
def MsgChecksUptoSaid : Prop := msgChecksUptoRow.holds Tryz.pinned (OpenSpec.upto msgChecksSpec)

/-- 'annexlaw4.MsgEncodes', WHERE WHAT IT READS IS OF BULK AT MOST 1048576: true; the input reads as it did. -/
def msgEncodesUptoRow : OpenClaim := { program := "ytdkcplndplhblaagreatdoor", sum := "8c4cea1c7f7e9d7ff56eaabf6725c8d3ec8b84503bcf004084110132780a89b1", func := "annex/annexlaw4.MsgEncodes", spec := "msgEncodes", inPlace := ["internal/bytealg.IndexByteString", "internal/bytealg.IndexString", "internal/reflectlite.TypeOf"], unfollowed := true, recurses := true, named := ["internal/bytealg.MaxLen", "annex/bits.errShort", "annex/bits.errWide", "annex/bits.errFlag", "annex/bits.errLong", "annex/bits.errPad"], apart := false, laid := [("annex/bits.errShort", laid_annex_bits_errShort), ("annex/bits.errWide", laid_annex_bits_errWide), ("annex/bits.errFlag", laid_annex_bits_errFlag), ("annex/bits.errLong", laid_annex_bits_errLong), ("annex/bits.errPad", laid_annex_bits_errPad)], narrowed := true }
def MsgEncodesUptoSaid : Prop := msgEncodesUptoRow.holds Tryz.pinned (OpenSpec.upto msgEncodesSpec)

/-- 'annexlaw4.MsgOwn', WHERE WHAT IT READS IS OF BULK AT MOST 1048576: true; the input reads as it did. -/
def msgOwnUptoRow : OpenClaim := { program := "ytdkcplndplhblaagreatdoor", sum := "8c4cea1c7f7e9d7ff56eaabf6725c8d3ec8b84503bcf004084110132780a89b1", func := "annex/annexlaw4.MsgOwn", spec := "msgOwn", inPlace := ["internal/bytealg.IndexByteString", "internal/bytealg.IndexString", "internal/reflectlite.TypeOf"], unfollowed := true, recurses := true, named := ["internal/bytealg.MaxLen", "annex/bits.errShort", "annex/bits.errWide", "annex/bits.errFlag", "annex/bits.errLong", "annex/bits.errPad"], apart := false, laid := [("annex/bits.errShort", laid_annex_bits_errShort), ("annex/bits.errWide", laid_annex_bits_errWide), ("annex/bits.errFlag", laid_annex_bits_errFlag), ("annex/bits.errLong", laid_annex_bits_errLong), ("annex/bits.errPad", laid_annex_bits_errPad)], narrowed := true }
def MsgOwnUptoSaid : Prop := msgOwnUptoRow.holds Tryz.pinned (OpenSpec.upto msgOwnSpec)

/-- 'annexlaw4.MsgDecodes', WHERE WHAT IT READS IS OF BULK AT MOST 1048576: true; the input reads as it did. -/
def msgDecodesUptoRow : OpenClaim := { program := "ytdkcplndplhblaagreatdoor", sum := "8c4cea1c7f7e9d7ff56eaabf6725c8d3ec8b84503bcf004084110132780a89b1", func := "annex/annexlaw4.MsgDecodes", spec := "msgDecodes", inPlace := ["internal/bytealg.IndexByteString", "internal/bytealg.IndexString", "internal/reflectlite.TypeOf"], unfollowed := true, recurses := true, named := ["internal/bytealg.MaxLen", "annex/bits.errShort", "annex/bits.errWide", "annex/bits.errFlag", "annex/bits.errLong", "annex/bits.errPad"], apart := false, laid := [("annex/bits.errShort", laid_annex_bits_errShort), ("annex/bits.errWide", laid_annex_bits_errWide), ("annex/bits.errFlag", laid_annex_bits_errFlag), ("annex/bits.errLong", laid_annex_bits_errLong), ("annex/bits.errPad", laid_annex_bits_errPad)], narrowed := true }
def MsgDecodesUptoSaid : Prop := msgDecodesUptoRow.holds Tryz.pinned (OpenSpec.upto msgDecodesSpec)

end Rows
end Go.Proofs.YtdkcplndplhblaaGreatDoor
