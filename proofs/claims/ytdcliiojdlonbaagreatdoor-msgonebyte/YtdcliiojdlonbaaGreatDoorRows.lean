/-
  NARROWER THAN 'FOR EVERY INPUT', by the rows' own cells (each row's printed sentence says how): MsgUnlike: laid · MsgBack: laid · MsgOneForm: laid · MsgOneByte: laid · MsgSums: laid · MsgChecks: laid.
  DERIVED. THE GIVEN ROWS OF THIS SEAT. 6 by the template 'for every input the law returns true; each argument reads behind the call as it read before'; 0 by the template 'total and deterministic' (their statements: YtdcliiojdlonbaaGreatDoorTotals.lean).
  GIVEN WITH THE SEED: the statements are not yours to turn. If you find one false, say at which input.
  Laid BY PROGRAM, IN A SANDBOX (cutbox-rows.mjs): the forced cells as the released guide's own fill.sh prints them over the translation 7490c8ad3e79b8c9… (all of the seat's roots in one cut). By AI agents, Wed Nov 11 2026. No macro, syntax, notation, axiom, sorry.
-/
import Derived.Test.YtdcliiojdlonbaaGreatDoorChecked
import GoSem.Claim
import GoSem.ClaimJoined
import GoSem.ClaimMapViews
import Derived.JoinedTies
import Derived.KernelRfl
namespace Go.Proofs.YtdcliiojdlonbaaGreatDoor
/- THE CELL 'sum', in the pinned program and in every row, IS THE sha256 OF THE DUMP (.gsa) THAT YtdcliiojdlonbaaGreatDoorProg.lean LOADS. Nothing in Lean hashes anything: it is a label: what it is worth is what the hold of that sum in a sandbox is worth. -/
noncomputable def Tryz.pinned : Pinned := { name := "ytdcliiojdlonbaagreatdoor", sum := "7490c8ad3e79b8c9127420d67c0a78f1520ece721123d5b295e8b0235e869001", checked := Tryz.checked }
namespace Rows
def none {H : Type} : Left H := { results := [], args := [] }

/- WHAT THE LISTED PACKAGE-LEVEL VARIABLES READ AS WHEN THE CALL BEGINS. Each datum BY PROGRAM (the guide's laid-datum.mjs) off the statement by which the dump's own 'gosem.cut.vars' lays the variable. In a bare row this is a premise. The card (YtdcliiojdlonbaaGreatDoorCards.lean) ties it to the program's text. -/
def laid_annex_bits_errShort {H : Type} : DataW H := .iface "*errors.errorString" (.ptr (.agg [.lit (.string [98, 105, 116, 115, 58, 32, 116, 111, 111, 32, 102, 101, 119, 32, 98, 121, 116, 101, 115])]))
def laid_annex_bits_errWide {H : Type} : DataW H := .iface "*errors.errorString" (.ptr (.agg [.lit (.string [98, 105, 116, 115, 58, 32, 97, 32, 110, 117, 109, 98, 101, 114, 32, 97, 98, 111, 118, 101, 32, 105, 116, 115, 32, 98, 111, 117, 110, 100])]))
def laid_annex_bits_errFlag {H : Type} : DataW H := .iface "*errors.errorString" (.ptr (.agg [.lit (.string [98, 105, 116, 115, 58, 32, 110, 101, 105, 116, 104, 101, 114, 32, 48, 32, 110, 111, 114, 32, 49])]))
def laid_annex_bits_errLong {H : Type} : DataW H := .iface "*errors.errorString" (.ptr (.agg [.lit (.string [98, 105, 116, 115, 58, 32, 97, 32, 116, 101, 120, 116, 32, 97, 98, 111, 118, 101, 32, 105, 116, 115, 32, 98, 111, 117, 110, 100])]))
def laid_annex_bits_errPad {H : Type} : DataW H := .iface "*errors.errorString" (.ptr (.agg [.lit (.string [98, 105, 116, 115, 58, 32, 112, 97, 100, 100, 105, 110, 103, 32, 116, 104, 97, 116, 32, 105, 115, 32, 110, 111, 116, 32, 122, 101, 114, 111])]))

/-- 'annexlaw4.MsgUnlike': WHATEVER THE INPUT: true; the input reads as it did. -/
def msgUnlikeSpec : ChangeSpec := { name := "msgUnlike", fn := fun _ => fun
  | [d1, d2, d3, d4] => { results := [.lit (.bool true)], args := [d1, d2, d3, d4] }
  | _ => none }
def msgUnlikeRow : OpenClaim := { program := "ytdcliiojdlonbaagreatdoor", sum := "7490c8ad3e79b8c9127420d67c0a78f1520ece721123d5b295e8b0235e869001", func := "annex/annexlaw4.MsgUnlike", spec := "msgUnlike", inPlace := ["internal/bytealg.IndexByteString", "internal/bytealg.IndexString", "internal/reflectlite.TypeOf"], unfollowed := true, recurses := true, named := ["internal/bytealg.MaxLen", "annex/bits.errShort", "annex/bits.errWide", "annex/bits.errFlag", "annex/bits.errLong", "annex/bits.errPad"], apart := false, laid := [("annex/bits.errShort", laid_annex_bits_errShort), ("annex/bits.errWide", laid_annex_bits_errWide), ("annex/bits.errFlag", laid_annex_bits_errFlag), ("annex/bits.errLong", laid_annex_bits_errLong), ("annex/bits.errPad", laid_annex_bits_errPad)] }
def MsgUnlikeSaid : Prop := msgUnlikeRow.holds Tryz.pinned (OpenSpec.ofChange msgUnlikeSpec)

/-- ITS FALSE NEIGHBOUR: 'it returns false'. Refute it at one input. -/
def msgUnlikeWrong : ChangeSpec := { name := "msgUnlike", fn := fun _ => fun
  | [d1, d2, d3, d4] => { results := [.lit (.bool false)], args := [d1, d2, d3, d4] }
  | _ => none }
def MsgUnlikeWrongFalsely : Prop := msgUnlikeRow.holds Tryz.pinned (OpenSpec.ofChange msgUnlikeWrong)

/-- 'annexlaw4.MsgBack': WHATEVER THE INPUT: true; the input reads as it did. -/
def msgBackSpec : ChangeSpec := { name := "msgBack", fn := fun _ => fun
  | [d1, d2] => { results := [.lit (.bool true)], args := [d1, d2] }
  | _ => none }
def msgBackRow : OpenClaim := { program := "ytdcliiojdlonbaagreatdoor", sum := "7490c8ad3e79b8c9127420d67c0a78f1520ece721123d5b295e8b0235e869001", func := "annex/annexlaw4.MsgBack", spec := "msgBack", inPlace := ["internal/bytealg.IndexByteString", "internal/bytealg.IndexString", "internal/reflectlite.TypeOf"], unfollowed := true, recurses := true, named := ["internal/bytealg.MaxLen", "annex/bits.errShort", "annex/bits.errWide", "annex/bits.errFlag", "annex/bits.errLong", "annex/bits.errPad"], apart := false, laid := [("annex/bits.errShort", laid_annex_bits_errShort), ("annex/bits.errWide", laid_annex_bits_errWide), ("annex/bits.errFlag", laid_annex_bits_errFlag), ("annex/bits.errLong", laid_annex_bits_errLong), ("annex/bits.errPad", laid_annex_bits_errPad)] }
def MsgBackSaid : Prop := msgBackRow.holds Tryz.pinned (OpenSpec.ofChange msgBackSpec)

/-- ITS FALSE NEIGHBOUR: 'it returns false'. Refute it at one input. -/
def msgBackWrong : ChangeSpec := { name := "msgBack", fn := fun _ => fun
  | [d1, d2] => { results := [.lit (.bool false)], args := [d1, d2] }
  | _ => none }
def MsgBackWrongFalsely : Prop := msgBackRow.holds Tryz.pinned (OpenSpec.ofChange msgBackWrong)

/-- 'annexlaw4.MsgOneForm': WHATEVER THE INPUT: true; the input reads as it did. -/
def msgOneFormSpec : ChangeSpec := { name := "msgOneForm", fn := fun _ => fun
  | [d] => { results := [.lit (.bool true)], args := [d] }
  | _ => none }
def msgOneFormRow : OpenClaim := { program := "ytdcliiojdlonbaagreatdoor", sum := "7490c8ad3e79b8c9127420d67c0a78f1520ece721123d5b295e8b0235e869001", func := "annex/annexlaw4.MsgOneForm", spec := "msgOneForm", inPlace := ["internal/bytealg.IndexByteString", "internal/bytealg.IndexString", "internal/reflectlite.TypeOf"], unfollowed := true, recurses := true, named := ["internal/bytealg.MaxLen", "annex/bits.errShort", "annex/bits.errWide", "annex/bits.errFlag", "annex/bits.errLong", "annex/bits.errPad"], apart := false, laid := [("annex/bits.errShort", laid_annex_bits_errShort), ("annex/bits.errWide", laid_annex_bits_errWide), ("annex/bits.errFlag", laid_annex_bits_errFlag), ("annex/bits.errLong", laid_annex_bits_errLong), ("annex/bits.errPad", laid_annex_bits_errPad)] }
def MsgOneFormSaid : Prop := msgOneFormRow.holds Tryz.pinned (OpenSpec.ofChange msgOneFormSpec)

/-- ITS FALSE NEIGHBOUR: 'it returns false'. Refute it at one input. -/
def msgOneFormWrong : ChangeSpec := { name := "msgOneForm", fn := fun _ => fun
  | [d] => { results := [.lit (.bool false)], args := [d] }
  | _ => none }
def MsgOneFormWrongFalsely : Prop := msgOneFormRow.holds Tryz.pinned (OpenSpec.ofChange msgOneFormWrong)

/-- 'annexlaw4.MsgOneByte': WHATEVER THE INPUT: true; the input reads as it did. -/
def msgOneByteSpec : ChangeSpec := { name := "msgOneByte", fn := fun _ => fun
  | [d1, d2, d3, d4] => { results := [.lit (.bool true)], args := [d1, d2, d3, d4] }
  | _ => none }
def msgOneByteRow : OpenClaim := { program := "ytdcliiojdlonbaagreatdoor", sum := "7490c8ad3e79b8c9127420d67c0a78f1520ece721123d5b295e8b0235e869001", func := "annex/annexlaw4.MsgOneByte", spec := "msgOneByte", inPlace := ["internal/bytealg.IndexByteString", "internal/bytealg.IndexString", "internal/reflectlite.TypeOf"], unfollowed := true, recurses := true, named := ["internal/bytealg.MaxLen", "annex/bits.errShort", "annex/bits.errWide", "annex/bits.errFlag", "annex/bits.errLong", "annex/bits.errPad"], apart := false, laid := [("annex/bits.errShort", laid_annex_bits_errShort), ("annex/bits.errWide", laid_annex_bits_errWide), ("annex/bits.errFlag", laid_annex_bits_errFlag), ("annex/bits.errLong", laid_annex_bits_errLong), ("annex/bits.errPad", laid_annex_bits_errPad)] }
def MsgOneByteSaid : Prop := msgOneByteRow.holds Tryz.pinned (OpenSpec.ofChange msgOneByteSpec)

/-- ITS FALSE NEIGHBOUR: 'it returns false'. Refute it at one input. -/
def msgOneByteWrong : ChangeSpec := { name := "msgOneByte", fn := fun _ => fun
  | [d1, d2, d3, d4] => { results := [.lit (.bool false)], args := [d1, d2, d3, d4] }
  | _ => none }
def MsgOneByteWrongFalsely : Prop := msgOneByteRow.holds Tryz.pinned (OpenSpec.ofChange msgOneByteWrong)

/-- 'annexlaw4.MsgSums': WHATEVER THE INPUT: true; the input reads as it did. -/
def msgSumsSpec : ChangeSpec := { name := "msgSums", fn := fun _ => fun
  | [d1, d2] => { results := [.lit (.bool true)], args := [d1, d2] }
  | _ => none }
def msgSumsRow : OpenClaim := { program := "ytdcliiojdlonbaagreatdoor", sum := "7490c8ad3e79b8c9127420d67c0a78f1520ece721123d5b295e8b0235e869001", func := "annex/annexlaw4.MsgSums", spec := "msgSums", inPlace := ["internal/bytealg.IndexByteString", "internal/bytealg.IndexString", "internal/reflectlite.TypeOf"], unfollowed := true, recurses := true, named := ["internal/bytealg.MaxLen", "annex/bits.errShort", "annex/bits.errWide", "annex/bits.errFlag", "annex/bits.errLong", "annex/bits.errPad"], apart := false, laid := [("annex/bits.errShort", laid_annex_bits_errShort), ("annex/bits.errWide", laid_annex_bits_errWide), ("annex/bits.errFlag", laid_annex_bits_errFlag), ("annex/bits.errLong", laid_annex_bits_errLong), ("annex/bits.errPad", laid_annex_bits_errPad)] }
def MsgSumsSaid : Prop := msgSumsRow.holds Tryz.pinned (OpenSpec.ofChange msgSumsSpec)

/-- ITS FALSE NEIGHBOUR: 'it returns false'. Refute it at one input. -/
def msgSumsWrong : ChangeSpec := { name := "msgSums", fn := fun _ => fun
  | [d1, d2] => { results := [.lit (.bool false)], args := [d1, d2] }
  | _ => none }
def MsgSumsWrongFalsely : Prop := msgSumsRow.holds Tryz.pinned (OpenSpec.ofChange msgSumsWrong)

/-- 'annexlaw4.MsgChecks': WHATEVER THE INPUT: true; the input reads as it did. -/
def msgChecksSpec : ChangeSpec := { name := "msgChecks", fn := fun _ => fun
  | [d1, d2] => { results := [.lit (.bool true)], args := [d1, d2] }
  | _ => none }
def msgChecksRow : OpenClaim := { program := "ytdcliiojdlonbaagreatdoor", sum := "7490c8ad3e79b8c9127420d67c0a78f1520ece721123d5b295e8b0235e869001", func := "annex/annexlaw4.MsgChecks", spec := "msgChecks", inPlace := ["internal/bytealg.IndexByteString", "internal/bytealg.IndexString", "internal/reflectlite.TypeOf"], unfollowed := true, recurses := true, named := ["internal/bytealg.MaxLen", "annex/bits.errShort", "annex/bits.errWide", "annex/bits.errFlag", "annex/bits.errLong", "annex/bits.errPad"], apart := false, laid := [("annex/bits.errShort", laid_annex_bits_errShort), ("annex/bits.errWide", laid_annex_bits_errWide), ("annex/bits.errFlag", laid_annex_bits_errFlag), ("annex/bits.errLong", laid_annex_bits_errLong), ("annex/bits.errPad", laid_annex_bits_errPad)] }
def MsgChecksSaid : Prop := msgChecksRow.holds Tryz.pinned (OpenSpec.ofChange msgChecksSpec)

/-- ITS FALSE NEIGHBOUR: 'it returns false'. Refute it at one input. -/
def msgChecksWrong : ChangeSpec := { name := "msgChecks", fn := fun _ => fun
  | [d1, d2] => { results := [.lit (.bool false)], args := [d1, d2] }
  | _ => none }
def MsgChecksWrongFalsely : Prop := msgChecksRow.holds Tryz.pinned (OpenSpec.ofChange msgChecksWrong)

/- THE SECOND FORM. 'bulk': how many values and letters a reading holds, each counted each time it is reached (what is shared counts as often as it is met; a slice's spare places count too). A statement '..UptoSaid' is the law's where the arguments, and the package variables that the reading takes, are together of bulk at most 1048576: NARROWER than '..Said'. Prove '..Said' where nothing that the law and all that it calls make is longer than what came in: it says more and counts as full. Else prove '..UptoSaid'. A law counts once. -/
mutual
def uptoBulk {H : Type} : DataW H → Nat
  | .lit (.string bytes) => bytes.length + 1
  | .lit _ => 1
  | .nil => 1
  | .ptr d => uptoBulk d + 1
  | .slice elems spare => uptoBulkAll elems + uptoBulkAll spare + 1
  | .agg parts => uptoBulkAll parts + 1
  | .iface _ d => uptoBulk d + 1
  | .map entries => uptoBulkEntries entries + 1
  | .held _ => 1
def uptoBulkAll {H : Type} : List (DataW H) → Nat
  | [] => 0
  | d :: r => uptoBulk d + uptoBulkAll r
def uptoBulkEntries {H : Type} : List (Lit × DataW H) → Nat
  | [] => 0
  | x :: r => uptoBulkEntry x + uptoBulkEntries r
def uptoBulkEntry {H : Type} : Lit × DataW H → Nat
  | (.string bytes, d) => bytes.length + uptoBulk d + 1
  | (_, d) => uptoBulk d + 1
 end
def uptoSmall : (H : Type) → List (DataW H) → Bool := fun _ ds => decide (uptoBulkAll ds ≤ 1048576)
def OpenSpec.upto (s : _root_.Go.ChangeSpec) : _root_.Go.OpenSpec := { _root_.Go.OpenSpec.ofChange s with cond := some uptoSmall }

/-- 'annexlaw4.MsgUnlike', WHERE WHAT IT READS IS OF BULK AT MOST 1048576: true; the input reads as it did. -/
def msgUnlikeUptoRow : OpenClaim := { program := "ytdcliiojdlonbaagreatdoor", sum := "7490c8ad3e79b8c9127420d67c0a78f1520ece721123d5b295e8b0235e869001", func := "annex/annexlaw4.MsgUnlike", spec := "msgUnlike", inPlace := ["internal/bytealg.IndexByteString", "internal/bytealg.IndexString", "internal/reflectlite.TypeOf"], unfollowed := true, recurses := true, named := ["internal/bytealg.MaxLen", "annex/bits.errShort", "annex/bits.errWide", "annex/bits.errFlag", "annex/bits.errLong", "annex/bits.errPad"], apart := false, laid := [("annex/bits.errShort", laid_annex_bits_errShort), ("annex/bits.errWide", laid_annex_bits_errWide), ("annex/bits.errFlag", laid_annex_bits_errFlag), ("annex/bits.errLong", laid_annex_bits_errLong), ("annex/bits.errPad", laid_annex_bits_errPad)], narrowed := true }
def MsgUnlikeUptoSaid : Prop := msgUnlikeUptoRow.holds Tryz.pinned (OpenSpec.upto msgUnlikeSpec)

/-- 'annexlaw4.MsgBack', WHERE WHAT IT READS IS OF BULK AT MOST 1048576: true; the input reads as it did. -/
def msgBackUptoRow : OpenClaim := { program := "ytdcliiojdlonbaagreatdoor", sum := "7490c8ad3e79b8c9127420d67c0a78f1520ece721123d5b295e8b0235e869001", func := "annex/annexlaw4.MsgBack", spec := "msgBack", inPlace := ["internal/bytealg.IndexByteString", "internal/bytealg.IndexString", "internal/reflectlite.TypeOf"], unfollowed := true, recurses := true, named := ["internal/bytealg.MaxLen", "annex/bits.errShort", "annex/bits.errWide", "annex/bits.errFlag", "annex/bits.errLong", "annex/bits.errPad"], apart := false, laid := [("annex/bits.errShort", laid_annex_bits_errShort), ("annex/bits.errWide", laid_annex_bits_errWide), ("annex/bits.errFlag", laid_annex_bits_errFlag), ("annex/bits.errLong", laid_annex_bits_errLong), ("annex/bits.errPad", laid_annex_bits_errPad)], narrowed := true }
def MsgBackUptoSaid : Prop := msgBackUptoRow.holds Tryz.pinned (OpenSpec.upto msgBackSpec)

/-- 'annexlaw4.MsgOneForm', WHERE WHAT IT READS IS OF BULK AT MOST 1048576: true; the input reads as it did. -/
def msgOneFormUptoRow : OpenClaim := { program := "ytdcliiojdlonbaagreatdoor", sum := "7490c8ad3e79b8c9127420d67c0a78f1520ece721123d5b295e8b0235e869001", func := "annex/annexlaw4.MsgOneForm", spec := "msgOneForm", inPlace := ["internal/bytealg.IndexByteString", "internal/bytealg.IndexString", "internal/reflectlite.TypeOf"], unfollowed := true, recurses := true, named := ["internal/bytealg.MaxLen", "annex/bits.errShort", "annex/bits.errWide", "annex/bits.errFlag", "annex/bits.errLong", "annex/bits.errPad"], apart := false, laid := [("annex/bits.errShort", laid_annex_bits_errShort), ("annex/bits.errWide", laid_annex_bits_errWide), ("annex/bits.errFlag", laid_annex_bits_errFlag), ("annex/bits.errLong", laid_annex_bits_errLong), ("annex/bits.errPad", laid_annex_bits_errPad)], narrowed := true }
def MsgOneFormUptoSaid : Prop := msgOneFormUptoRow.holds Tryz.pinned (OpenSpec.upto msgOneFormSpec)

/-- 'annexlaw4.MsgOneByte', WHERE WHAT IT READS IS OF BULK AT MOST 1048576: true; the input reads as it did. -/
def msgOneByteUptoRow : OpenClaim := { program := "ytdcliiojdlonbaagreatdoor", sum := "7490c8ad3e79b8c9127420d67c0a78f1520ece721123d5b295e8b0235e869001", func := "annex/annexlaw4.MsgOneByte", spec := "msgOneByte", inPlace := ["internal/bytealg.IndexByteString", "internal/bytealg.IndexString", "internal/reflectlite.TypeOf"], unfollowed := true, recurses := true, named := ["internal/bytealg.MaxLen", "annex/bits.errShort", "annex/bits.errWide", "annex/bits.errFlag", "annex/bits.errLong", "annex/bits.errPad"], apart := false, laid := [("annex/bits.errShort", laid_annex_bits_errShort), ("annex/bits.errWide", laid_annex_bits_errWide), ("annex/bits.errFlag", laid_annex_bits_errFlag), ("annex/bits.errLong", laid_annex_bits_errLong), ("annex/bits.errPad", laid_annex_bits_errPad)], narrowed := true }
def MsgOneByteUptoSaid : Prop := msgOneByteUptoRow.holds Tryz.pinned (OpenSpec.upto msgOneByteSpec)

/-- 'annexlaw4.MsgSums', WHERE WHAT IT READS IS OF BULK AT MOST 1048576: true; the input reads as it did. -/
def msgSumsUptoRow : OpenClaim := { program := "ytdcliiojdlonbaagreatdoor", sum := "7490c8ad3e79b8c9127420d67c0a78f1520ece721123d5b295e8b0235e869001", func := "annex/annexlaw4.MsgSums", spec := "msgSums", inPlace := ["internal/bytealg.IndexByteString", "internal/bytealg.IndexString", "internal/reflectlite.TypeOf"], unfollowed := true, recurses := true, named := ["internal/bytealg.MaxLen", "annex/bits.errShort", "annex/bits.errWide", "annex/bits.errFlag", "annex/bits.errLong", "annex/bits.errPad"], apart := false, laid := [("annex/bits.errShort", laid_annex_bits_errShort), ("annex/bits.errWide", laid_annex_bits_errWide), ("annex/bits.errFlag", laid_annex_bits_errFlag), ("annex/bits.errLong", laid_annex_bits_errLong), ("annex/bits.errPad", laid_annex_bits_errPad)], narrowed := true }
def MsgSumsUptoSaid : Prop := msgSumsUptoRow.holds Tryz.pinned (OpenSpec.upto msgSumsSpec)

/-- 'annexlaw4.MsgChecks', WHERE WHAT IT READS IS OF BULK AT MOST 1048576: true; the input reads as it did. -/
def msgChecksUptoRow : OpenClaim := { program := "ytdcliiojdlonbaagreatdoor", sum := "7490c8ad3e79b8c9127420d67c0a78f1520ece721123d5b295e8b0235e869001", func := "annex/annexlaw4.MsgChecks", spec := "msgChecks", inPlace := ["internal/bytealg.IndexByteString", "internal/bytealg.IndexString", "internal/reflectlite.TypeOf"], unfollowed := true, recurses := true, named := ["internal/bytealg.MaxLen", "annex/bits.errShort", "annex/bits.errWide", "annex/bits.errFlag", "annex/bits.errLong", "annex/bits.errPad"], apart := false, laid := [("annex/bits.errShort", laid_annex_bits_errShort), ("annex/bits.errWide", laid_annex_bits_errWide), ("annex/bits.errFlag", laid_annex_bits_errFlag), ("annex/bits.errLong", laid_annex_bits_errLong), ("annex/bits.errPad", laid_annex_bits_errPad)], narrowed := true }
def MsgChecksUptoSaid : Prop := msgChecksUptoRow.holds Tryz.pinned (OpenSpec.upto msgChecksSpec)

end Rows
end Go.Proofs.YtdcliiojdlonbaaGreatDoor
