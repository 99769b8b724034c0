/-
  NARROWER THAN 'FOR EVERY INPUT', by the rows' own cells (each row's printed sentence says how): PlanNewMemory: laid · PlanWheres: laid · PlanSupers: laid · PlanReads: laid.
  DERIVED. THE GIVEN ROWS OF THIS SEAT. 4 by the template 'for every input the law returns true; each argument reads behind the call as it read before'; 0 by the template 'total and deterministic' (their statements: YtgpeefedboomoabDoorTotals.lean).
  GIVEN WITH THE SEED: the statements are not yours to turn. If you find one false, say at which input.
  Laid BY PROGRAM, IN A SANDBOX (cutbox-rows.mjs): the forced cells as the released guide's own fill.sh prints them over the translation 6d4997c025ba33a2… (all of the seat's roots in one cut). By AI agents, Wed Nov 11 2026. No macro, syntax, notation, axiom, sorry.
-/
import Derived.Test.YtgpeefedboomoabDoorChecked
import GoSem.Claim
import GoSem.ClaimJoined
import GoSem.ClaimMapViews
import Derived.JoinedTies
import Derived.KernelRfl
namespace Go.Proofs.YtgpeefedboomoabDoor
/- THE CELL 'sum', in the pinned program and in every row, IS THE sha256 OF THE DUMP (.gsa) THAT YtgpeefedboomoabDoorProg.lean LOADS. Nothing in Lean hashes anything: it is a label: what it is worth is what the hold of that sum in a sandbox is worth. -/
noncomputable def Tryd.pinned : Pinned := { name := "ytgpeefedboomoabdoor", sum := "6d4997c025ba33a2cefa2b9afaeae1f77ef0d1dbac3c6f058061fbf19306df10", checked := Tryd.checked }
namespace Rows
def none {H : Type} : Left H := { results := [], args := [] }

/- WHAT THE LISTED PACKAGE-LEVEL VARIABLES READ AS WHEN THE CALL BEGINS. Each datum BY PROGRAM (the guide's laid-datum.mjs) off the statement by which the dump's own 'gosem.cut.vars' lays the variable. In a bare row this is a premise. The card (YtgpeefedboomoabDoorCards.lean) ties it to the program's text. -/
def laid_annex_bits_errShort {H : Type} : DataW H := .iface "*errors.errorString" (.ptr (.agg [.lit (.string [98, 105, 116, 115, 58, 32, 116, 111, 111, 32, 102, 101, 119, 32, 98, 121, 116, 101, 115])]))
def laid_annex_bits_errWide {H : Type} : DataW H := .iface "*errors.errorString" (.ptr (.agg [.lit (.string [98, 105, 116, 115, 58, 32, 97, 32, 110, 117, 109, 98, 101, 114, 32, 97, 98, 111, 118, 101, 32, 105, 116, 115, 32, 98, 111, 117, 110, 100])]))
def laid_annex_bits_errFlag {H : Type} : DataW H := .iface "*errors.errorString" (.ptr (.agg [.lit (.string [98, 105, 116, 115, 58, 32, 110, 101, 105, 116, 104, 101, 114, 32, 48, 32, 110, 111, 114, 32, 49])]))
def laid_annex_bits_errLong {H : Type} : DataW H := .iface "*errors.errorString" (.ptr (.agg [.lit (.string [98, 105, 116, 115, 58, 32, 97, 32, 116, 101, 120, 116, 32, 97, 98, 111, 118, 101, 32, 105, 116, 115, 32, 98, 111, 117, 110, 100])]))
def laid_annex_bits_errPad {H : Type} : DataW H := .iface "*errors.errorString" (.ptr (.agg [.lit (.string [98, 105, 116, 115, 58, 32, 112, 97, 100, 100, 105, 110, 103, 32, 116, 104, 97, 116, 32, 105, 115, 32, 110, 111, 116, 32, 122, 101, 114, 111])]))
def laid_annex_plan_bounds {H : Type} : DataW H := .agg [.agg [.lit (.int .i64 1), .lit (.int .i64 8)], .agg [.lit (.int .i64 1), .lit (.int .i64 8)], .agg [.lit (.int .i64 1), .lit (.int .i64 8)], .agg [.lit (.int .i64 1), .lit (.int .i64 64)], .agg [.lit (.int .i64 2), .lit (.int .i64 256)], .agg [.lit (.int .i64 0), .lit (.int .i64 524288)], .agg [.lit (.int .i64 1), .lit (.int .i64 4096)], .agg [.lit (.int .i64 27), .lit (.int .i64 512)]]

/-- 'annexlaw6.PlanNewMemory': WHATEVER THE INPUT: true; the input reads as it did. -/
def planNewMemorySpec : ChangeSpec := { name := "planNewMemory", fn := fun _ => fun
  | [d] => { results := [.lit (.bool true)], args := [d] }
  | _ => none }
def planNewMemoryRow : OpenClaim := { program := "ytgpeefedboomoabdoor", sum := "6d4997c025ba33a2cefa2b9afaeae1f77ef0d1dbac3c6f058061fbf19306df10", func := "annex/annexlaw6.PlanNewMemory", spec := "planNewMemory", inPlace := ["internal/reflectlite.TypeOf"], unfollowed := true, recurses := true, named := ["annex/plan.bounds", "annex/bits.errShort", "annex/bits.errWide", "annex/bits.errFlag", "annex/bits.errLong", "annex/bits.errPad"], apart := false, laid := [("annex/bits.errShort", laid_annex_bits_errShort), ("annex/bits.errWide", laid_annex_bits_errWide), ("annex/bits.errFlag", laid_annex_bits_errFlag), ("annex/bits.errLong", laid_annex_bits_errLong), ("annex/bits.errPad", laid_annex_bits_errPad), ("annex/plan.bounds", laid_annex_plan_bounds)] }
def PlanNewMemorySaid : Prop := planNewMemoryRow.holds Tryd.pinned (OpenSpec.ofChange planNewMemorySpec)

/-- ITS FALSE NEIGHBOUR: 'it returns false'. Refute it at one input. -/
def planNewMemoryWrong : ChangeSpec := { name := "planNewMemory", fn := fun _ => fun
  | [d] => { results := [.lit (.bool false)], args := [d] }
  | _ => none }
def PlanNewMemoryWrongFalsely : Prop := planNewMemoryRow.holds Tryd.pinned (OpenSpec.ofChange planNewMemoryWrong)

/-- 'annexlaw6.PlanWheres': WHATEVER THE INPUT: true; the input reads as it did. -/
def planWheresSpec : ChangeSpec := { name := "planWheres", fn := fun _ => fun
  | [d1, d2] => { results := [.lit (.bool true)], args := [d1, d2] }
  | _ => none }
def planWheresRow : OpenClaim := { program := "ytgpeefedboomoabdoor", sum := "6d4997c025ba33a2cefa2b9afaeae1f77ef0d1dbac3c6f058061fbf19306df10", func := "annex/annexlaw6.PlanWheres", spec := "planWheres", inPlace := ["internal/reflectlite.TypeOf"], unfollowed := true, recurses := true, named := ["annex/plan.bounds", "annex/bits.errShort", "annex/bits.errWide", "annex/bits.errFlag", "annex/bits.errLong", "annex/bits.errPad"], apart := false, laid := [("annex/bits.errShort", laid_annex_bits_errShort), ("annex/bits.errWide", laid_annex_bits_errWide), ("annex/bits.errFlag", laid_annex_bits_errFlag), ("annex/bits.errLong", laid_annex_bits_errLong), ("annex/bits.errPad", laid_annex_bits_errPad), ("annex/plan.bounds", laid_annex_plan_bounds)] }
def PlanWheresSaid : Prop := planWheresRow.holds Tryd.pinned (OpenSpec.ofChange planWheresSpec)

/-- ITS FALSE NEIGHBOUR: 'it returns false'. Refute it at one input. -/
def planWheresWrong : ChangeSpec := { name := "planWheres", fn := fun _ => fun
  | [d1, d2] => { results := [.lit (.bool false)], args := [d1, d2] }
  | _ => none }
def PlanWheresWrongFalsely : Prop := planWheresRow.holds Tryd.pinned (OpenSpec.ofChange planWheresWrong)

/-- 'annexlaw6.PlanSupers': WHATEVER THE INPUT: true; the input reads as it did. -/
def planSupersSpec : ChangeSpec := { name := "planSupers", fn := fun _ => fun
  | [d] => { results := [.lit (.bool true)], args := [d] }
  | _ => none }
def planSupersRow : OpenClaim := { program := "ytgpeefedboomoabdoor", sum := "6d4997c025ba33a2cefa2b9afaeae1f77ef0d1dbac3c6f058061fbf19306df10", func := "annex/annexlaw6.PlanSupers", spec := "planSupers", inPlace := ["internal/reflectlite.TypeOf"], unfollowed := true, recurses := true, named := ["annex/plan.bounds", "annex/bits.errShort", "annex/bits.errWide", "annex/bits.errFlag", "annex/bits.errLong", "annex/bits.errPad"], apart := false, laid := [("annex/bits.errShort", laid_annex_bits_errShort), ("annex/bits.errWide", laid_annex_bits_errWide), ("annex/bits.errFlag", laid_annex_bits_errFlag), ("annex/bits.errLong", laid_annex_bits_errLong), ("annex/bits.errPad", laid_annex_bits_errPad), ("annex/plan.bounds", laid_annex_plan_bounds)] }
def PlanSupersSaid : Prop := planSupersRow.holds Tryd.pinned (OpenSpec.ofChange planSupersSpec)

/-- ITS FALSE NEIGHBOUR: 'it returns false'. Refute it at one input. -/
def planSupersWrong : ChangeSpec := { name := "planSupers", fn := fun _ => fun
  | [d] => { results := [.lit (.bool false)], args := [d] }
  | _ => none }
def PlanSupersWrongFalsely : Prop := planSupersRow.holds Tryd.pinned (OpenSpec.ofChange planSupersWrong)

/-- 'annexlaw6.PlanReads': WHATEVER THE INPUT: true; the input reads as it did. -/
def planReadsSpec : ChangeSpec := { name := "planReads", fn := fun _ => fun
  | [d] => { results := [.lit (.bool true)], args := [d] }
  | _ => none }
def planReadsRow : OpenClaim := { program := "ytgpeefedboomoabdoor", sum := "6d4997c025ba33a2cefa2b9afaeae1f77ef0d1dbac3c6f058061fbf19306df10", func := "annex/annexlaw6.PlanReads", spec := "planReads", inPlace := ["internal/reflectlite.TypeOf"], unfollowed := true, recurses := true, named := ["annex/plan.bounds", "annex/bits.errShort", "annex/bits.errWide", "annex/bits.errFlag", "annex/bits.errLong", "annex/bits.errPad"], apart := false, laid := [("annex/bits.errShort", laid_annex_bits_errShort), ("annex/bits.errWide", laid_annex_bits_errWide), ("annex/bits.errFlag", laid_annex_bits_errFlag), ("annex/bits.errLong", laid_annex_bits_errLong), ("annex/bits.errPad", laid_annex_bits_errPad), ("annex/plan.bounds", laid_annex_plan_bounds)] }
def PlanReadsSaid : Prop := planReadsRow.holds Tryd.pinned (OpenSpec.ofChange planReadsSpec)

/-- ITS FALSE NEIGHBOUR: 'it returns false'. Refute it at one input. -/
def planReadsWrong : ChangeSpec := { name := "planReads", fn := fun _ => fun
  | [d] => { results := [.lit (.bool false)], args := [d] }
  | _ => none }
def PlanReadsWrongFalsely : Prop := planReadsRow.holds Tryd.pinned (OpenSpec.ofChange planReadsWrong)

/- THE SECOND FORM. 'bulk': how many values and letters a reading holds, each counted each time it is reached (what is shared counts as often as it is met; a slice's spare places count too). A statement '..UptoSaid' is the law's where the arguments, and the package variables that the reading takes, are together of bulk at most 1048576: NARROWER than '..Said'. Prove '..Said' where nothing that the law and all that it calls make is longer than what came in: it says more and counts as full. Else prove '..UptoSaid'. A law counts once. -/
mutual
def uptoBulk {H : Type} : DataW H → Nat
  | .lit (.string bytes) => bytes.length + 1
  | .lit _ => 1
  | .nil => 1
  | .ptr d => uptoBulk d + 1
  | .slice elems spare => uptoBulkAll elems + uptoBulkAll spare + 1
  | .agg parts => uptoBulkAll parts + 1
  | .iface _ d => uptoBulk d + 1
  | .map entries => uptoBulkEntries entries + 1
  | .held _ => 1
def uptoBulkAll {H : Type} : List (DataW H) → Nat
  | [] => 0
  | d :: r => uptoBulk d + uptoBulkAll r
def uptoBulkEntries {H : Type} : List (Lit × DataW H) → Nat
  | [] => 0
  | x :: r => uptoBulkEntry x + uptoBulkEntries r
def uptoBulkEntry {H : Type} : Lit × DataW H → Nat
  | (.string bytes, d) => bytes.length + uptoBulk d + 1
  | (_, d) => uptoBulk d + 1
 end
def uptoSmall : (H : Type) → List (DataW H) → Bool := fun _ ds => decide (uptoBulkAll ds ≤ 1048576)
def OpenSpec.upto (s : _root_.Go.ChangeSpec) : _root_.Go.OpenSpec := { _root_.Go.OpenSpec.ofChange s with cond := some uptoSmall }

/-- 'annexlaw6.PlanNewMemory', WHERE WHAT IT READS IS OF BULK AT MOST 1048576: true; the input reads as it did. -/
def planNewMemoryUptoRow : OpenClaim := { program := "ytgpeefedboomoabdoor", sum := "6d4997c025ba33a2cefa2b9afaeae1f77ef0d1dbac3c6f058061fbf19306df10", func := "annex/annexlaw6.PlanNewMemory", spec := "planNewMemory", inPlace := ["internal/reflectlite.TypeOf"], unfollowed := true, recurses := true, named := ["annex/plan.bounds", "annex/bits.errShort", "annex/bits.errWide", "annex/bits.errFlag", "annex/bits.errLong", "annex/bits.errPad"], apart := false, laid := [("annex/bits.errShort", laid_annex_bits_errShort), ("annex/bits.errWide", laid_annex_bits_errWide), ("annex/bits.errFlag", laid_annex_bits_errFlag), ("annex/bits.errLong", laid_annex_bits_errLong), ("annex/bits.errPad", laid_annex_bits_errPad), ("annex/plan.bounds", laid_annex_plan_bounds)], narrowed := true }
def PlanNewMemoryUptoSaid : Prop := planNewMemoryUptoRow.holds Tryd.pinned (OpenSpec.upto planNewMemorySpec)

/-- 'annexlaw6.PlanWheres', WHERE WHAT IT READS IS OF BULK AT MOST 1048576: true; the input reads as it did. -/
def planWheresUptoRow : OpenClaim := { program := "ytgpeefedboomoabdoor", sum := "6d4997c025ba33a2cefa2b9afaeae1f77ef0d1dbac3c6f058061fbf19306df10", func := "annex/annexlaw6.PlanWheres", spec := "planWheres", inPlace := ["internal/reflectlite.TypeOf"], unfollowed := true, recurses := true, named := ["annex/plan.bounds", "annex/bits.errShort", "annex/bits.errWide", "annex/bits.errFlag", "annex/bits.errLong", "annex/bits.errPad"], apart := false, laid := [("annex/bits.errShort", laid_annex_bits_errShort), ("annex/bits.errWide", laid_annex_bits_errWide), ("annex/bits.errFlag", laid_annex_bits_errFlag), ("annex/bits.errLong", laid_annex_bits_errLong), ("annex/bits.errPad", laid_annex_bits_errPad), ("annex/plan.bounds", laid_annex_plan_bounds)], narrowed := true }
def PlanWheresUptoSaid : Prop := planWheresUptoRow.holds Tryd.pinned (OpenSpec.upto planWheresSpec)

/-- 'annexlaw6.PlanSupers', WHERE WHAT IT READS IS OF BULK AT MOST 1048576: true; the input reads as it did. -/
def planSupersUptoRow : OpenClaim := { program := "ytgpeefedboomoabdoor", sum := "6d4997c025ba33a2cefa2b9afaeae1f77ef0d1dbac3c6f058061fbf19306df10", func := "annex/annexlaw6.PlanSupers", spec := "planSupers", inPlace := ["internal/reflectlite.TypeOf"], unfollowed := true, recurses := true, named := ["annex/plan.bounds", "annex/bits.errShort", "annex/bits.errWide", "annex/bits.errFlag", "annex/bits.errLong", "annex/bits.errPad"], apart := false, laid := [("annex/bits.errShort", laid_annex_bits_errShort), ("annex/bits.errWide", laid_annex_bits_errWide), ("annex/bits.errFlag", laid_annex_bits_errFlag), ("annex/bits.errLong", laid_annex_bits_errLong), ("annex/bits.errPad", laid_annex_bits_errPad), ("annex/plan.bounds", laid_annex_plan_bounds)], narrowed := true }
def PlanSupersUptoSaid : Prop := planSupersUptoRow.holds Tryd.pinned (OpenSpec.upto planSupersSpec)

/-- 'annexlaw6.PlanReads', WHERE WHAT IT READS IS OF BULK AT MOST 1048576: true; the input reads as it did. -/
def planReadsUptoRow : OpenClaim := { program := "ytgpeefedboomoabdoor", sum := "6d4997c025ba33a2cefa2b9afaeae1f77ef0d1dbac3c6f058061fbf19306df10", func := "annex/annexlaw6.PlanReads", spec := "planReads", inPlace := ["internal/reflectlite.TypeOf"], unfollowed := true, recurses := true, named := ["annex/plan.bounds", "annex/bits.errShort", "annex/bits.errWide", "annex/bits.errFlag", "annex/bits.errLong", "annex/bits.errPad"], apart := false, laid := [("annex/bits.errShort", laid_annex_bits_errShort), ("annex/bits.errWide", laid_annex_bits_errWide), ("annex/bits.errFlag", laid_annex_bits_errFlag), ("annex/bits.errLong", laid_annex_bits_errLong), ("annex/bits.errPad", laid_annex_bits_errPad), ("annex/plan.bounds", laid_annex_plan_bounds)], narrowed := true }
def PlanReadsUptoSaid : Prop := planReadsUptoRow.holds Tryd.pinned (OpenSpec.upto planReadsSpec)

end Rows
end Go.Proofs.YtgpeefedboomoabDoor
