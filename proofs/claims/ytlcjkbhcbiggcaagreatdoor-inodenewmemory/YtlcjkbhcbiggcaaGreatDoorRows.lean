/-
  NARROWER THAN 'FOR EVERY INPUT', by the rows' own cells (each row's printed sentence says how): InodeNewMemory: laid · InodeLast: laid · InodeModel: laid · InodeUndone: laid · InodeApart: laid.
  DERIVED. THE GIVEN ROWS OF THIS SEAT. 5 by the template 'for every input the law returns true; each argument reads behind the call as it read before'; 0 by the template 'total and deterministic' (their statements: YtlcjkbhcbiggcaaGreatDoorTotals.lean).
  GIVEN WITH THE SEED: the statements are not yours to turn. If you find one false, say at which input.
  Laid BY PROGRAM, IN A SANDBOX (cutbox-rows.mjs): the forced cells as the released guide's own fill.sh prints them over the translation ff1e116df4a2b1ab… (all of the seat's roots in one cut). By AI agents, Wed Nov 11 2026. No macro, syntax, notation, axiom, sorry.
-/
import Derived.Test.YtlcjkbhcbiggcaaGreatDoorChecked
import GoSem.Claim
import GoSem.ClaimJoined
import GoSem.ClaimMapViews
import Derived.JoinedTies
import Derived.KernelRfl
namespace Go.Proofs.YtlcjkbhcbiggcaaGreatDoor
/- THE CELL 'sum', in the pinned program and in every row, IS THE sha256 OF THE DUMP (.gsa) THAT YtlcjkbhcbiggcaaGreatDoorProg.lean LOADS. Nothing in Lean hashes anything: it is a label: what it is worth is what the hold of that sum in a sandbox is worth. -/
noncomputable def Tryz.pinned : Pinned := { name := "ytlcjkbhcbiggcaagreatdoor", sum := "ff1e116df4a2b1ab44d5bbc2b6475a30a4d6e6c8c8892e2908b0f2dd5d7bc3f9", checked := Tryz.checked }
namespace Rows
def none {H : Type} : Left H := { results := [], args := [] }

/- WHAT THE LISTED PACKAGE-LEVEL VARIABLES READ AS WHEN THE CALL BEGINS. Each datum BY PROGRAM (the guide's laid-datum.mjs) off the statement by which the dump's own 'gosem.cut.vars' lays the variable. In a bare row this is a premise. The card (YtlcjkbhcbiggcaaGreatDoorCards.lean) ties it to the program's text. -/
def laid_errors_errorType {H : Type} : DataW H := .iface "internal/reflectlite.rtype" (.agg [.ptr (.lit (.string [101, 114, 114, 111, 114]))])
def laid_annex_bits_errShort {H : Type} : DataW H := .iface "*errors.errorString" (.ptr (.agg [.lit (.string [98, 105, 116, 115, 58, 32, 116, 111, 111, 32, 102, 101, 119, 32, 98, 121, 116, 101, 115])]))
def laid_annex_bits_errWide {H : Type} : DataW H := .iface "*errors.errorString" (.ptr (.agg [.lit (.string [98, 105, 116, 115, 58, 32, 97, 32, 110, 117, 109, 98, 101, 114, 32, 97, 98, 111, 118, 101, 32, 105, 116, 115, 32, 98, 111, 117, 110, 100])]))
def laid_annex_bits_errFlag {H : Type} : DataW H := .iface "*errors.errorString" (.ptr (.agg [.lit (.string [98, 105, 116, 115, 58, 32, 110, 101, 105, 116, 104, 101, 114, 32, 48, 32, 110, 111, 114, 32, 49])]))
def laid_annex_bits_errLong {H : Type} : DataW H := .iface "*errors.errorString" (.ptr (.agg [.lit (.string [98, 105, 116, 115, 58, 32, 97, 32, 116, 101, 120, 116, 32, 97, 98, 111, 118, 101, 32, 105, 116, 115, 32, 98, 111, 117, 110, 100])]))
def laid_annex_bits_errPad {H : Type} : DataW H := .iface "*errors.errorString" (.ptr (.agg [.lit (.string [98, 105, 116, 115, 58, 32, 112, 97, 100, 100, 105, 110, 103, 32, 116, 104, 97, 116, 32, 105, 115, 32, 110, 111, 116, 32, 122, 101, 114, 111])]))
def laid_annex_plan_bounds {H : Type} : DataW H := .agg [.agg [.lit (.int .i64 1), .lit (.int .i64 8)], .agg [.lit (.int .i64 1), .lit (.int .i64 8)], .agg [.lit (.int .i64 1), .lit (.int .i64 8)], .agg [.lit (.int .i64 1), .lit (.int .i64 64)], .agg [.lit (.int .i64 2), .lit (.int .i64 256)], .agg [.lit (.int .i64 0), .lit (.int .i64 524288)], .agg [.lit (.int .i64 1), .lit (.int .i64 4096)], .agg [.lit (.int .i64 27), .lit (.int .i64 512)]]

/-- 'annexlaw9.InodeNewMemory': WHATEVER THE INPUT: true; the input reads as it did. -/
def inodeNewMemorySpec : ChangeSpec := { name := "inodeNewMemory", fn := fun _ => fun
  | [d1, d2] => { results := [.lit (.bool true)], args := [d1, d2] }
  | _ => none }
def inodeNewMemoryRow : OpenClaim := { program := "ytlcjkbhcbiggcaagreatdoor", sum := "ff1e116df4a2b1ab44d5bbc2b6475a30a4d6e6c8c8892e2908b0f2dd5d7bc3f9", func := "annex/annexlaw9.InodeNewMemory", spec := "inodeNewMemory", inPlace := ["(*internal/sync.Mutex).Lock", "internal/race.Disable", "sync/atomic.CompareAndSwapInt32", "internal/race.Enable", "internal/race.Acquire", "(*internal/sync.Mutex).lockSlow", "internal/sync.runtime_canSpin", "internal/sync.runtime_doSpin", "internal/sync.throw", "internal/sync.runtime_nanotime", "internal/sync.runtime_SemacquireMutex", "sync/atomic.AddInt32", "(*internal/sync.Mutex).Unlock", "internal/race.ReleaseMerge", "(*internal/sync.Mutex).unlockSlow", "internal/sync.fatal", "internal/sync.runtime_Semrelease", "internal/reflectlite.ValueOf", "(internal/reflectlite.Value).Type", "(internal/reflectlite.Value).IsNil", "internal/reflectlite.TypeOf", "(internal/reflectlite.Value).Elem", "(internal/reflectlite.Value).Set"], unfollowed := true, recurses := true, named := ["annex/plan.bounds", "errors.errorType", "annex/bits.errShort", "annex/bits.errWide", "annex/bits.errFlag", "annex/bits.errLong", "annex/bits.errPad"], apart := false, laid := [("errors.errorType", laid_errors_errorType), ("annex/bits.errShort", laid_annex_bits_errShort), ("annex/bits.errWide", laid_annex_bits_errWide), ("annex/bits.errFlag", laid_annex_bits_errFlag), ("annex/bits.errLong", laid_annex_bits_errLong), ("annex/bits.errPad", laid_annex_bits_errPad), ("annex/plan.bounds", laid_annex_plan_bounds)] }
def InodeNewMemorySaid : Prop := inodeNewMemoryRow.holds Tryz.pinned (OpenSpec.ofChange inodeNewMemorySpec)

/-- ITS FALSE NEIGHBOUR: 'it returns false'. Refute it at one input. -/
def inodeNewMemoryWrong : ChangeSpec := { name := "inodeNewMemory", fn := fun _ => fun
  | [d1, d2] => { results := [.lit (.bool false)], args := [d1, d2] }
  | _ => none }
def InodeNewMemoryWrongFalsely : Prop := inodeNewMemoryRow.holds Tryz.pinned (OpenSpec.ofChange inodeNewMemoryWrong)

/-- 'annexlaw9.InodeLast': WHATEVER THE INPUT: true; the input reads as it did. -/
def inodeLastSpec : ChangeSpec := { name := "inodeLast", fn := fun _ => fun
  | [d1, d2] => { results := [.lit (.bool true)], args := [d1, d2] }
  | _ => none }
def inodeLastRow : OpenClaim := { program := "ytlcjkbhcbiggcaagreatdoor", sum := "ff1e116df4a2b1ab44d5bbc2b6475a30a4d6e6c8c8892e2908b0f2dd5d7bc3f9", func := "annex/annexlaw9.InodeLast", spec := "inodeLast", inPlace := ["(*internal/sync.Mutex).Lock", "internal/race.Disable", "sync/atomic.CompareAndSwapInt32", "internal/race.Enable", "internal/race.Acquire", "(*internal/sync.Mutex).lockSlow", "internal/sync.runtime_canSpin", "internal/sync.runtime_doSpin", "internal/sync.throw", "internal/sync.runtime_nanotime", "internal/sync.runtime_SemacquireMutex", "sync/atomic.AddInt32", "(*internal/sync.Mutex).Unlock", "internal/race.ReleaseMerge", "(*internal/sync.Mutex).unlockSlow", "internal/sync.fatal", "internal/sync.runtime_Semrelease", "internal/reflectlite.ValueOf", "(internal/reflectlite.Value).Type", "(internal/reflectlite.Value).IsNil", "internal/reflectlite.TypeOf", "(internal/reflectlite.Value).Elem", "(internal/reflectlite.Value).Set", "maps.clone"], unfollowed := true, recurses := true, named := ["annex/plan.bounds", "errors.errorType", "annex/bits.errShort", "annex/bits.errWide", "annex/bits.errFlag", "annex/bits.errLong", "annex/bits.errPad"], apart := false, laid := [("errors.errorType", laid_errors_errorType), ("annex/bits.errShort", laid_annex_bits_errShort), ("annex/bits.errWide", laid_annex_bits_errWide), ("annex/bits.errFlag", laid_annex_bits_errFlag), ("annex/bits.errLong", laid_annex_bits_errLong), ("annex/bits.errPad", laid_annex_bits_errPad), ("annex/plan.bounds", laid_annex_plan_bounds)] }
def InodeLastSaid : Prop := inodeLastRow.holds Tryz.pinned (OpenSpec.ofChange inodeLastSpec)

/-- ITS FALSE NEIGHBOUR: 'it returns false'. Refute it at one input. -/
def inodeLastWrong : ChangeSpec := { name := "inodeLast", fn := fun _ => fun
  | [d1, d2] => { results := [.lit (.bool false)], args := [d1, d2] }
  | _ => none }
def InodeLastWrongFalsely : Prop := inodeLastRow.holds Tryz.pinned (OpenSpec.ofChange inodeLastWrong)

/-- 'annexlaw9.InodeModel': WHATEVER THE INPUT: true; the input reads as it did. -/
def inodeModelSpec : ChangeSpec := { name := "inodeModel", fn := fun _ => fun
  | [d1, d2] => { results := [.lit (.bool true)], args := [d1, d2] }
  | _ => none }
def inodeModelRow : OpenClaim := { program := "ytlcjkbhcbiggcaagreatdoor", sum := "ff1e116df4a2b1ab44d5bbc2b6475a30a4d6e6c8c8892e2908b0f2dd5d7bc3f9", func := "annex/annexlaw9.InodeModel", spec := "inodeModel", inPlace := ["(*internal/sync.Mutex).Lock", "internal/race.Disable", "sync/atomic.CompareAndSwapInt32", "internal/race.Enable", "internal/race.Acquire", "(*internal/sync.Mutex).lockSlow", "internal/sync.runtime_canSpin", "internal/sync.runtime_doSpin", "internal/sync.throw", "internal/sync.runtime_nanotime", "internal/sync.runtime_SemacquireMutex", "sync/atomic.AddInt32", "(*internal/sync.Mutex).Unlock", "internal/race.ReleaseMerge", "(*internal/sync.Mutex).unlockSlow", "internal/sync.fatal", "internal/sync.runtime_Semrelease", "internal/reflectlite.ValueOf", "(internal/reflectlite.Value).Type", "(internal/reflectlite.Value).IsNil", "internal/reflectlite.TypeOf", "(internal/reflectlite.Value).Elem", "(internal/reflectlite.Value).Set", "maps.clone"], unfollowed := true, recurses := true, named := ["annex/plan.bounds", "errors.errorType", "annex/bits.errShort", "annex/bits.errWide", "annex/bits.errFlag", "annex/bits.errLong", "annex/bits.errPad"], apart := false, laid := [("errors.errorType", laid_errors_errorType), ("annex/bits.errShort", laid_annex_bits_errShort), ("annex/bits.errWide", laid_annex_bits_errWide), ("annex/bits.errFlag", laid_annex_bits_errFlag), ("annex/bits.errLong", laid_annex_bits_errLong), ("annex/bits.errPad", laid_annex_bits_errPad), ("annex/plan.bounds", laid_annex_plan_bounds)] }
def InodeModelSaid : Prop := inodeModelRow.holds Tryz.pinned (OpenSpec.ofChange inodeModelSpec)

/-- ITS FALSE NEIGHBOUR: 'it returns false'. Refute it at one input. -/
def inodeModelWrong : ChangeSpec := { name := "inodeModel", fn := fun _ => fun
  | [d1, d2] => { results := [.lit (.bool false)], args := [d1, d2] }
  | _ => none }
def InodeModelWrongFalsely : Prop := inodeModelRow.holds Tryz.pinned (OpenSpec.ofChange inodeModelWrong)

/-- 'annexlaw9.InodeUndone': WHATEVER THE INPUT: true; the input reads as it did. -/
def inodeUndoneSpec : ChangeSpec := { name := "inodeUndone", fn := fun _ => fun
  | [d1, d2, d3, d4] => { results := [.lit (.bool true)], args := [d1, d2, d3, d4] }
  | _ => none }
def inodeUndoneRow : OpenClaim := { program := "ytlcjkbhcbiggcaagreatdoor", sum := "ff1e116df4a2b1ab44d5bbc2b6475a30a4d6e6c8c8892e2908b0f2dd5d7bc3f9", func := "annex/annexlaw9.InodeUndone", spec := "inodeUndone", inPlace := ["(*internal/sync.Mutex).Lock", "internal/race.Disable", "sync/atomic.CompareAndSwapInt32", "internal/race.Enable", "internal/race.Acquire", "(*internal/sync.Mutex).lockSlow", "internal/sync.runtime_canSpin", "internal/sync.runtime_doSpin", "internal/sync.throw", "internal/sync.runtime_nanotime", "internal/sync.runtime_SemacquireMutex", "sync/atomic.AddInt32", "(*internal/sync.Mutex).Unlock", "internal/race.ReleaseMerge", "(*internal/sync.Mutex).unlockSlow", "internal/sync.fatal", "internal/sync.runtime_Semrelease", "internal/reflectlite.ValueOf", "(internal/reflectlite.Value).Type", "(internal/reflectlite.Value).IsNil", "internal/reflectlite.TypeOf", "(internal/reflectlite.Value).Elem", "(internal/reflectlite.Value).Set", "maps.clone"], unfollowed := true, recurses := true, named := ["annex/plan.bounds", "errors.errorType", "annex/bits.errShort", "annex/bits.errWide", "annex/bits.errFlag", "annex/bits.errLong", "annex/bits.errPad"], apart := false, laid := [("errors.errorType", laid_errors_errorType), ("annex/bits.errShort", laid_annex_bits_errShort), ("annex/bits.errWide", laid_annex_bits_errWide), ("annex/bits.errFlag", laid_annex_bits_errFlag), ("annex/bits.errLong", laid_annex_bits_errLong), ("annex/bits.errPad", laid_annex_bits_errPad), ("annex/plan.bounds", laid_annex_plan_bounds)] }
def InodeUndoneSaid : Prop := inodeUndoneRow.holds Tryz.pinned (OpenSpec.ofChange inodeUndoneSpec)

/-- ITS FALSE NEIGHBOUR: 'it returns false'. Refute it at one input. -/
def inodeUndoneWrong : ChangeSpec := { name := "inodeUndone", fn := fun _ => fun
  | [d1, d2, d3, d4] => { results := [.lit (.bool false)], args := [d1, d2, d3, d4] }
  | _ => none }
def InodeUndoneWrongFalsely : Prop := inodeUndoneRow.holds Tryz.pinned (OpenSpec.ofChange inodeUndoneWrong)

/-- 'annexlaw9.InodeApart': WHATEVER THE INPUT: true; the input reads as it did. -/
def inodeApartSpec : ChangeSpec := { name := "inodeApart", fn := fun _ => fun
  | [d1, d2, d3] => { results := [.lit (.bool true)], args := [d1, d2, d3] }
  | _ => none }
def inodeApartRow : OpenClaim := { program := "ytlcjkbhcbiggcaagreatdoor", sum := "ff1e116df4a2b1ab44d5bbc2b6475a30a4d6e6c8c8892e2908b0f2dd5d7bc3f9", func := "annex/annexlaw9.InodeApart", spec := "inodeApart", inPlace := ["(*internal/sync.Mutex).Lock", "internal/race.Disable", "sync/atomic.CompareAndSwapInt32", "internal/race.Enable", "internal/race.Acquire", "(*internal/sync.Mutex).lockSlow", "internal/sync.runtime_canSpin", "internal/sync.runtime_doSpin", "internal/sync.throw", "internal/sync.runtime_nanotime", "internal/sync.runtime_SemacquireMutex", "sync/atomic.AddInt32", "(*internal/sync.Mutex).Unlock", "internal/race.ReleaseMerge", "(*internal/sync.Mutex).unlockSlow", "internal/sync.fatal", "internal/sync.runtime_Semrelease", "internal/reflectlite.ValueOf", "(internal/reflectlite.Value).Type", "(internal/reflectlite.Value).IsNil", "internal/reflectlite.TypeOf", "(internal/reflectlite.Value).Elem", "(internal/reflectlite.Value).Set", "maps.clone"], unfollowed := true, recurses := true, named := ["annex/plan.bounds", "errors.errorType", "annex/bits.errShort", "annex/bits.errWide", "annex/bits.errFlag", "annex/bits.errLong", "annex/bits.errPad"], apart := false, laid := [("errors.errorType", laid_errors_errorType), ("annex/bits.errShort", laid_annex_bits_errShort), ("annex/bits.errWide", laid_annex_bits_errWide), ("annex/bits.errFlag", laid_annex_bits_errFlag), ("annex/bits.errLong", laid_annex_bits_errLong), ("annex/bits.errPad", laid_annex_bits_errPad), ("annex/plan.bounds", laid_annex_plan_bounds)] }
def InodeApartSaid : Prop := inodeApartRow.holds Tryz.pinned (OpenSpec.ofChange inodeApartSpec)

/-- ITS FALSE NEIGHBOUR: 'it returns false'. Refute it at one input. -/
def inodeApartWrong : ChangeSpec := { name := "inodeApart", fn := fun _ => fun
  | [d1, d2, d3] => { results := [.lit (.bool false)], args := [d1, d2, d3] }
  | _ => none }
def InodeApartWrongFalsely : Prop := inodeApartRow.holds Tryz.pinned (OpenSpec.ofChange inodeApartWrong)

/- THE SECOND FORM. 'bulk': how many values and letters a reading holds, each counted each time it is reached (what is shared counts as often as it is met; a slice's spare places count too). A statement '..UptoSaid' is the law's where the arguments, and the package variables that the reading takes, are together of bulk at most 1048576: NARROWER than '..Said'. Prove '..Said' where nothing that the law and all that it calls make is longer than what came in: it says more and counts as full. Else prove '..UptoSaid'. A law counts once. -/
mutual
def uptoBulk {H : Type} : DataW H → Nat
  | .lit (.string bytes) => bytes.length + 1
  | .lit _ => 1
  | .nil => 1
  | .ptr d => uptoBulk d + 1
  | .slice elems spare => uptoBulkAll elems + uptoBulkAll spare + 1
  | .agg parts => uptoBulkAll parts + 1
  | .iface _ d => uptoBulk d + 1
  | .map entries => uptoBulkEntries entries + 1
  | .held _ => 1
def uptoBulkAll {H : Type} : List (DataW H) → Nat
  | [] => 0
  | d :: r => uptoBulk d + uptoBulkAll r
def uptoBulkEntries {H : Type} : List (Lit × DataW H) → Nat
  | [] => 0
  | x :: r => uptoBulkEntry x + uptoBulkEntries r
def uptoBulkEntry {H : Type} : Lit × DataW H → Nat
  | (.string bytes, d) => bytes.length + uptoBulk d + 1
  | (_, d) => uptoBulk d + 1
 end
def uptoSmall : (H : Type) → List (DataW H) → Bool := fun _ ds => decide (uptoBulkAll ds ≤ 1048576)
def OpenSpec.upto (s : _root_.Go.ChangeSpec) : _root_.Go.OpenSpec := { _root_.Go.OpenSpec.ofChange s with cond := some uptoSmall }

/-- 'annexlaw9.InodeNewMemory', WHERE WHAT IT READS IS OF BULK AT MOST 1048576: true; the input reads as it did. -/
def inodeNewMemoryUptoRow : OpenClaim := { program := "ytlcjkbhcbiggcaagreatdoor", sum := "ff1e116df4a2b1ab44d5bbc2b6475a30a4d6e6c8c8892e2908b0f2dd5d7bc3f9", func := "annex/annexlaw9.InodeNewMemory", spec := "inodeNewMemory", inPlace := ["(*internal/sync.Mutex).Lock", "internal/race.Disable", "sync/atomic.CompareAndSwapInt32", "internal/race.Enable", "internal/race.Acquire", "(*internal/sync.Mutex).lockSlow", "internal/sync.runtime_canSpin", "internal/sync.runtime_doSpin", "internal/sync.throw", "internal/sync.runtime_nanotime", "internal/sync.runtime_SemacquireMutex", "sync/atomic.AddInt32", "(*internal/sync.Mutex).Unlock", "internal/race.ReleaseMerge", "(*internal/sync.Mutex).unlockSlow", "internal/sync.fatal", "internal/sync.runtime_Semrelease", "internal/reflectlite.ValueOf", "(internal/reflectlite.Value).Type", "(internal/reflectlite.Value).IsNil", "internal/reflectlite.TypeOf", "(internal/reflectlite.Value).Elem", "(internal/reflectlite.Value).Set"], unfollowed := true, recurses := true, named := ["annex/plan.bounds", "errors.errorType", "annex/bits.errShort", "annex/bits.errWide", "annex/bits.errFlag", "annex/bits.errLong", "annex/bits.errPad"], apart := false, laid := [("errors.errorType", laid_errors_errorType), ("annex/bits.errShort", laid_annex_bits_errShort), ("annex/bits.errWide", laid_annex_bits_errWide), ("annex/bits.errFlag", laid_annex_bits_errFlag), ("annex/bits.errLong", laid_annex_bits_errLong), ("annex/bits.errPad", laid_annex_bits_errPad), ("annex/plan.bounds", laid_annex_plan_bounds)], narrowed := true }
def InodeNewMemoryUptoSaid : Prop := inodeNewMemoryUptoRow.holds Tryz.pinned (OpenSpec.upto inodeNewMemorySpec)

/-- 'annexlaw9.InodeLast', WHERE WHAT IT READS IS OF BULK AT MOST 1048576: true; the input reads as it did. -/
def inodeLastUptoRow : OpenClaim := { program := "ytlcjkbhcbiggcaagreatdoor", sum := "ff1e116df4a2b1ab44d5bbc2b6475a30a4d6e6c8c8892e2908b0f2dd5d7bc3f9", func := "annex/annexlaw9.InodeLast", spec := "inodeLast", inPlace := ["(*internal/sync.Mutex).Lock", "internal/race.Disable", "sync/atomic.CompareAndSwapInt32", "internal/race.Enable", "internal/race.Acquire", "(*internal/sync.Mutex).lockSlow", "internal/sync.runtime_canSpin", "internal/sync.runtime_doSpin", "internal/sync.throw", "internal/sync.runtime_nanotime", "internal/sync.runtime_SemacquireMutex", "sync/atomic.AddInt32", "(*internal/sync.Mutex).Unlock", "internal/race.ReleaseMerge", "(*internal/sync.Mutex).unlockSlow", "internal/sync.fatal", "internal/sync.runtime_Semrelease", "internal/reflectlite.ValueOf", "(internal/reflectlite.Value).Type", "(internal/reflectlite.Value).IsNil", "internal/reflectlite.TypeOf", "(internal/reflectlite.Value).Elem", "(internal/reflectlite.Value).Set", "maps.clone"], unfollowed := true, recurses := true, named := ["annex/plan.bounds", "errors.errorType", "annex/bits.errShort", "annex/bits.errWide", "annex/bits.errFlag", "annex/bits.errLong", "annex/bits.errPad"], apart := false, laid := [("errors.errorType", laid_errors_errorType), ("annex/bits.errShort", laid_annex_bits_errShort), ("annex/bits.errWide", laid_annex_bits_errWide), ("annex/bits.errFlag", laid_annex_bits_errFlag), ("annex/bits.errLong", laid_annex_bits_errLong), ("annex/bits.errPad", laid_annex_bits_errPad), ("annex/plan.bounds", laid_annex_plan_bounds)], narrowed := true }
def InodeLastUptoSaid : Prop := inodeLastUptoRow.holds Tryz.pinned (OpenSpec.upto inodeLastSpec)

/-- 'annexlaw9.InodeModel', WHERE WHAT IT READS IS OF BULK AT MOST 1048576: true; the input reads as it did. -/
def inodeModelUptoRow : OpenClaim := { program := "ytlcjkbhcbiggcaagreatdoor", sum := "ff1e116df4a2b1ab44d5bbc2b6475a30a4d6e6c8c8892e2908b0f2dd5d7bc3f9", func := "annex/annexlaw9.InodeModel", spec := "inodeModel", inPlace := ["(*internal/sync.Mutex).Lock", "internal/race.Disable", "sync/atomic.CompareAndSwapInt32", "internal/race.Enable", "internal/race.Acquire", "(*internal/sync.Mutex).lockSlow", "internal/sync.runtime_canSpin", "internal/sync.runtime_doSpin", "internal/sync.throw", "internal/sync.runtime_nanotime", "internal/sync.runtime_SemacquireMutex", "sync/atomic.AddInt32", "(*internal/sync.Mutex).Unlock", "internal/race.ReleaseMerge", "(*internal/sync.Mutex).unlockSlow", "internal/sync.fatal", "internal/sync.runtime_Semrelease", "internal/reflectlite.ValueOf", "(internal/reflectlite.Value).Type", "(internal/reflectlite.Value).IsNil", "internal/reflectlite.TypeOf", "(internal/reflectlite.Value).Elem", "(internal/reflectlite.Value).Set", "maps.clone"], unfollowed := true, recurses := true, named := ["annex/plan.bounds", "errors.errorType", "annex/bits.errShort", "annex/bits.errWide", "annex/bits.errFlag", "annex/bits.errLong", "annex/bits.errPad"], apart := false, laid := [("errors.errorType", laid_errors_errorType), ("annex/bits.errShort", laid_annex_bits_errShort), ("annex/bits.errWide", laid_annex_bits_errWide), ("annex/bits.errFlag", laid_annex_bits_errFlag), ("annex/bits.errLong", laid_annex_bits_errLong), ("annex/bits.errPad", laid_annex_bits_errPad), ("annex/plan.bounds", laid_annex_plan_bounds)], narrowed := true }
def InodeModelUptoSaid : Prop := inodeModelUptoRow.holds Tryz.pinned (OpenSpec.upto inodeModelSpec)

/-- 'annexlaw9.InodeUndone', WHERE WHAT IT READS IS OF BULK AT MOST 1048576: true; the input reads as it did. -/
def inodeUndoneUptoRow : OpenClaim := { program := "ytlcjkbhcbiggcaagreatdoor", sum := "ff1e116df4a2b1ab44d5bbc2b6475a30a4d6e6c8c8892e2908b0f2dd5d7bc3f9", func := "annex/annexlaw9.InodeUndone", spec := "inodeUndone", inPlace := ["(*internal/sync.Mutex).Lock", "internal/race.Disable", "sync/atomic.CompareAndSwapInt32", "internal/race.Enable", "internal/race.Acquire", "(*internal/sync.Mutex).lockSlow", "internal/sync.runtime_canSpin", "internal/sync.runtime_doSpin", "internal/sync.throw", "internal/sync.runtime_nanotime", "internal/sync.runtime_SemacquireMutex", "sync/atomic.AddInt32", "(*internal/sync.Mutex).Unlock", "internal/race.ReleaseMerge", "(*internal/sync.Mutex).unlockSlow", "internal/sync.fatal", "internal/sync.runtime_Semrelease", "internal/reflectlite.ValueOf", "(internal/reflectlite.Value).Type", "(internal/reflectlite.Value).IsNil", "internal/reflectlite.TypeOf", "(internal/reflectlite.Value).Elem", "(internal/reflectlite.Value).Set", "maps.clone"], unfollowed := true, recurses := true, named := ["annex/plan.bounds", "errors.errorType", "annex/bits.errShort", "annex/bits.errWide", "annex/bits.errFlag", "annex/bits.errLong", "annex/bits.errPad"], apart := false, laid := [("errors.errorType", laid_errors_errorType), ("annex/bits.errShort", laid_annex_bits_errShort), ("annex/bits.errWide", laid_annex_bits_errWide), ("annex/bits.errFlag", laid_annex_bits_errFlag), ("annex/bits.errLong", laid_annex_bits_errLong), ("annex/bits.errPad", laid_annex_bits_errPad), ("annex/plan.bounds", laid_annex_plan_bounds)], narrowed := true }
def InodeUndoneUptoSaid : Prop := inodeUndoneUptoRow.holds Tryz.pinned (OpenSpec.upto inodeUndoneSpec)

/-- 'annexlaw9.InodeApart', WHERE WHAT IT READS IS OF BULK AT MOST 1048576: true; the input reads as it did. -/
def inodeApartUptoRow : OpenClaim := { program := "ytlcjkbhcbiggcaagreatdoor", sum := "ff1e116df4a2b1ab44d5bbc2b6475a30a4d6e6c8c8892e2908b0f2dd5d7bc3f9", func := "annex/annexlaw9.InodeApart", spec := "inodeApart", inPlace := ["(*internal/sync.Mutex).Lock", "internal/race.Disable", "sync/atomic.CompareAndSwapInt32", "internal/race.Enable", "internal/race.Acquire", "(*internal/sync.Mutex).lockSlow", "internal/sync.runtime_canSpin", "internal/sync.runtime_doSpin", "internal/sync.throw", "internal/sync.runtime_nanotime", "internal/sync.runtime_SemacquireMutex", "sync/atomic.AddInt32", "(*internal/sync.Mutex).Unlock", "internal/race.ReleaseMerge", "(*internal/sync.Mutex).unlockSlow", "internal/sync.fatal", "internal/sync.runtime_Semrelease", "internal/reflectlite.ValueOf", "(internal/reflectlite.Value).Type", "(internal/reflectlite.Value).IsNil", "internal/reflectlite.TypeOf", "(internal/reflectlite.Value).Elem", "(internal/reflectlite.Value).Set", "maps.clone"], unfollowed := true, recurses := true, named := ["annex/plan.bounds", "errors.errorType", "annex/bits.errShort", "annex/bits.errWide", "annex/bits.errFlag", "annex/bits.errLong", "annex/bits.errPad"], apart := false, laid := [("errors.errorType", laid_errors_errorType), ("annex/bits.errShort", laid_annex_bits_errShort), ("annex/bits.errWide", laid_annex_bits_errWide), ("annex/bits.errFlag", laid_annex_bits_errFlag), ("annex/bits.errLong", laid_annex_bits_errLong), ("annex/bits.errPad", laid_annex_bits_errPad), ("annex/plan.bounds", laid_annex_plan_bounds)], narrowed := true }
def InodeApartUptoSaid : Prop := inodeApartUptoRow.holds Tryz.pinned (OpenSpec.upto inodeApartSpec)

end Rows
end Go.Proofs.YtlcjkbhcbiggcaaGreatDoor
