/-
  NARROWER THAN 'FOR EVERY INPUT', by the rows' own cells (each row's printed sentence says how): RtoWaits: laid · RtoExpires: laid · RtoRuns: laid.
  DERIVED. THE GIVEN ROWS OF THIS SEAT. 3 by the template 'for every input the law returns true; each argument reads behind the call as it read before'; 0 by the template 'total and deterministic' (their statements: YtjaheoccofcklabDoorTotals.lean).
  GIVEN WITH THE SEED: the statements are not yours to turn. If you find one false, say at which input.
  Laid BY PROGRAM, IN A SANDBOX (cutbox-rows.mjs): the forced cells as the released guide's own fill.sh prints them over the translation 15ef7721a02a7d35… (all of the seat's roots in one cut). By AI agents, Wed Nov 11 2026. No macro, syntax, notation, axiom, sorry.
-/
import Derived.Test.YtjaheoccofcklabDoorChecked
import GoSem.Claim
import GoSem.ClaimJoined
import GoSem.ClaimMapViews
import Derived.JoinedTies
import Derived.KernelRfl
namespace Go.Proofs.YtjaheoccofcklabDoor
/- THE CELL 'sum', in the pinned program and in every row, IS THE sha256 OF THE DUMP (.gsa) THAT YtjaheoccofcklabDoorProg.lean LOADS. Nothing in Lean hashes anything: it is a label: what it is worth is what the hold of that sum in a sandbox is worth. -/
noncomputable def Tryd.pinned : Pinned := { name := "ytjaheoccofcklabdoor", sum := "15ef7721a02a7d35bd41b72018ce90dd0ded22fe88c20f000d15aae297b32e1d", checked := Tryd.checked }
namespace Rows
def none {H : Type} : Left H := { results := [], args := [] }

/- WHAT THE LISTED PACKAGE-LEVEL VARIABLES READ AS WHEN THE CALL BEGINS. Each datum BY PROGRAM (the guide's laid-datum.mjs) off the statement by which the dump's own 'gosem.cut.vars' lays the variable. In a bare row this is a premise. The card (YtjaheoccofcklabDoorCards.lean) ties it to the program's text. -/
def laid_annex_rto_rows {H : Type} : DataW H := .agg [.agg [.lit (.int .i64 0), .lit (.int .i64 16777216)], .agg [.lit (.int .i64 0), .lit (.int .i64 16777216)], .agg [.lit (.int .i64 1), .lit (.int .i64 1048576)], .agg [.lit (.int .i64 0), .lit (.int .i64 20)]]

/-- 'annexlaw17.RtoWaits': WHATEVER THE INPUT: true; the input reads as it did. -/
def rtoWaitsSpec : ChangeSpec := { name := "rtoWaits", fn := fun _ => fun
  | [d1, d2] => { results := [.lit (.bool true)], args := [d1, d2] }
  | _ => none }
def rtoWaitsRow : OpenClaim := { program := "ytjaheoccofcklabdoor", sum := "15ef7721a02a7d35bd41b72018ce90dd0ded22fe88c20f000d15aae297b32e1d", func := "annex/annexlaw17.RtoWaits", spec := "rtoWaits", unfollowed := true, recurses := true, named := ["annex/rto.rows"], apart := false, laid := [("annex/rto.rows", laid_annex_rto_rows)] }
def RtoWaitsSaid : Prop := rtoWaitsRow.holds Tryd.pinned (OpenSpec.ofChange rtoWaitsSpec)

/-- ITS FALSE NEIGHBOUR: 'it returns false'. Refute it at one input. -/
def rtoWaitsWrong : ChangeSpec := { name := "rtoWaits", fn := fun _ => fun
  | [d1, d2] => { results := [.lit (.bool false)], args := [d1, d2] }
  | _ => none }
def RtoWaitsWrongFalsely : Prop := rtoWaitsRow.holds Tryd.pinned (OpenSpec.ofChange rtoWaitsWrong)

/-- 'annexlaw17.RtoExpires': WHATEVER THE INPUT: true; the input reads as it did. -/
def rtoExpiresSpec : ChangeSpec := { name := "rtoExpires", fn := fun _ => fun
  | [d1, d2] => { results := [.lit (.bool true)], args := [d1, d2] }
  | _ => none }
def rtoExpiresRow : OpenClaim := { program := "ytjaheoccofcklabdoor", sum := "15ef7721a02a7d35bd41b72018ce90dd0ded22fe88c20f000d15aae297b32e1d", func := "annex/annexlaw17.RtoExpires", spec := "rtoExpires", unfollowed := true, recurses := true, named := ["annex/rto.rows"], apart := false, laid := [("annex/rto.rows", laid_annex_rto_rows)] }
def RtoExpiresSaid : Prop := rtoExpiresRow.holds Tryd.pinned (OpenSpec.ofChange rtoExpiresSpec)

/-- ITS FALSE NEIGHBOUR: 'it returns false'. Refute it at one input. -/
def rtoExpiresWrong : ChangeSpec := { name := "rtoExpires", fn := fun _ => fun
  | [d1, d2] => { results := [.lit (.bool false)], args := [d1, d2] }
  | _ => none }
def RtoExpiresWrongFalsely : Prop := rtoExpiresRow.holds Tryd.pinned (OpenSpec.ofChange rtoExpiresWrong)

/-- 'annexlaw17.RtoRuns': WHATEVER THE INPUT: true; the input reads as it did. -/
def rtoRunsSpec : ChangeSpec := { name := "rtoRuns", fn := fun _ => fun
  | [d1, d2] => { results := [.lit (.bool true)], args := [d1, d2] }
  | _ => none }
def rtoRunsRow : OpenClaim := { program := "ytjaheoccofcklabdoor", sum := "15ef7721a02a7d35bd41b72018ce90dd0ded22fe88c20f000d15aae297b32e1d", func := "annex/annexlaw17.RtoRuns", spec := "rtoRuns", unfollowed := true, recurses := true, named := ["annex/rto.rows"], apart := false, laid := [("annex/rto.rows", laid_annex_rto_rows)] }
def RtoRunsSaid : Prop := rtoRunsRow.holds Tryd.pinned (OpenSpec.ofChange rtoRunsSpec)

/-- ITS FALSE NEIGHBOUR: 'it returns false'. Refute it at one input. -/
def rtoRunsWrong : ChangeSpec := { name := "rtoRuns", fn := fun _ => fun
  | [d1, d2] => { results := [.lit (.bool false)], args := [d1, d2] }
  | _ => none }
def RtoRunsWrongFalsely : Prop := rtoRunsRow.holds Tryd.pinned (OpenSpec.ofChange rtoRunsWrong)

/- THE SECOND FORM. 'bulk': how many values and letters a reading holds, each counted each time it is reached (what is shared counts as often as it is met; a slice's spare places count too). A statement '..UptoSaid' is the law's where the arguments, and the package variables that the reading takes, are together of bulk at most 1048576: NARROWER than '..Said'. Prove '..Said' where nothing that the law and all that it calls make is longer than what came in: it says more and counts as full. Else prove '..UptoSaid'. A law counts once. -/
mutual
def uptoBulk {H : Type} : DataW H → Nat
  | .lit (.string bytes) => bytes.length + 1
  | .lit _ => 1
  | .nil => 1
  | .ptr d => uptoBulk d + 1
  | .slice elems spare => uptoBulkAll elems + uptoBulkAll spare + 1
  | .agg parts => uptoBulkAll parts + 1
  | .iface _ d => uptoBulk d + 1
  | .map entries => uptoBulkEntries entries + 1
  | .held _ => 1
def uptoBulkAll {H : Type} : List (DataW H) → Nat
  | [] => 0
  | d :: r => uptoBulk d + uptoBulkAll r
def uptoBulkEntries {H : Type} : List (Lit × DataW H) → Nat
  | [] => 0
  | x :: r => uptoBulkEntry x + uptoBulkEntries r
def uptoBulkEntry {H : Type} : Lit × DataW H → Nat
  | (.string bytes, d) => bytes.length + uptoBulk d + 1
  | (_, d) => uptoBulk d + 1
 end
def uptoSmall : (H : Type) → List (DataW H) → Bool := fun _ ds => decide (uptoBulkAll ds ≤ 1048576)
def OpenSpec.upto (s : _root_.Go.ChangeSpec) : _root_.Go.OpenSpec := { _root_.Go.OpenSpec.ofChange s with cond := some uptoSmall }

/-- 'annexlaw17.RtoWaits', WHERE WHAT IT READS IS OF BULK AT MOST 1048576: true; the input reads as it did. -/
def rtoWaitsUptoRow : OpenClaim := { program := "ytjaheoccofcklabdoor", sum := "15ef7721a02a7d35bd41b72018ce90dd0ded22fe88c20f000d15aae297b32e1d", func := "annex/annexlaw17.RtoWaits", spec := "rtoWaits", unfollowed := true, recurses := true, named := ["annex/rto.rows"], apart := false, laid := [("annex/rto.rows", laid_annex_rto_rows)], narrowed := true }
def RtoWaitsUptoSaid : Prop := rtoWaitsUptoRow.holds Tryd.pinned (OpenSpec.upto rtoWaitsSpec)

/-- 'annexlaw17.RtoExpires', WHERE WHAT IT READS IS OF BULK AT MOST 1048576: true; the input reads as it did. -/
def rtoExpiresUptoRow : OpenClaim := { program := "ytjaheoccofcklabdoor", sum := "15ef7721a02a7d35bd41b72018ce90dd0ded22fe88c20f000d15aae297b32e1d", func := "annex/annexlaw17.RtoExpires", spec := "rtoExpires", unfollowed := true, recurses := true, named := ["annex/rto.rows"], apart := false, laid := [("annex/rto.rows", laid_annex_rto_rows)], narrowed := true }
def RtoExpiresUptoSaid : Prop := rtoExpiresUptoRow.holds Tryd.pinned (OpenSpec.upto rtoExpiresSpec)

/-- 'annexlaw17.RtoRuns', WHERE WHAT IT READS IS OF BULK AT MOST 1048576: true; the input reads as it did. -/
def rtoRunsUptoRow : OpenClaim := { program := "ytjaheoccofcklabdoor", sum := "15ef7721a02a7d35bd41b72018ce90dd0ded22fe88c20f000d15aae297b32e1d", func := "annex/annexlaw17.RtoRuns", spec := "rtoRuns", unfollowed := true, recurses := true, named := ["annex/rto.rows"], apart := false, laid := [("annex/rto.rows", laid_annex_rto_rows)], narrowed := true }
def RtoRunsUptoSaid : Prop := rtoRunsUptoRow.holds Tryd.pinned (OpenSpec.upto rtoRunsSpec)

end Rows
end Go.Proofs.YtjaheoccofcklabDoor
