/-
  No cell of these rows narrows 'for every input' (looked for: loops, veiled, ifaces, maps, wideKeys, modest, calm, conditions, laid).
  DERIVED. THE GIVEN ROWS OF THIS SEAT. 6 by the template 'for every input the law returns true; each argument reads behind the call as it read before'; 0 by the template 'total and deterministic' (their statements: YtnnebmgiifnckaaTotals.lean).
  GIVEN WITH THE SEED: the statements are not yours to turn. If you find one false, say at which input.
  Laid BY PROGRAM, IN A SANDBOX (cutbox-rows.mjs): the forced cells as the released guide's own fill.sh prints them over the translation faa329d6e4a0c1a4… (all of the seat's roots in one cut). By AI agents, Wed Nov 11 2026. No macro, syntax, notation, axiom, sorry.
-/
import Derived.Test.YtnnebmgiifnckaaChecked
import GoSem.Claim
import GoSem.ClaimJoined
import GoSem.ClaimMapViews
import Derived.JoinedTies
import Derived.KernelRfl
namespace Go.Proofs.Ytnnebmgiifnckaa
/- THE CELL 'sum', in the pinned program and in every row, IS THE sha256 OF THE DUMP (.gsa) THAT YtnnebmgiifnckaaProg.lean LOADS. Nothing in Lean hashes anything: it is a label: what it is worth is what the hold of that sum in a sandbox is worth. -/
noncomputable def Try.pinned : Pinned := { name := "ytnnebmgiifnckaa", sum := "faa329d6e4a0c1a4960eb43e9245c917c55d709aeffc274d9ee2274a16020f20", checked := Try.checked }
namespace Rows
def none {H : Type} : Left H := { results := [], args := [] }

/-- 'annexlaw2.SumUndoes': WHATEVER THE INPUT: true; the input reads as it did. -/
def sumUndoesSpec : ChangeSpec := { name := "sumUndoes", fn := fun _ => fun
  | [d1, d2] => { results := [.lit (.bool true)], args := [d1, d2] }
  | _ => none }
def sumUndoesRow : OpenClaim := { program := "ytnnebmgiifnckaa", sum := "faa329d6e4a0c1a4960eb43e9245c917c55d709aeffc274d9ee2274a16020f20", func := "annex/annexlaw2.SumUndoes", spec := "sumUndoes", apart := false }
def SumUndoesSaid : Prop := sumUndoesRow.holds Try.pinned (OpenSpec.ofChange sumUndoesSpec)

/-- ITS FALSE NEIGHBOUR: 'it returns false'. Refute it at one input. -/
def sumUndoesWrong : ChangeSpec := { name := "sumUndoes", fn := fun _ => fun
  | [d1, d2] => { results := [.lit (.bool false)], args := [d1, d2] }
  | _ => none }
def SumUndoesWrongFalsely : Prop := sumUndoesRow.holds Try.pinned (OpenSpec.ofChange sumUndoesWrong)

/-- 'annexlaw2.SumApart': WHATEVER THE INPUT: true; the input reads as it did. -/
def sumApartSpec : ChangeSpec := { name := "sumApart", fn := fun _ => fun
  | [d1, d2, d3] => { results := [.lit (.bool true)], args := [d1, d2, d3] }
  | _ => none }
def sumApartRow : OpenClaim := { program := "ytnnebmgiifnckaa", sum := "faa329d6e4a0c1a4960eb43e9245c917c55d709aeffc274d9ee2274a16020f20", func := "annex/annexlaw2.SumApart", spec := "sumApart", apart := false }
def SumApartSaid : Prop := sumApartRow.holds Try.pinned (OpenSpec.ofChange sumApartSpec)

/-- ITS FALSE NEIGHBOUR: 'it returns false'. Refute it at one input. -/
def sumApartWrong : ChangeSpec := { name := "sumApart", fn := fun _ => fun
  | [d1, d2, d3] => { results := [.lit (.bool false)], args := [d1, d2, d3] }
  | _ => none }
def SumApartWrongFalsely : Prop := sumApartRow.holds Try.pinned (OpenSpec.ofChange sumApartWrong)

/-- 'annexlaw2.SumNear': WHATEVER THE INPUT: true; the input reads as it did. -/
def sumNearSpec : ChangeSpec := { name := "sumNear", fn := fun _ => fun
  | [d1, d2, d3, d4] => { results := [.lit (.bool true)], args := [d1, d2, d3, d4] }
  | _ => none }
def sumNearRow : OpenClaim := { program := "ytnnebmgiifnckaa", sum := "faa329d6e4a0c1a4960eb43e9245c917c55d709aeffc274d9ee2274a16020f20", func := "annex/annexlaw2.SumNear", spec := "sumNear", apart := false }
def SumNearSaid : Prop := sumNearRow.holds Try.pinned (OpenSpec.ofChange sumNearSpec)

/-- ITS FALSE NEIGHBOUR: 'it returns false'. Refute it at one input. -/
def sumNearWrong : ChangeSpec := { name := "sumNear", fn := fun _ => fun
  | [d1, d2, d3, d4] => { results := [.lit (.bool false)], args := [d1, d2, d3, d4] }
  | _ => none }
def SumNearWrongFalsely : Prop := sumNearRow.holds Try.pinned (OpenSpec.ofChange sumNearWrong)

/-- 'annexlaw2.SumJoins': WHATEVER THE INPUT: true; the input reads as it did. -/
def sumJoinsSpec : ChangeSpec := { name := "sumJoins", fn := fun _ => fun
  | [d1, d2, d3] => { results := [.lit (.bool true)], args := [d1, d2, d3] }
  | _ => none }
def sumJoinsRow : OpenClaim := { program := "ytnnebmgiifnckaa", sum := "faa329d6e4a0c1a4960eb43e9245c917c55d709aeffc274d9ee2274a16020f20", func := "annex/annexlaw2.SumJoins", spec := "sumJoins", apart := false }
def SumJoinsSaid : Prop := sumJoinsRow.holds Try.pinned (OpenSpec.ofChange sumJoinsSpec)

/-- ITS FALSE NEIGHBOUR: 'it returns false'. Refute it at one input. -/
def sumJoinsWrong : ChangeSpec := { name := "sumJoins", fn := fun _ => fun
  | [d1, d2, d3] => { results := [.lit (.bool false)], args := [d1, d2, d3] }
  | _ => none }
def SumJoinsWrongFalsely : Prop := sumJoinsRow.holds Try.pinned (OpenSpec.ofChange sumJoinsWrong)

/-- 'annexlaw2.SumMended': WHATEVER THE INPUT: true; the input reads as it did. -/
def sumMendedSpec : ChangeSpec := { name := "sumMended", fn := fun _ => fun
  | [d1, d2, d3] => { results := [.lit (.bool true)], args := [d1, d2, d3] }
  | _ => none }
def sumMendedRow : OpenClaim := { program := "ytnnebmgiifnckaa", sum := "faa329d6e4a0c1a4960eb43e9245c917c55d709aeffc274d9ee2274a16020f20", func := "annex/annexlaw2.SumMended", spec := "sumMended", apart := false }
def SumMendedSaid : Prop := sumMendedRow.holds Try.pinned (OpenSpec.ofChange sumMendedSpec)

/-- ITS FALSE NEIGHBOUR: 'it returns false'. Refute it at one input. -/
def sumMendedWrong : ChangeSpec := { name := "sumMended", fn := fun _ => fun
  | [d1, d2, d3] => { results := [.lit (.bool false)], args := [d1, d2, d3] }
  | _ => none }
def SumMendedWrongFalsely : Prop := sumMendedRow.holds Try.pinned (OpenSpec.ofChange sumMendedWrong)

/-- 'annexlaw2.SumFinds': WHATEVER THE INPUT: true; the input reads as it did. -/
def sumFindsSpec : ChangeSpec := { name := "sumFinds", fn := fun _ => fun
  | [d1, d2] => { results := [.lit (.bool true)], args := [d1, d2] }
  | _ => none }
def sumFindsRow : OpenClaim := { program := "ytnnebmgiifnckaa", sum := "faa329d6e4a0c1a4960eb43e9245c917c55d709aeffc274d9ee2274a16020f20", func := "annex/annexlaw2.SumFinds", spec := "sumFinds", apart := false }
def SumFindsSaid : Prop := sumFindsRow.holds Try.pinned (OpenSpec.ofChange sumFindsSpec)

/-- ITS FALSE NEIGHBOUR: 'it returns false'. Refute it at one input. -/
def sumFindsWrong : ChangeSpec := { name := "sumFinds", fn := fun _ => fun
  | [d1, d2] => { results := [.lit (.bool false)], args := [d1, d2] }
  | _ => none }
def SumFindsWrongFalsely : Prop := sumFindsRow.holds Try.pinned (OpenSpec.ofChange sumFindsWrong)

/- THE SECOND FORM. 'bulk': how many values and letters a reading holds, each counted each time it is reached (what is shared counts as often as it is met; a slice's spare places count too). A statement '..UptoSaid' is the law's where the arguments, and the package variables that the reading takes, are together of bulk at most 1048576: NARROWER than '..Said'. Prove '..Said' where nothing that the law and all that it calls make is longer than what came in: it says more and counts as full. Else prove '..UptoSaid'. A law counts once. -/
mutual
def uptoBulk {H : Type} : DataW H → Nat
  | .lit (.string bytes) => bytes.length + 1
  | .lit _ => 1
  | .nil => 1
  | .ptr d => uptoBulk d + 1
  | .slice elems spare => uptoBulkAll elems + uptoBulkAll spare + 1
  | .agg parts => uptoBulkAll parts + 1
  | .iface _ d => uptoBulk d + 1
  | .map entries => uptoBulkEntries entries + 1
  | .held _ => 1
def uptoBulkAll {H : Type} : List (DataW H) → Nat
  | [] => 0
  | d :: r => uptoBulk d + uptoBulkAll r
def uptoBulkEntries {H : Type} : List (Lit × DataW H) → Nat
  | [] => 0
  | x :: r => uptoBulkEntry x + uptoBulkEntries r
def uptoBulkEntry {H : Type} : Lit × DataW H → Nat
  | (.string bytes, d) => bytes.length + uptoBulk d + 1
  | (_, d) => uptoBulk d + 1
 end
def uptoSmall : (H : Type) → List (DataW H) → Bool := fun _ ds => decide (uptoBulkAll ds ≤ 1048576)
def OpenSpec.upto (s : _root_.Go.ChangeSpec) : _root_.Go.OpenSpec := { _root_.Go.OpenSpec.ofChange s with cond := some uptoSmall }

/-- 'annexlaw2.SumUndoes', WHERE WHAT IT READS IS OF BULK AT MOST 1048576: true; the input reads as it did. -/
def sumUndoesUptoRow : OpenClaim := { program := "ytnnebmgiifnckaa", sum := "faa329d6e4a0c1a4960eb43e9245c917c55d709aeffc274d9ee2274a16020f20", func := "annex/annexlaw2.SumUndoes", spec := "sumUndoes", apart := false, narrowed := true }
def SumUndoesUptoSaid : Prop := sumUndoesUptoRow.holds Try.pinned (OpenSpec.upto sumUndoesSpec)

/-- 'annexlaw2.SumApart', WHERE WHAT IT READS IS OF BULK AT MOST 1048576: true; the input reads as it did. -/
def sumApartUptoRow : OpenClaim := { program := "ytnnebmgiifnckaa", sum := "faa329d6e4a0c1a4960eb43e9245c917c55d709aeffc274d9ee2274a16020f20", func := "annex/annexlaw2.SumApart", spec := "sumApart", apart := false, narrowed := true }
def SumApartUptoSaid : Prop := sumApartUptoRow.holds Try.pinned (OpenSpec.upto sumApartSpec)

/-- 'annexlaw2.SumNear', WHERE WHAT IT READS IS OF BULK AT MOST 1048576: true; the input reads as it did. -/
def sumNearUptoRow : OpenClaim := { program := "ytnnebmgiifnckaa", sum := "faa329d6e4a0c1a4960eb43e9245c917c55d709aeffc274d9ee2274a16020f20", func := "annex/annexlaw2.SumNear", spec := "sumNear", apart := false, narrowed := true }
def SumNearUptoSaid : Prop := sumNearUptoRow.holds Try.pinned (OpenSpec.upto sumNearSpec)

/-- 'annexlaw2.SumJoins', WHERE WHAT IT READS IS OF BULK AT MOST 1048576: true; the input reads as it did. -/
def sumJoinsUptoRow : OpenClaim := { program := "ytnnebmgiifnckaa", sum := "faa329d6e4a0c1a4960eb43e9245c917c55d709aeffc274d9ee2274a16020f20", func := "annex/annexlaw2.SumJoins", spec := "sumJoins", apart := false, narrowed := true }
def SumJoinsUptoSaid : Prop := sumJoinsUptoRow.holds Try.pinned (OpenSpec.upto sumJoinsSpec)

/-- 'annexlaw2.SumMended', WHERE WHAT IT READS IS OF BULK AT MOST 1048576: true; the input reads as it did. -/
def sumMendedUptoRow : OpenClaim := { program := "ytnnebmgiifnckaa", sum := "faa329d6e4a0c1a4960eb43e9245c917c55d709aeffc274d9ee2274a16020f20", func := "annex/annexlaw2.SumMended", spec := "sumMended", apart := false, narrowed := true }
def SumMendedUptoSaid : Prop := sumMendedUptoRow.holds Try.pinned (OpenSpec.upto sumMendedSpec)

/-- 'annexlaw2.SumFinds', WHERE WHAT IT READS IS OF BULK AT MOST 1048576: true; the input reads as it did. -/
def sumFindsUptoRow : OpenClaim := { program := "ytnnebmgiifnckaa", sum := "faa329d6e4a0c1a4960eb43e9245c917c55d709aeffc274d9ee2274a16020f20", func := "annex/annexlaw2.SumFinds", spec := "sumFinds", apart := false, narrowed := true }
def SumFindsUptoSaid : Prop := sumFindsUptoRow.holds Try.pinned (OpenSpec.upto sumFindsSpec)

end Rows
end Go.Proofs.Ytnnebmgiifnckaa
