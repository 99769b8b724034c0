/- small of AlarmSorts, walked, whatever the list. -/
import Derived.Test.YtbopghpfghaoeaaSML
import Derived.Test.YtbopghpfghaoeaaSMG
namespace Go.Proofs.Ytbopghpfghaoeaa
open Go.RowKit Go.Maps
theorem small_any (ao : Option Addr) (n c : Nat) (es : List (Int × Int)) (now : Int) (w : World) (hn : n ≤ 140737488355328) (h : PLies w ao n es) :
    Calls Try.prog 17 #[.slice ao n c, .int .i64 now] w fun e w' => e = .returned (.bool true) ∧ Below w.heap.size w w' := by
  by_cases q : n ≤ 300
  · exact small_L ao n c es now w hn h q
  · exact small_G ao n c es now w hn h (by omega)
end Go.Proofs.Ytbopghpfghaoeaa
