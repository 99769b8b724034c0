/- twins of AlarmSorts, walked, whatever the list. -/
import Derived.Test.YtbopghpfghaoeaaTNL
import Derived.Test.YtbopghpfghaoeaaTNG
namespace Go.Proofs.Ytbopghpfghaoeaa
open Go.RowKit Go.Maps
theorem twins_any (ao : Option Addr) (n c : Nat) (es : List (Int × Int)) (now : Int) (aW : Option Addr) (nW cW : Nat) (w : World) (hn : n ≤ 140737488355328) (h : PLies w ao n es) (hW : Li w aW nW cW ((dueS (setAll [] (es.take 300)) now).map Prod.fst)) :
    Calls Try.prog 16 #[.slice ao n c, .int .i64 now, .slice aW nW cW] w fun e w' => e = .returned (.bool true) ∧ Below w.heap.size w w' := by
  by_cases q : n ≤ 300
  · exact twins_L ao n c es now aW nW cW w hn h hW q
  · exact twins_G ao n c es now aW nW cW w hn h hW (by omega)
end Go.Proofs.Ytbopghpfghaoeaa
