/- text by its contracts. -/
import Derived.Test.YtgpeefedboomoaaDoorU32
import Derived.Test.YtgpeefedboomoaaDoorPutB
namespace Go.Proofs.YtgpeefedboomoaaDoor
open Go.RowKit
set_option maxRecDepth 100000

theorem padN_le (k : Nat) : padN k ≤ 3 := by unfold padN; omega
end Go.Proofs.YtgpeefedboomoaaDoor
