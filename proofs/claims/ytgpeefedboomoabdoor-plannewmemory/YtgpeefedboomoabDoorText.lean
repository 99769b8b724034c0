/- text by its contracts. -/
import Derived.Test.YtgpeefedboomoabDoorU32
import Derived.Test.YtgpeefedboomoabDoorPutB
namespace Go.Proofs.YtgpeefedboomoabDoor
open Go.RowKit
set_option maxRecDepth 100000

theorem padN_le (k : Nat) : padN k ≤ 3 := by unfold padN; omega
end Go.Proofs.YtgpeefedboomoabDoor
