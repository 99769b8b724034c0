/- sum.step, sum.undo, sum.inverseOfPrime by their contracts. -/
import Derived.Test.YtgpeefedboomoabDoorSMath
namespace Go.Proofs.YtgpeefedboomoabDoor.S2
open Go.RowKit
set_option maxRecDepth 100000

set_option maxHeartbeats 400000 in
theorem step_any (h x : Int) (w : World) (hx : By x) :
    Calls Tryd.prog 63 #[.int .u64 h, .int .u8 x] w fun e w' => e = .returned (.int .u64 (stp h x)) ∧ w' = w := by
  have h1 := hx.1; have h2 := hx.2
  go_enter Tryd.func63, Tryd.ntmps63
  go_wp2
  go_ret
  exact ⟨rfl, rfl⟩
end Go.Proofs.YtgpeefedboomoabDoor.S2
