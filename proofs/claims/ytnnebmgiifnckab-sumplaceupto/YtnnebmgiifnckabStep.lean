/- sum.step, sum.undo, sum.inverseOfPrime by their contracts. -/
import Derived.Test.YtnnebmgiifnckabMath
namespace Go.Proofs.Ytnnebmgiifnckab
open Go.RowKit
set_option maxRecDepth 100000

set_option maxHeartbeats 400000 in
theorem step_any (h x : Int) (w : World) (hx : By x) :
    Calls Try.prog 23 #[.int .u64 h, .int .u8 x] w fun e w' => e = .returned (.int .u64 (stp h x)) ∧ w' = w := by
  have h1 := hx.1; have h2 := hx.2
  go_enter Try.func23, Try.ntmps23
  go_wp2
  go_ret
  exact ⟨rfl, rfl⟩

set_option maxHeartbeats 400000 in
theorem undo_any (h x : Int) (w : World) (hx : By x) :
    Calls Try.prog 26 #[.int .u64 h, .int .u8 x, .int .u64 14886173955864302971] w fun e w' => e = .returned (.int .u64 (und h x)) ∧ w' = w := by
  have h1 := hx.1; have h2 := hx.2
  go_enter Try.func26, Try.ntmps26
  go_wp2
  go_ret
  exact ⟨rfl, rfl⟩

set_option maxHeartbeats 400000 in
theorem inv_any (w : World) :
    Calls Try.prog 25 #[] w fun e w' => e = .returned (.int .u64 14886173955864302971) ∧ w' = w := by
  go_enter Try.func25, Try.ntmps25
  go_wp2
  refine wp_loop_rounds 6 ?_
  iterate 6 (rw [rounds_succ]; go_wp2)
  go_ret
  exact ⟨rfl, rfl⟩
end Go.Proofs.Ytnnebmgiifnckab
