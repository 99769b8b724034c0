/- Put32 and Put64 by their contracts. -/
import Derived.Test.YtgpeefedboomoabDoorPut
namespace Go.Proofs.YtgpeefedboomoabDoor
open Go.RowKit
set_option maxRecDepth 100000

theorem u64_wrap_bd (X : Int) : 0 ≤ IntKind.u64.wrap X ∧ IntKind.u64.wrap X ≤ 18446744073709551615 := by
  simp [IntKind.wrap, IntKind.bits, IntKind.signed]; omega

set_option maxHeartbeats 400000 in
theorem put32_any (ao : Option Addr) (len cap : Nat) (X : Int) (bs : List Int) (w : World) (hbd : len + 4 ≤ 140737488355328) (hL : Lies w ao len cap bs) :
    Calls Tryd.prog 44 #[.slice ao len cap, .int .i64 X] w fun e w' => Made w e w' (len + 4) (bs ++ be (IntKind.u64.wrap X) 4) := by
  go_enter Tryd.func44, Tryd.ntmps44
  go_wp2_with (first
    | (go_at_call 55; refine (room_any ao len cap 4 bs _ hbd hL).mono ?_; rintro e w1 ⟨rfl, hown1, hb1⟩)
    | (go_at_call 54; refine (num_any w.heap.size len (len + 4) 4 w.heap.size (IntKind.u64.wrap X) bs _ (u64_wrap_bd X).1 (u64_wrap_bd X).2 (by omega) hown1 (by omega)).mono ?_; rintro e w2 ⟨rfl, hown2, hg2⟩))
  go_ret
  exact ⟨w.heap.size, len + 4, rfl, hown2, hb1.grown hg2 hb1.size (fun k hk => by cases hk; exact Nat.le_refl _)⟩
end Go.Proofs.YtgpeefedboomoabDoor
