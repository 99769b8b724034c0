/- BitsOwn, no field. -/
import Derived.Test.YtjpaooejkbkliaaDoorOwnLoop
namespace Go.Proofs.YtjpaooejkbkliaaDoor
open Go.RowKit
set_option maxRecDepth 100000

set_option maxHeartbeats 1000000 in
theorem readers_zero (bk : Nat) (a1 : Option Addr) (cap : Nat) (w : World) :
    Calls Tryd.prog 34 #[.pointer (some ⟨bk, 0, none⟩), .slice a1 0 cap] w fun e w' => e = .returned (.bool true) ∧ w' = w := by
  go_enter Tryd.func34, Tryd.ntmps34
  go_wp2_with fail
  refine wp_loop_rounds 1 ?_
  rw [rounds_succ]
  go_wp2_with fail
  refine wp_loop_rounds 1 ?_
  rw [rounds_succ]
  go_wp2_with fail
  refine wp_loop_rounds 1 ?_
  rw [rounds_succ]
  go_wp2_with fail
  refine wp_loop_rounds 1 ?_
  rw [rounds_succ]
  go_wp2_with fail
  refine wp_loop_rounds 1 ?_
  rw [rounds_succ]
  go_wp2
  go_ret
  exact ⟨rfl, rfl⟩

set_option maxHeartbeats 1000000 in
theorem own_zero (a0 : Option Addr) (lb cb : Nat) (a1 : Option Addr) (cap : Nat) (er : Nat → Addr) (w : World) (hE : Errs w er) :
    Calls Tryd.prog 8 #[.slice a0 lb cb, .slice a1 0 cap] w fun e w' => e = .returned (.bool true) ∧ Below w.heap.size w w' := by
  go_enter Tryd.func8, Tryd.ntmps8
  go_wp2_with fail
  refine (head_any er w hE).mono ?_
  rintro e w1 ⟨rfl, hb1⟩
  have hbk0 := Bk.new w1 w.heap.size hb1.size
  have hb1a := hb1.alloc hb1.size (.cells #[.slice none 0 0, .slice none 0 0] 59)
  go_wp2_with fail
  refine wp_loop_rounds 1 ?_
  rw [rounds_succ]
  go_wp2_with fail
  refine (readers_zero _ a1 cap _).mono ?_
  rintro e w2 ⟨rfl, hw2⟩
  subst hw2
  go_wp2_with fail
  refine (whole_any _ _ _ [] _ hbk0 (by simp) (fun e h => by cases h)).mono ?_
  rintro e w3 ⟨rfl, hb3⟩
  go_wp2
  go_ret
  exact ⟨rfl, hb1a.trans (hb3.mono hb1a.size)⟩
end Go.Proofs.YtjpaooejkbkliaaDoor
