/- How many there may be. -/
import Derived.Test.YtkfdneohkgmmbaaQ1
import Derived.Deep.OwnRows
namespace Go.Proofs.Ytkfdneohkgmmbaa
open Go.RowKit
set_option maxRecDepth 100000
theorem made_nil (c : Nat) : (madeCells #[Value.slice none 0 0] c) = (List.replicate c (Value.slice none 0 0)).toArray := by rw [← toList_madeCells_one]
/-- From 1 to 64. -/
def manyB (n : Int) : Bool := decide (1 ≤ n ∧ n ≤ 64)
theorem many_any (n : Int) (w : World) : Calls Try.prog 28 #[.int .i64 n] w fun e w' => e = .returned (.bool (manyB n)) ∧ w' = w := by
  by_cases h1 : 1 ≤ n
  · by_cases h2 : n ≤ 64
    · have hb : manyB n = true := by unfold manyB; simp; omega
      rw [hb]; clear hb
      go_enter Try.func28, Try.ntmps28
      go_wp2
      go_ret
      exact ⟨rfl, rfl⟩
    · have hb : manyB n = false := by unfold manyB; simp; omega
      rw [hb]; clear hb
      go_enter Try.func28, Try.ntmps28
      go_wp2
      go_ret
      exact ⟨rfl, rfl⟩
  · have hb : manyB n = false := by unfold manyB; simp; omega
    rw [hb]; clear hb
    go_enter Try.func28, Try.ntmps28
    go_wp2
    go_ret
    exact ⟨rfl, rfl⟩
end Go.Proofs.Ytkfdneohkgmmbaa
