/- annexlaw2.known by its contract: true. -/
import Derived.Test.YtnnebmgiifnckabMore
namespace Go.Proofs.Ytnnebmgiifnckab
open Go.RowKit
set_option maxRecDepth 100000

theorem lies_new (w : World) (n : Nat) (l : List Int) (t : TypeId) (hl : l.length = n) : Lies (w.alloc (.cells (l.map (Value.int .u8)).toArray t)) (some ⟨w.heap.size, 0, none⟩) n n l := by
  refine ⟨hl, Nat.le_refl _, (fun h => by cases h), fun ad had t u hu => ?_⟩
  obtain rfl := Option.some.inj had
  rw [Addr.add_lit, Nat.zero_add, World.cell?_alloc_new]
  simpa using hu

theorem known1 : fwd 14695981039346656037 [97] = 12638187200555641996 := by decide +kernel
theorem known2 : bwd 9625390261332436968 [98, 97, 114] = 15902901984413996407 := by decide +kernel
theorem known3 : fwd 14695981039346656037 [102, 111, 111] = 15902901984413996407 := by decide +kernel

theorem call1 (w : World) : Calls Try.prog 10 #[.slice (some ⟨w.heap.size, 0, none⟩) 1 1] (w.alloc (.cells #[.int .u8 97] 5)) fun e w' => e = .returned (.int .u64 12638187200555641996) ∧ w' = w.alloc (.cells #[.int .u8 97] 5) := by
  have := sum_any _ 1 1 [97] _ (by omega) (lies_new w 1 [97] 5 rfl) (by decide)
  rwa [known1] at this
theorem call2 (w : World) : Calls Try.prog 14 #[.int .u64 9625390261332436968, .slice (some ⟨w.heap.size, 0, none⟩) 3 3] (w.alloc (.cells #[.int .u8 98, .int .u8 97, .int .u8 114] 5)) fun e w' => e = .returned (.int .u64 15902901984413996407) ∧ w' = w.alloc (.cells #[.int .u8 98, .int .u8 97, .int .u8 114] 5) := by
  have := back_any 9625390261332436968 _ 3 3 [98, 97, 114] _ (by omega) (lies_new w 3 [98, 97, 114] 5 rfl) (by decide)
  rwa [known2] at this
theorem call3 (w : World) : Calls Try.prog 10 #[.slice (some ⟨w.heap.size, 0, none⟩) 3 3] (w.alloc (.cells #[.int .u8 102, .int .u8 111, .int .u8 111] 5)) fun e w' => e = .returned (.int .u64 15902901984413996407) ∧ w' = w.alloc (.cells #[.int .u8 102, .int .u8 111, .int .u8 111] 5) := by
  have := sum_any _ 3 3 [102, 111, 111] _ (by omega) (lies_new w 3 [102, 111, 111] 5 rfl) (by decide)
  rwa [known3] at this

set_option maxHeartbeats 400000 in
theorem known_any (w : World) :
    Calls Try.prog 9 #[] w fun e w' => e = .returned (.bool true) ∧ Below w.heap.size w w' := by
  go_enter Try.func9, Try.ntmps9
  go_wp2_with fail
  refine (call1 w).mono ?_
  rintro e w1 ⟨rfl, hw1⟩
  have hb1 : Below w.heap.size w w1 := by
    rw [hw1]
    exact (Below.refl _ _).alloc (Nat.le_refl _) _
  clear hw1
  go_wp2_with fail
  refine (call2 w1).mono ?_
  rintro e w2 ⟨rfl, hw2⟩
  have hb2 : Below w.heap.size w w2 := by
    rw [hw2]
    exact hb1.alloc hb1.size _
  clear hw2 hb1
  go_wp2_with fail
  refine (call3 w2).mono ?_
  rintro e w3 ⟨rfl, hw3⟩
  have hb3 : Below w.heap.size w w3 := by
    rw [hw3]
    exact hb2.alloc hb2.size _
  clear hw3 hb2
  go_wp2_with fail
  go_ret
  exact ⟨rfl, hb3⟩
end Go.Proofs.Ytnnebmgiifnckab
