/- A row of the table: holds, keep, narrowed; waits. -/
import Derived.Test.YtjaheoccofcklabDoorBase
namespace Go.Proofs.YtjaheoccofcklabDoor
open Go.RowKit
set_option maxRecDepth 100000

abbrev rwV (a b : Int) : Value := .agg #[.int .i64 a, .int .i64 b]

theorem holds_any (a b n : Int) (w : World) :
    Calls Tryd.prog 26 #[rwV a b, .int .i64 n] w fun e w' => e = .returned (.bool (decide (a ≤ n ∧ n ≤ b))) ∧ Below w.heap.size w w' := by
  have hb0 := newBox w (.cells #[.int .i64 a, .int .i64 b] 41)
  go_enter Tryd.func26, Tryd.ntmps26
  by_cases h : a ≤ n
  · have h' : decide (a ≤ n) = true := decide_eq_true h
    go_wp2
    go_ret
    exact ⟨by simp [h], hb0⟩
  · have h' : decide (a ≤ n) = false := decide_eq_false h
    go_wp2
    go_ret
    exact ⟨by simp, hb0⟩

theorem keep_any (a b n : Int) (w : World) :
    Calls Tryd.prog 19 #[rwV a b, .int .i64 n] w fun e w' => e = .returned (.int .i64 (min (max n a) b)) ∧ Below w.heap.size w w' := by
  have hb0 := newBox w (.cells #[.int .i64 a, .int .i64 b] 41)
  go_enter Tryd.func19, Tryd.ntmps19
  go_wp2
  all_goals
    go_ret
    refine ⟨?_, hb0⟩
    show Ending.returned (Value.int .i64 _) = _
    congr 2
    rename_i h1
    first | rw [if_pos h] at h1 | rw [if_neg (Int.not_lt.2 h)] at h1
    omega

theorem narrowed_any (a b l m : Int) (w : World) :
    Calls Tryd.prog 27 #[rwV a b, .int .i64 l, .int .i64 m] w fun e w' => e = .returned (rwV (max a l) (min b m)) ∧ Below w.heap.size w w' := by
  have hb0 := newBox w (.cells #[.int .i64 a, .int .i64 b] 41)
  have hb1 := fun x y => newBox (w.alloc (.cells #[.int .i64 a, .int .i64 b] 41)) (.cells #[.int .i64 x, .int .i64 y] 41)
  go_enter Tryd.func27, Tryd.ntmps27
  go_wp2
  all_goals
    refine bodyPost_ret (v := .agg #[.int .i64 _, .int .i64 _]) (by simp [results, Tryd.results27, go_sem]; exact ⟨rfl, rfl⟩) rfl ⟨?_, hb0.trans ((hb1 _ _).mono hb0.size)⟩
    show Ending.returned (Value.agg #[.int .i64 _, .int .i64 _]) = _
    congr 2
    simp only [Array.mk.injEq, List.cons.injEq, Value.int.injEq, true_and, and_true]
    omega

theorem waits_any (p : Par) (w : World) (hR : Rws w) :
    Calls Tryd.prog 18 #[paV p] w fun e w' => e = .returned (rwV (max 1 p.mi) (min 1048576 p.ma)) ∧ Below w.heap.size w w' := by
  have hq := newBox2 w (.cells #[.int .i64 p.mi, .int .i64 p.fi, .int .i64 p.ma] 23) (.cells #[.int .i64 0, .int .i64 0] 41)
  have hx := RBox.of (heap_new2 w (.cells #[.int .i64 p.mi, .int .i64 p.fi, .int .i64 p.ma] 23) (.cells #[.int .i64 0, .int .i64 0] 41))
  have hs : w.heap.size + 1 < ((w.alloc (.cells #[.int .i64 p.mi, .int .i64 p.fi, .int .i64 p.ma] 23)).alloc (.cells #[.int .i64 0, .int .i64 0] 41)).heap.size := by simp
  obtain ⟨g0, g1, g2, g3, g4, g5, g6, g7⟩ := hR.later hq (Nat.le_refl _)
  go_enter Tryd.func18, Tryd.ntmps18
  go_wp2_with fail
  clear g0 g1 g2 g3 g4 g5 g6 g7 hR
  refine (narrowed_any _ _ _ _ _).mono ?_
  rintro e w1 ⟨rfl, hb⟩
  obtain ⟨k0, k1, f0, f1⟩ := hx.later hb hs
  have hq1 := hq.trans (hb.mono hq.size)
  clear hb hq hx hs
  go_wp2
  refine bodyPost_ret (v := rwV (max 1 p.mi) (min 1048576 p.ma)) (by simp [results, Tryd.results18, go_sem, k0, k1]) rfl ⟨rfl, ?_⟩
  exact (hq1.setCell (Nat.le_succ _) _).setCell (Nat.le_succ _) _
end Go.Proofs.YtjaheoccofcklabDoor
