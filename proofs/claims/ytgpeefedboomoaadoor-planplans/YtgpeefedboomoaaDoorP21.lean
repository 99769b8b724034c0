/- PlanPlans, walked. -/
import Derived.Test.YtgpeefedboomoaaDoorP15
import Derived.Test.YtgpeefedboomoaaDoorP19
namespace Go.Proofs.YtgpeefedboomoaaDoor
open Go.RowKit
set_option maxRecDepth 100000

attribute [local go_sem ↓ 100000] ly_store ly_load
attribute [local go_sem] LyStore.new LyLoad.new LyStore.at LyLoad.at

set_option maxHeartbeats 4000000 in
theorem plans_any (s : Shp) (w : World) (hB : Bds w) : Calls Tryd.prog 8 #[shV s] w fun e w' => e = .returned (.bool true) ∧ Below w.heap.size w w' := by
  have hq := Below.refl w.heap.size w
  go_enter Tryd.func8, Tryd.ntmps8
  have hn := newBox w (.cells #[.int .i64 s.cl, .int .i64 s.wi, .int .i64 s.pl, .int .i64 s.ca, .int .i64 s.ino, .int .i64 s.qu, .int .i64 s.da, .int .i64 s.jo] 23)
  have hS_1 := ShBox.new w s
  have lt_hS_1 : w.heap.size < (w.alloc (.cells #[.int .i64 s.cl, .int .i64 s.wi, .int .i64 s.pl, .int .i64 s.ca, .int .i64 s.ino, .int .i64 s.qu, .int .i64 s.da, .int .i64 s.jo] 23)).heap.size := by simp
  have hB_1 := hB.later hn (Nat.le_refl _)
  have hq_1 := hq.trans (hn.mono hq.size)
  clear hB hq hn
  go_wp2_with fail
  generalize (w.alloc (.cells #[.int .i64 s.cl, .int .i64 s.wi, .int .i64 s.pl, .int .i64 s.ca, .int .i64 s.ino, .int .i64 s.qu, .int .i64 s.da, .int .i64 s.jo] 23)) = w1 at *
  refine (first_any _ hB_1).mono ?_
  rintro e w2 ⟨rfl, hb⟩
  have hB_2 := hB_1.later hb (Nat.le_refl _)
  have hq_2 := hq_1.trans (hb.mono hq_1.size)
  have hS_2 := hS_1.later hb (by first | exact lt_hS_1 | omega)
  have lt_hS_2 := Nat.lt_of_lt_of_le lt_hS_1 hb.size
  clear hB_1 hq_1 hS_1 lt_hS_1 hb
  obtain ⟨a0, a1, a2, a3, a4, a5, a6, a7⟩ := hS_2
  go_wp2_with fail
  have hS_2 := ShBox.mk a0 a1 a2 a3 a4 a5 a6 a7
  clear a0 a1 a2 a3 a4 a5 a6 a7
  refine (plan_any s _ hB_2).mono ?_
  rintro e w3 ⟨rfl, hb⟩
  have hB_3 := hB_2.later hb (Nat.le_refl _)
  have hq_3 := hq_2.trans (hb.mono hq_2.size)
  have hS_3 := hS_2.later hb (by first | exact lt_hS_2 | omega)
  have lt_hS_3 := Nat.lt_of_lt_of_le lt_hS_2 hb.size
  clear hB_2 hq_2 hS_2 lt_hS_2 hb
  have hn := newBox w3 (.cells #[.int .i64 (planL s).bo, .int .i64 (planL s).jr, .int .i64 (planL s).jl, .int .i64 (planL s).le, .int .i64 (planL s).ll, .int .i64 (planL s).bi, .int .i64 (planL s).bl, .int .i64 (planL s).ta, .int .i64 (planL s).tl, .int .i64 (planL s).dt, .int .i64 (planL s).dl, .int .i64 (planL s).to, .int .i64 (planL s).sh.cl, .int .i64 (planL s).sh.wi, .int .i64 (planL s).sh.pl, .int .i64 (planL s).sh.ca, .int .i64 (planL s).sh.ino, .int .i64 (planL s).sh.qu, .int .i64 (planL s).sh.da, .int .i64 (planL s).sh.jo] 26)
  have hP_4 : (w3.alloc (.cells #[.int .i64 (planL s).bo, .int .i64 (planL s).jr, .int .i64 (planL s).jl, .int .i64 (planL s).le, .int .i64 (planL s).ll, .int .i64 (planL s).bi, .int .i64 (planL s).bl, .int .i64 (planL s).ta, .int .i64 (planL s).tl, .int .i64 (planL s).dt, .int .i64 (planL s).dl, .int .i64 (planL s).to, .int .i64 (planL s).sh.cl, .int .i64 (planL s).sh.wi, .int .i64 (planL s).sh.pl, .int .i64 (planL s).sh.ca, .int .i64 (planL s).sh.ino, .int .i64 (planL s).sh.qu, .int .i64 (planL s).sh.da, .int .i64 (planL s).sh.jo] 26)).heap[w3.heap.size]? = some (.cells #[.int .i64 (planL s).bo, .int .i64 (planL s).jr, .int .i64 (planL s).jl, .int .i64 (planL s).le, .int .i64 (planL s).ll, .int .i64 (planL s).bi, .int .i64 (planL s).bl, .int .i64 (planL s).ta, .int .i64 (planL s).tl, .int .i64 (planL s).dt, .int .i64 (planL s).dl, .int .i64 (planL s).to, .int .i64 (planL s).sh.cl, .int .i64 (planL s).sh.wi, .int .i64 (planL s).sh.pl, .int .i64 (planL s).sh.ca, .int .i64 (planL s).sh.ino, .int .i64 (planL s).sh.qu, .int .i64 (planL s).sh.da, .int .i64 (planL s).sh.jo] 26 (0, 0)) := heap_alloc_last w3 _
  have hB_4 := hB_3.later hn (Nat.le_refl _)
  have hq_4 := hq_3.trans (hn.mono hq_3.size)
  have hS_4 := hS_3.later hn (by first | exact lt_hS_3 | omega)
  have lt_hS_4 := Nat.lt_of_lt_of_le lt_hS_3 hn.size
  clear hB_3 hq_3 hS_3 lt_hS_3 hn
  obtain ⟨a0, a1, a2, a3, a4, a5, a6, a7⟩ := hS_4
  go_wp2_with fail
  have hS_4 := ShBox.mk a0 a1 a2 a3 a4 a5 a6 a7
  clear a0 a1 a2 a3 a4 a5 a6 a7
  generalize (w3.alloc (.cells #[.int .i64 (planL s).bo, .int .i64 (planL s).jr, .int .i64 (planL s).jl, .int .i64 (planL s).le, .int .i64 (planL s).ll, .int .i64 (planL s).bi, .int .i64 (planL s).bl, .int .i64 (planL s).ta, .int .i64 (planL s).tl, .int .i64 (planL s).dt, .int .i64 (planL s).dl, .int .i64 (planL s).to, .int .i64 (planL s).sh.cl, .int .i64 (planL s).sh.wi, .int .i64 (planL s).sh.pl, .int .i64 (planL s).sh.ca, .int .i64 (planL s).sh.ino, .int .i64 (planL s).sh.qu, .int .i64 (planL s).sh.da, .int .i64 (planL s).sh.jo] 26)) = w4 at *
  refine (rplan_any s _).mono ?_
  rintro e w5 ⟨rfl, hb⟩
  have hB_5 := hB_4.later hb (Nat.le_refl _)
  have hq_5 := hq_4.trans (hb.mono hq_4.size)
  have hS_5 := hS_4.later hb (by first | exact lt_hS_4 | omega)
  have hP_5 := (hb.block _ (lt_of_block hP_4)).trans hP_4
  have lt_hS_5 := Nat.lt_of_lt_of_le lt_hS_4 hb.size
  clear hB_4 hq_4 hS_4 lt_hS_4 hP_4 hb
  have hn := newBox w5 (.cells #[.int .i64 (planL s).bo, .int .i64 (planL s).jr, .int .i64 (planL s).jl, .int .i64 (planL s).le, .int .i64 (planL s).ll, .int .i64 (planL s).bi, .int .i64 (planL s).bl, .int .i64 (planL s).ta, .int .i64 (planL s).tl, .int .i64 (planL s).dt, .int .i64 (planL s).dl, .int .i64 (planL s).to, .int .i64 (planL s).sh.cl, .int .i64 (planL s).sh.wi, .int .i64 (planL s).sh.pl, .int .i64 (planL s).sh.ca, .int .i64 (planL s).sh.ino, .int .i64 (planL s).sh.qu, .int .i64 (planL s).sh.da, .int .i64 (planL s).sh.jo] 26)
  have hB_6 := hB_5.later hn (Nat.le_refl _)
  have hq_6 := hq_5.trans (hn.mono hq_5.size)
  have hS_6 := hS_5.later hn (by first | exact lt_hS_5 | omega)
  have hP_6 := (hn.block _ (lt_of_block hP_5)).trans hP_5
  have lt_hS_6 := Nat.lt_of_lt_of_le lt_hS_5 hn.size
  clear hB_5 hq_5 hS_5 lt_hS_5 hP_5 hn
  have hld := LyLoad.row hP_6 rfl
  go_wp2_with fail
  clear hld
  generalize (w5.alloc (.cells #[.int .i64 (planL s).bo, .int .i64 (planL s).jr, .int .i64 (planL s).jl, .int .i64 (planL s).le, .int .i64 (planL s).ll, .int .i64 (planL s).bi, .int .i64 (planL s).bl, .int .i64 (planL s).ta, .int .i64 (planL s).tl, .int .i64 (planL s).dt, .int .i64 (planL s).dl, .int .i64 (planL s).to, .int .i64 (planL s).sh.cl, .int .i64 (planL s).sh.wi, .int .i64 (planL s).sh.pl, .int .i64 (planL s).sh.ca, .int .i64 (planL s).sh.ino, .int .i64 (planL s).sh.qu, .int .i64 (planL s).sh.da, .int .i64 (planL s).sh.jo] 26)) = w6 at *
  refine (sameLayout_any (planL s) (planL s) _).mono ?_
  rintro e w7 ⟨rfl, hb⟩
  have hB_7 := hB_6.later hb (Nat.le_refl _)
  have hq_7 := hq_6.trans (hb.mono hq_6.size)
  have hS_7 := hS_6.later hb (by first | exact lt_hS_6 | omega)
  have hP_7 := (hb.block _ (lt_of_block hP_6)).trans hP_6
  have lt_hS_7 := Nat.lt_of_lt_of_le lt_hS_6 hb.size
  clear hB_6 hq_6 hS_6 lt_hS_6 hP_6 hb
  rw [decide_eq_true (rfl : planL s = planL s)]
  go_wp2_with (go_at_call 12; refine (num_id _ _).mono ?_; rintro e wn ⟨rfl, hwn⟩; subst wn)
  go_ret
  exact ⟨rfl, hq_7⟩
end Go.Proofs.YtgpeefedboomoaaDoor
