/- PlanCovers, walked. -/
import Derived.Test.YtgpeefedboomoaaDoorP15
import Derived.Test.YtgpeefedboomoaaDoorP18
namespace Go.Proofs.YtgpeefedboomoaaDoor
open Go.RowKit
set_option maxRecDepth 100000

attribute [local go_sem ↓ 100000] ly_store ly_load
attribute [local go_sem] LyStore.new LyLoad.new LyStore.at LyLoad.at
theorem planL_lay {s : Shp} (h : planE s = 0) : planL s = layOf s := by unfold planL; rw [if_pos h]
theorem lens_pos {s : Shp} (h : InB s) (r : Nat) (hr : r < 7) : 1 ≤ (lensL s).getD r 0 := by
  have j0 := h.jo0
  have c0 := h.ca0
  have i0 := h.ino0
  have d0 := h.da0
  obtain rfl | rfl | rfl | rfl | rfl | rfl | rfl : r = 0 ∨ r = 1 ∨ r = 2 ∨ r = 3 ∨ r = 4 ∨ r = 5 ∨ r = 6 := by omega
  all_goals
    simp only [lensL, List.getD_cons_zero, List.getD_cons_succ]
    omega
theorem beg_cell {w : World} {g : Nat} {s : Shp} (hp : planE s = 0) (h : w.heap[g]? = some (.cells #[.int .i64 0, .int .i64 (planL s).bo, .int .i64 (planL s).jr, .int .i64 (planL s).le, .int .i64 (planL s).bi, .int .i64 (planL s).ta, .int .i64 (planL s).dt] 3 (0, 0))) (k : Nat) (hk : k < 7) : w.cell? ⟨g, k, none⟩ = some (.int .i64 (beg s k)) := by
  rw [planL_lay hp] at h
  obtain ⟨g1, g2, g3, g4, g5, g6, g7⟩ := begs s
  simp only [World.cell?, h]
  obtain rfl | rfl | rfl | rfl | rfl | rfl | rfl : k = 0 ∨ k = 1 ∨ k = 2 ∨ k = 3 ∨ k = 4 ∨ k = 5 ∨ k = 6 := by omega
  · rfl
  · rw [g1]; rfl
  · rw [g2]; rfl
  · rw [g3]; rfl
  · rw [g4]; rfl
  · rw [g5]; rfl
  · rw [g6]; rfl
theorem siz_cell {w : World} {g : Nat} {s : Shp} (hp : planE s = 0) (h : w.heap[g]? = some (.cells #[.int .i64 1, .int .i64 1, .int .i64 (planL s).jl, .int .i64 (planL s).ll, .int .i64 (planL s).bl, .int .i64 (planL s).tl, .int .i64 (planL s).dl] 3 (0, 0))) (k : Nat) (hk : k < 7) : w.cell? ⟨g, k, none⟩ = some (.int .i64 ((lensL s).getD k 0)) := by
  rw [planL_lay hp] at h
  simp only [World.cell?, h]
  obtain rfl | rfl | rfl | rfl | rfl | rfl | rfl : k = 0 ∨ k = 1 ∨ k = 2 ∨ k = 3 ∨ k = 4 ∨ k = 5 ∨ k = 6 := by omega
  all_goals rfl
theorem wh_lay {s : Shp} (hp : planE s = 0) (b : Int) : whA (planL s) b = if b < 0 ∨ (layOf s).to ≤ b then (0, 0) else whR (layOf s) b := by
  unfold whA
  rw [planL_lay hp, if_neg]
  rintro (h | h)
  · exact h hp
  · exact h (planL_lay hp)
theorem wh_to {s : Shp} (hp : planE s = 0) : whA (planL s) (beg s 7) = (0, 0) := by
  rw [wh_lay hp, (begs s).2.2.2.2.2.2, if_pos (Or.inr (Int.le_refl _))]
theorem wh_neg {s : Shp} : whA (planL s) (-1) = (0, 0) := by
  unfold whA
  split
  · rfl
  · rw [if_pos (Or.inl (by omega))]
theorem wh_in {s : Shp} (hp : planE s = 0) {r : Nat} (hr : r < 7) {i : Int} (h0 : 0 ≤ i) (h1 : i < (lensL s).getD r 0) : whA (planL s) (beg s r + i) = ((r : Int) + 1, i) ∧ beg s r + i < 4096 := by
  have h := planE_in hp
  have j0 := h.jo0
  have c0 := h.ca0
  have i0 := h.ino0
  have d0 := h.da0
  have ht := planE_to hp
  rw [wh_lay hp]
  obtain ⟨g1, g2, g3, g4, g5, g6, g7⟩ := begs s
  have f1 : (layOf s).bo = 1 := rfl
  have f2 : (layOf s).jr = 2 := rfl
  have f3 : (layOf s).le = 2 + s.jo := rfl
  have f4 : (layOf s).bi = 2 + s.jo + (1 + 3 * s.ca) := rfl
  have f5 : (layOf s).ta = 2 + s.jo + (1 + 3 * s.ca) + 1 := rfl
  have f6 : (layOf s).dt = 2 + s.jo + (1 + 3 * s.ca) + 1 + (s.ino + 3) / 4 := rfl
  have f7 : (layOf s).to = 2 + s.jo + (1 + 3 * s.ca) + 1 + (s.ino + 3) / 4 + s.da := rfl
  have g0 : beg s 0 = 0 := rfl
  obtain rfl | rfl | rfl | rfl | rfl | rfl | rfl : r = 0 ∨ r = 1 ∨ r = 2 ∨ r = 3 ∨ r = 4 ∨ r = 5 ∨ r = 6 := by omega
  · simp only [lensL, List.getD_cons_zero] at h1
    refine ⟨?_, by omega⟩
    rw [if_neg (by omega)]
    unfold whR
    rw [if_neg (by omega), if_neg (by omega), if_neg (by omega), if_neg (by omega), if_neg (by omega), if_neg (by omega)]
    exact Prod.ext (by simp) (by show _ = i; omega)
  · simp only [lensL, List.getD_cons_zero, List.getD_cons_succ] at h1
    refine ⟨?_, by omega⟩
    rw [if_neg (by omega)]
    unfold whR
    rw [if_neg (by omega), if_neg (by omega), if_neg (by omega), if_neg (by omega), if_neg (by omega), if_pos (by omega)]
    exact Prod.ext (by simp) (by show _ = i; omega)
  · simp only [lensL, List.getD_cons_zero, List.getD_cons_succ] at h1
    refine ⟨?_, by omega⟩
    rw [if_neg (by omega)]
    unfold whR
    rw [if_neg (by omega), if_neg (by omega), if_neg (by omega), if_neg (by omega), if_pos (by omega)]
    exact Prod.ext (by simp) (by show _ = i; omega)
  · simp only [lensL, List.getD_cons_zero, List.getD_cons_succ] at h1
    refine ⟨?_, by omega⟩
    rw [if_neg (by omega)]
    unfold whR
    rw [if_neg (by omega), if_neg (by omega), if_neg (by omega), if_pos (by omega)]
    exact Prod.ext (by simp) (by show _ = i; omega)
  · simp only [lensL, List.getD_cons_zero, List.getD_cons_succ] at h1
    refine ⟨?_, by omega⟩
    rw [if_neg (by omega)]
    unfold whR
    rw [if_neg (by omega), if_neg (by omega), if_pos (by omega)]
    exact Prod.ext (by simp) (by show _ = i; omega)
  · simp only [lensL, List.getD_cons_zero, List.getD_cons_succ] at h1
    refine ⟨?_, by omega⟩
    rw [if_neg (by omega)]
    unfold whR
    rw [if_neg (by omega), if_pos (by omega)]
    exact Prod.ext (by simp) (by show _ = i; omega)
  · simp only [lensL, List.getD_cons_zero, List.getD_cons_succ] at h1
    refine ⟨?_, by omega⟩
    rw [if_neg (by omega)]
    unfold whR
    rw [if_pos (by omega)]
    exact Prod.ext (by simp) (by show _ = i; omega)

set_option maxHeartbeats 8000000 in
theorem covers_any (s : Shp) (w : World) (hB : Bds w) : Calls Tryd.prog 5 #[shV s] w fun e w' => e = .returned (.bool true) ∧ Below w.heap.size w w' := by
  have hq := Below.refl w.heap.size w
  go_enter Tryd.func5, Tryd.ntmps5
  have hn := newBox w (.cells #[.int .i64 s.cl, .int .i64 s.wi, .int .i64 s.pl, .int .i64 s.ca, .int .i64 s.ino, .int .i64 s.qu, .int .i64 s.da, .int .i64 s.jo] 23)
  have hS_1 := ShBox.new w s
  have lt_hS_1 : w.heap.size < (w.alloc (.cells #[.int .i64 s.cl, .int .i64 s.wi, .int .i64 s.pl, .int .i64 s.ca, .int .i64 s.ino, .int .i64 s.qu, .int .i64 s.da, .int .i64 s.jo] 23)).heap.size := by simp
  have hB_1 := hB.later hn (Nat.le_refl _)
  have hq_1 := hq.trans (hn.mono hq.size)
  clear hB hq hn
  go_wp2_with fail
  generalize (w.alloc (.cells #[.int .i64 s.cl, .int .i64 s.wi, .int .i64 s.pl, .int .i64 s.ca, .int .i64 s.ino, .int .i64 s.qu, .int .i64 s.da, .int .i64 s.jo] 23)) = w1 at *
  refine (first_any _ hB_1).mono ?_
  rintro e w2 ⟨rfl, hb⟩
  have hB_2 := hB_1.later hb (Nat.le_refl _)
  have hq_2 := hq_1.trans (hb.mono hq_1.size)
  have hS_2 := hS_1.later hb (by first | exact lt_hS_1 | omega)
  have lt_hS_2 := Nat.lt_of_lt_of_le lt_hS_1 hb.size
  clear hB_1 hq_1 hS_1 lt_hS_1 hb
  obtain ⟨a0, a1, a2, a3, a4, a5, a6, a7⟩ := hS_2
  go_wp2_with fail
  have hS_2 := ShBox.mk a0 a1 a2 a3 a4 a5 a6 a7
  clear a0 a1 a2 a3 a4 a5 a6 a7
  refine (plan_any s _ hB_2).mono ?_
  rintro e w3 ⟨rfl, hb⟩
  have hB_3 := hB_2.later hb (Nat.le_refl _)
  have hq_3 := hq_2.trans (hb.mono hq_2.size)
  have hS_3 := hS_2.later hb (by first | exact lt_hS_2 | omega)
  have lt_hS_3 := Nat.lt_of_lt_of_le lt_hS_2 hb.size
  clear hB_2 hq_2 hS_2 lt_hS_2 hb
  have hn := newBox w3 (.cells #[.int .i64 (planL s).bo, .int .i64 (planL s).jr, .int .i64 (planL s).jl, .int .i64 (planL s).le, .int .i64 (planL s).ll, .int .i64 (planL s).bi, .int .i64 (planL s).bl, .int .i64 (planL s).ta, .int .i64 (planL s).tl, .int .i64 (planL s).dt, .int .i64 (planL s).dl, .int .i64 (planL s).to, .int .i64 (planL s).sh.cl, .int .i64 (planL s).sh.wi, .int .i64 (planL s).sh.pl, .int .i64 (planL s).sh.ca, .int .i64 (planL s).sh.ino, .int .i64 (planL s).sh.qu, .int .i64 (planL s).sh.da, .int .i64 (planL s).sh.jo] 26)
  have hP_4 : (w3.alloc (.cells #[.int .i64 (planL s).bo, .int .i64 (planL s).jr, .int .i64 (planL s).jl, .int .i64 (planL s).le, .int .i64 (planL s).ll, .int .i64 (planL s).bi, .int .i64 (planL s).bl, .int .i64 (planL s).ta, .int .i64 (planL s).tl, .int .i64 (planL s).dt, .int .i64 (planL s).dl, .int .i64 (planL s).to, .int .i64 (planL s).sh.cl, .int .i64 (planL s).sh.wi, .int .i64 (planL s).sh.pl, .int .i64 (planL s).sh.ca, .int .i64 (planL s).sh.ino, .int .i64 (planL s).sh.qu, .int .i64 (planL s).sh.da, .int .i64 (planL s).sh.jo] 26)).heap[w3.heap.size]? = some (.cells #[.int .i64 (planL s).bo, .int .i64 (planL s).jr, .int .i64 (planL s).jl, .int .i64 (planL s).le, .int .i64 (planL s).ll, .int .i64 (planL s).bi, .int .i64 (planL s).bl, .int .i64 (planL s).ta, .int .i64 (planL s).tl, .int .i64 (planL s).dt, .int .i64 (planL s).dl, .int .i64 (planL s).to, .int .i64 (planL s).sh.cl, .int .i64 (planL s).sh.wi, .int .i64 (planL s).sh.pl, .int .i64 (planL s).sh.ca, .int .i64 (planL s).sh.ino, .int .i64 (planL s).sh.qu, .int .i64 (planL s).sh.da, .int .i64 (planL s).sh.jo] 26 (0, 0)) := heap_alloc_last w3 _
  have hB_4 := hB_3.later hn (Nat.le_refl _)
  have hq_4 := hq_3.trans (hn.mono hq_3.size)
  have hS_4 := hS_3.later hn (by first | exact lt_hS_3 | omega)
  have lt_hS_4 := Nat.lt_of_lt_of_le lt_hS_3 hn.size
  clear hB_3 hq_3 hS_3 lt_hS_3 hn
  by_cases hp : planE s = 0
  case neg =>
    have hx : (planE s != 0) = true := by simpa using hp
    clear hp
    go_wp2_with (go_at_call 12; refine (num_id _ _).mono ?_; rintro e wn ⟨rfl, hwn⟩; subst wn)
    go_ret
    exact ⟨rfl, hq_4⟩
  have hx : (planE s != 0) = false := by simp [hp]
  have HZL : Hid (planL s = layOf s) := by show _ = _; unfold planL; rw [if_pos hp]
  clear hS_4 lt_hS_4
  have hA0 : ((w3.alloc (.cells #[.int .i64 (planL s).bo, .int .i64 (planL s).jr, .int .i64 (planL s).jl, .int .i64 (planL s).le, .int .i64 (planL s).ll, .int .i64 (planL s).bi, .int .i64 (planL s).bl, .int .i64 (planL s).ta, .int .i64 (planL s).tl, .int .i64 (planL s).dt, .int .i64 (planL s).dl, .int .i64 (planL s).to, .int .i64 (planL s).sh.cl, .int .i64 (planL s).sh.wi, .int .i64 (planL s).sh.pl, .int .i64 (planL s).sh.ca, .int .i64 (planL s).sh.ino, .int .i64 (planL s).sh.qu, .int .i64 (planL s).sh.da, .int .i64 (planL s).sh.jo] 26)).alloc (.cells #[.int .i64 0, .int .i64 (planL s).bo, .int .i64 (planL s).jr, .int .i64 (planL s).le, .int .i64 (planL s).bi, .int .i64 (planL s).ta, .int .i64 (planL s).dt] 3)).heap[(w3.alloc (.cells #[.int .i64 (planL s).bo, .int .i64 (planL s).jr, .int .i64 (planL s).jl, .int .i64 (planL s).le, .int .i64 (planL s).ll, .int .i64 (planL s).bi, .int .i64 (planL s).bl, .int .i64 (planL s).ta, .int .i64 (planL s).tl, .int .i64 (planL s).dt, .int .i64 (planL s).dl, .int .i64 (planL s).to, .int .i64 (planL s).sh.cl, .int .i64 (planL s).sh.wi, .int .i64 (planL s).sh.pl, .int .i64 (planL s).sh.ca, .int .i64 (planL s).sh.ino, .int .i64 (planL s).sh.qu, .int .i64 (planL s).sh.da, .int .i64 (planL s).sh.jo] 26)).heap.size]? = some (.cells #[.int .i64 0, .int .i64 (planL s).bo, .int .i64 (planL s).jr, .int .i64 (planL s).le, .int .i64 (planL s).bi, .int .i64 (planL s).ta, .int .i64 (planL s).dt] 3 (0, 0)) := heap_alloc_last (w3.alloc (.cells #[.int .i64 (planL s).bo, .int .i64 (planL s).jr, .int .i64 (planL s).jl, .int .i64 (planL s).le, .int .i64 (planL s).ll, .int .i64 (planL s).bi, .int .i64 (planL s).bl, .int .i64 (planL s).ta, .int .i64 (planL s).tl, .int .i64 (planL s).dt, .int .i64 (planL s).dl, .int .i64 (planL s).to, .int .i64 (planL s).sh.cl, .int .i64 (planL s).sh.wi, .int .i64 (planL s).sh.pl, .int .i64 (planL s).sh.ca, .int .i64 (planL s).sh.ino, .int .i64 (planL s).sh.qu, .int .i64 (planL s).sh.da, .int .i64 (planL s).sh.jo] 26)) _
  have hA1 : (((w3.alloc (.cells #[.int .i64 (planL s).bo, .int .i64 (planL s).jr, .int .i64 (planL s).jl, .int .i64 (planL s).le, .int .i64 (planL s).ll, .int .i64 (planL s).bi, .int .i64 (planL s).bl, .int .i64 (planL s).ta, .int .i64 (planL s).tl, .int .i64 (planL s).dt, .int .i64 (planL s).dl, .int .i64 (planL s).to, .int .i64 (planL s).sh.cl, .int .i64 (planL s).sh.wi, .int .i64 (planL s).sh.pl, .int .i64 (planL s).sh.ca, .int .i64 (planL s).sh.ino, .int .i64 (planL s).sh.qu, .int .i64 (planL s).sh.da, .int .i64 (planL s).sh.jo] 26)).alloc (.cells #[.int .i64 0, .int .i64 (planL s).bo, .int .i64 (planL s).jr, .int .i64 (planL s).le, .int .i64 (planL s).bi, .int .i64 (planL s).ta, .int .i64 (planL s).dt] 3)).alloc (.cells #[.int .i64 1, .int .i64 1, .int .i64 (planL s).jl, .int .i64 (planL s).ll, .int .i64 (planL s).bl, .int .i64 (planL s).tl, .int .i64 (planL s).dl] 3)).heap[(w3.alloc (.cells #[.int .i64 (planL s).bo, .int .i64 (planL s).jr, .int .i64 (planL s).jl, .int .i64 (planL s).le, .int .i64 (planL s).ll, .int .i64 (planL s).bi, .int .i64 (planL s).bl, .int .i64 (planL s).ta, .int .i64 (planL s).tl, .int .i64 (planL s).dt, .int .i64 (planL s).dl, .int .i64 (planL s).to, .int .i64 (planL s).sh.cl, .int .i64 (planL s).sh.wi, .int .i64 (planL s).sh.pl, .int .i64 (planL s).sh.ca, .int .i64 (planL s).sh.ino, .int .i64 (planL s).sh.qu, .int .i64 (planL s).sh.da, .int .i64 (planL s).sh.jo] 26)).heap.size]? = some (.cells #[.int .i64 0, .int .i64 (planL s).bo, .int .i64 (planL s).jr, .int .i64 (planL s).le, .int .i64 (planL s).bi, .int .i64 (planL s).ta, .int .i64 (planL s).dt] 3 (0, 0)) := ((newBox ((w3.alloc (.cells #[.int .i64 (planL s).bo, .int .i64 (planL s).jr, .int .i64 (planL s).jl, .int .i64 (planL s).le, .int .i64 (planL s).ll, .int .i64 (planL s).bi, .int .i64 (planL s).bl, .int .i64 (planL s).ta, .int .i64 (planL s).tl, .int .i64 (planL s).dt, .int .i64 (planL s).dl, .int .i64 (planL s).to, .int .i64 (planL s).sh.cl, .int .i64 (planL s).sh.wi, .int .i64 (planL s).sh.pl, .int .i64 (planL s).sh.ca, .int .i64 (planL s).sh.ino, .int .i64 (planL s).sh.qu, .int .i64 (planL s).sh.da, .int .i64 (planL s).sh.jo] 26)).alloc (.cells #[.int .i64 0, .int .i64 (planL s).bo, .int .i64 (planL s).jr, .int .i64 (planL s).le, .int .i64 (planL s).bi, .int .i64 (planL s).ta, .int .i64 (planL s).dt] 3)) _).block _ (by simp)).trans hA0
  have hZ1 : (((w3.alloc (.cells #[.int .i64 (planL s).bo, .int .i64 (planL s).jr, .int .i64 (planL s).jl, .int .i64 (planL s).le, .int .i64 (planL s).ll, .int .i64 (planL s).bi, .int .i64 (planL s).bl, .int .i64 (planL s).ta, .int .i64 (planL s).tl, .int .i64 (planL s).dt, .int .i64 (planL s).dl, .int .i64 (planL s).to, .int .i64 (planL s).sh.cl, .int .i64 (planL s).sh.wi, .int .i64 (planL s).sh.pl, .int .i64 (planL s).sh.ca, .int .i64 (planL s).sh.ino, .int .i64 (planL s).sh.qu, .int .i64 (planL s).sh.da, .int .i64 (planL s).sh.jo] 26)).alloc (.cells #[.int .i64 0, .int .i64 (planL s).bo, .int .i64 (planL s).jr, .int .i64 (planL s).le, .int .i64 (planL s).bi, .int .i64 (planL s).ta, .int .i64 (planL s).dt] 3)).alloc (.cells #[.int .i64 1, .int .i64 1, .int .i64 (planL s).jl, .int .i64 (planL s).ll, .int .i64 (planL s).bl, .int .i64 (planL s).tl, .int .i64 (planL s).dl] 3)).heap[((w3.alloc (.cells #[.int .i64 (planL s).bo, .int .i64 (planL s).jr, .int .i64 (planL s).jl, .int .i64 (planL s).le, .int .i64 (planL s).ll, .int .i64 (planL s).bi, .int .i64 (planL s).bl, .int .i64 (planL s).ta, .int .i64 (planL s).tl, .int .i64 (planL s).dt, .int .i64 (planL s).dl, .int .i64 (planL s).to, .int .i64 (planL s).sh.cl, .int .i64 (planL s).sh.wi, .int .i64 (planL s).sh.pl, .int .i64 (planL s).sh.ca, .int .i64 (planL s).sh.ino, .int .i64 (planL s).sh.qu, .int .i64 (planL s).sh.da, .int .i64 (planL s).sh.jo] 26)).alloc (.cells #[.int .i64 0, .int .i64 (planL s).bo, .int .i64 (planL s).jr, .int .i64 (planL s).le, .int .i64 (planL s).bi, .int .i64 (planL s).ta, .int .i64 (planL s).dt] 3)).heap.size]? = some (.cells #[.int .i64 1, .int .i64 1, .int .i64 (planL s).jl, .int .i64 (planL s).ll, .int .i64 (planL s).bl, .int .i64 (planL s).tl, .int .i64 (planL s).dl] 3 (0, 0)) := heap_alloc_last ((w3.alloc (.cells #[.int .i64 (planL s).bo, .int .i64 (planL s).jr, .int .i64 (planL s).jl, .int .i64 (planL s).le, .int .i64 (planL s).ll, .int .i64 (planL s).bi, .int .i64 (planL s).bl, .int .i64 (planL s).ta, .int .i64 (planL s).tl, .int .i64 (planL s).dt, .int .i64 (planL s).dl, .int .i64 (planL s).to, .int .i64 (planL s).sh.cl, .int .i64 (planL s).sh.wi, .int .i64 (planL s).sh.pl, .int .i64 (planL s).sh.ca, .int .i64 (planL s).sh.ino, .int .i64 (planL s).sh.qu, .int .i64 (planL s).sh.da, .int .i64 (planL s).sh.jo] 26)).alloc (.cells #[.int .i64 0, .int .i64 (planL s).bo, .int .i64 (planL s).jr, .int .i64 (planL s).le, .int .i64 (planL s).bi, .int .i64 (planL s).ta, .int .i64 (planL s).dt] 3)) _
  have hn := box2 (w3.alloc (.cells #[.int .i64 (planL s).bo, .int .i64 (planL s).jr, .int .i64 (planL s).jl, .int .i64 (planL s).le, .int .i64 (planL s).ll, .int .i64 (planL s).bi, .int .i64 (planL s).bl, .int .i64 (planL s).ta, .int .i64 (planL s).tl, .int .i64 (planL s).dt, .int .i64 (planL s).dl, .int .i64 (planL s).to, .int .i64 (planL s).sh.cl, .int .i64 (planL s).sh.wi, .int .i64 (planL s).sh.pl, .int .i64 (planL s).sh.ca, .int .i64 (planL s).sh.ino, .int .i64 (planL s).sh.qu, .int .i64 (planL s).sh.da, .int .i64 (planL s).sh.jo] 26)) (.cells #[.int .i64 0, .int .i64 (planL s).bo, .int .i64 (planL s).jr, .int .i64 (planL s).le, .int .i64 (planL s).bi, .int .i64 (planL s).ta, .int .i64 (planL s).dt] 3) (.cells #[.int .i64 1, .int .i64 1, .int .i64 (planL s).jl, .int .i64 (planL s).ll, .int .i64 (planL s).bl, .int .i64 (planL s).tl, .int .i64 (planL s).dl] 3)
  have hB_5 := hB_4.later hn (Nat.le_refl _)
  have hq_5 := hq_4.trans (hn.mono hq_4.size)
  have hP_5 := (hn.block _ (lt_of_block hP_4)).trans hP_4
  clear hB_4 hq_4 hP_4 hn
  rw [show (w3.alloc (.cells #[.int .i64 (planL s).bo, .int .i64 (planL s).jr, .int .i64 (planL s).jl, .int .i64 (planL s).le, .int .i64 (planL s).ll, .int .i64 (planL s).bi, .int .i64 (planL s).bl, .int .i64 (planL s).ta, .int .i64 (planL s).tl, .int .i64 (planL s).dt, .int .i64 (planL s).dl, .int .i64 (planL s).to, .int .i64 (planL s).sh.cl, .int .i64 (planL s).sh.wi, .int .i64 (planL s).sh.pl, .int .i64 (planL s).sh.ca, .int .i64 (planL s).sh.ino, .int .i64 (planL s).sh.qu, .int .i64 (planL s).sh.da, .int .i64 (planL s).sh.jo] 26)).heap.size = w3.heap.size + 1 by simp] at hA1
  rw [show ((w3.alloc (.cells #[.int .i64 (planL s).bo, .int .i64 (planL s).jr, .int .i64 (planL s).jl, .int .i64 (planL s).le, .int .i64 (planL s).ll, .int .i64 (planL s).bi, .int .i64 (planL s).bl, .int .i64 (planL s).ta, .int .i64 (planL s).tl, .int .i64 (planL s).dt, .int .i64 (planL s).dl, .int .i64 (planL s).to, .int .i64 (planL s).sh.cl, .int .i64 (planL s).sh.wi, .int .i64 (planL s).sh.pl, .int .i64 (planL s).sh.ca, .int .i64 (planL s).sh.ino, .int .i64 (planL s).sh.qu, .int .i64 (planL s).sh.da, .int .i64 (planL s).sh.jo] 26)).alloc (.cells #[.int .i64 0, .int .i64 (planL s).bo, .int .i64 (planL s).jr, .int .i64 (planL s).le, .int .i64 (planL s).bi, .int .i64 (planL s).ta, .int .i64 (planL s).dt] 3)).heap.size = w3.heap.size + 1 + 1 by simp] at hZ1
  clear hA0
  have HP : Hid (planE s = 0) := hp
  clear hp
  go_wp2_with (go_at_call 12; refine (num_id _ _).mono ?_; rintro e wn ⟨rfl, hwn⟩; subst wn)
  clear hx
  generalize hW2 : (((w3.alloc (.cells #[.int .i64 (planL s).bo, .int .i64 (planL s).jr, .int .i64 (planL s).jl, .int .i64 (planL s).le, .int .i64 (planL s).ll, .int .i64 (planL s).bi, .int .i64 (planL s).bl, .int .i64 (planL s).ta, .int .i64 (planL s).tl, .int .i64 (planL s).dt, .int .i64 (planL s).dl, .int .i64 (planL s).to, .int .i64 (planL s).sh.cl, .int .i64 (planL s).sh.wi, .int .i64 (planL s).sh.pl, .int .i64 (planL s).sh.ca, .int .i64 (planL s).sh.ino, .int .i64 (planL s).sh.qu, .int .i64 (planL s).sh.da, .int .i64 (planL s).sh.jo] 26)).alloc (.cells #[.int .i64 0, .int .i64 (planL s).bo, .int .i64 (planL s).jr, .int .i64 (planL s).le, .int .i64 (planL s).bi, .int .i64 (planL s).ta, .int .i64 (planL s).dt] 3)).alloc (.cells #[.int .i64 1, .int .i64 1, .int .i64 (planL s).jl, .int .i64 (planL s).ll, .int .i64 (planL s).bl, .int .i64 (planL s).tl, .int .i64 (planL s).dl] 3)) = wx at *
  clear hW2
  have hin := planE_in HP.out
  go_loopw [8, 9] (fun b v wr => ∃ r : Nat, r ≤ 7 ∧ v = .int .i64 r ∧ b = .int .i64 (beg s r) ∧ wr.heap[w3.heap.size]? = some (.cells #[.int .i64 (planL s).bo, .int .i64 (planL s).jr, .int .i64 (planL s).jl, .int .i64 (planL s).le, .int .i64 (planL s).ll, .int .i64 (planL s).bi, .int .i64 (planL s).bl, .int .i64 (planL s).ta, .int .i64 (planL s).tl, .int .i64 (planL s).dt, .int .i64 (planL s).dl, .int .i64 (planL s).to, .int .i64 (planL s).sh.cl, .int .i64 (planL s).sh.wi, .int .i64 (planL s).sh.pl, .int .i64 (planL s).sh.ca, .int .i64 (planL s).sh.ino, .int .i64 (planL s).sh.qu, .int .i64 (planL s).sh.da, .int .i64 (planL s).sh.jo] 26 (0, 0)) ∧ wr.heap[w3.heap.size + 1]? = some (.cells #[.int .i64 0, .int .i64 (planL s).bo, .int .i64 (planL s).jr, .int .i64 (planL s).le, .int .i64 (planL s).bi, .int .i64 (planL s).ta, .int .i64 (planL s).dt] 3 (0, 0)) ∧ wr.heap[w3.heap.size + 1 + 1]? = some (.cells #[.int .i64 1, .int .i64 1, .int .i64 (planL s).jl, .int .i64 (planL s).ll, .int .i64 (planL s).bl, .int .i64 (planL s).tl, .int .i64 (planL s).dl] 3 (0, 0)) ∧ Bds wr ∧ Below w.heap.size w wr) (fun _ v _ => 7 - (intOf v).toNat)
  case atStart => exact ⟨0, by omega, rfl, rfl, hP_5, hA1, hZ1, hB_5, hq_5⟩
  case round =>
    clear hP_5 hB_5 hq_5 hA1 hZ1
    obtain ⟨r, hr, rfl, rfl, hP, hA, hZ, hD, hQ⟩ := hrel
    by_cases hlt : r < 7
    · have hcb : wr.cell? ⟨w3.heap.size + 1, r, none⟩ = some (.int .i64 (beg s r)) := beg_cell HP.out hA r hlt
      have hcs : wr.cell? ⟨w3.heap.size + 1 + 1, r, none⟩ = some (.int .i64 ((lensL s).getD r 0)) := siz_cell HP.out hZ r hlt
      have hl := lens_bd hin r hlt
      have hl1 := lens_pos hin r hlt
      have hbb := beg_bd hin r (by omega)
      have r7 : (r : Int) < 7 := by omega
      have HB : Hid (beg s (r + 1) = beg s r + (lensL s).getD r 0) := beg_succ s r hlt
      have HW : Hid (∀ i : Int, 0 ≤ i → i < (lensL s).getD r 0 → whA (planL s) (beg s r + i) = ((r : Int) + 1, i) ∧ beg s r + i < 4096) := fun i h0 h1 => wh_in HP.out hlt h0 h1
      obtain ⟨z, hz⟩ : ∃ z, (lensL s).getD r 0 = z := ⟨_, rfl⟩
      obtain ⟨f, hf⟩ : ∃ f, beg s r = f := ⟨_, rfl⟩
      rw [hf] at hcb hbb HB HW
      rw [hz] at hcs hl hl1 HB HW
      have HL : Hid ((lensL s).getD r 0 = z) := hz
      have d1 : decide (z < 1) = false := decide_eq_false (by omega)
      simp only [hf]
      clear hf hz
      have HZr := hZ
      go_wp2_with fail
      obtain ⟨wb, hwb⟩ : ∃ wb, wb = wr := ⟨wr, rfl⟩
      subst hwb
      go_loopw [8, 10] (fun b v wr => ∃ i : Nat, (i : Int) ≤ z ∧ v = .int .i64 i ∧ b = .int .i64 (f + i) ∧ wr.heap[w3.heap.size]? = some (.cells #[.int .i64 (planL s).bo, .int .i64 (planL s).jr, .int .i64 (planL s).jl, .int .i64 (planL s).le, .int .i64 (planL s).ll, .int .i64 (planL s).bi, .int .i64 (planL s).bl, .int .i64 (planL s).ta, .int .i64 (planL s).tl, .int .i64 (planL s).dt, .int .i64 (planL s).dl, .int .i64 (planL s).to, .int .i64 (planL s).sh.cl, .int .i64 (planL s).sh.wi, .int .i64 (planL s).sh.pl, .int .i64 (planL s).sh.ca, .int .i64 (planL s).sh.ino, .int .i64 (planL s).sh.qu, .int .i64 (planL s).sh.da, .int .i64 (planL s).sh.jo] 26 (0, 0)) ∧ wr.heap[w3.heap.size + 1]? = some (.cells #[.int .i64 0, .int .i64 (planL s).bo, .int .i64 (planL s).jr, .int .i64 (planL s).le, .int .i64 (planL s).bi, .int .i64 (planL s).ta, .int .i64 (planL s).dt] 3 (0, 0)) ∧ wr.heap[w3.heap.size + 1 + 1]? = some (.cells #[.int .i64 1, .int .i64 1, .int .i64 (planL s).jl, .int .i64 (planL s).ll, .int .i64 (planL s).bl, .int .i64 (planL s).tl, .int .i64 (planL s).dl] 3 (0, 0)) ∧ Bds wr ∧ Below w.heap.size w wr) (fun _ v _ => 6000 - (intOf v).toNat)
      case atStart => exact ⟨0, by omega, rfl, by simp, hP, hA, hZ, hD, hQ⟩
      case round =>
        clear hP hA hZ hD hQ hcb hcs HZr
        obtain ⟨i, hi, rfl, rfl, hP, hA, hZ, hD, hQ⟩ := hrel
        have hcs : wr.cell? ⟨w3.heap.size + 1 + 1, r, none⟩ = some (.int .i64 z) := by
          have h := siz_cell HP.out hZ r hlt
          rwa [HL.out] at h
        by_cases hil : (i : Int) < z
        · obtain ⟨hw1, hw2⟩ := HW.out i (by omega) hil
          have d0 : decide ((i : Int) < z) = true := decide_eq_true hil
          have d2 : decide (f + (i : Int) < 4096) = true := decide_eq_true hw2
          have hld := LyLoad.row hP rfl
          have HW1 : Hid (whA (planL s) (f + (i : Int)) = ((r : Int) + 1, (i : Int))) := hw1
          clear hw1
          go_wp2_with fail
          refine (where_any (planL s) (f + (i : Int)) _ hD (by omega) (by omega)).mono ?_
          rintro e w9 ⟨rfl, hb9⟩
          rw [HW1.out]
          have hP9 := (hb9.block _ (lt_of_block hP)).trans hP
          have hA9 := (hb9.block _ (lt_of_block hA)).trans hA
          have hZ9 := (hb9.block _ (lt_of_block hZ)).trans hZ
          have hD9 := hD.later hb9 (Nat.le_refl _)
          have hQ9 := hQ.trans (hb9.mono hQ.size)
          clear hP hA hZ hD hQ hld hb9 hcs HW1
          go_wp2_with fail
          go_roundw
          case rel => exact ⟨i + 1, by omega, by go_num, by congr 1; push_cast; omega, hP9, hA9, hZ9, hD9, hQ9⟩
          case measure => simp [intOf]; omega
        · have hiz : (i : Int) = z := by omega
          have d0 : decide ((i : Int) < z) = false := decide_eq_false hil
          have HIZ : Hid ((i : Int) = z) := hiz
          clear hiz
          go_wp2_with fail
          go_roundw
          case rel => exact ⟨r + 1, by omega, by go_num, by rw [HB.out, HIZ.out], hP, hA, hZ, hD, hQ⟩
          case measure => simp [intOf]; omega
    · obtain rfl : r = 7 := by omega
      have hld := LyLoad.row hP rfl
      have hTo : Hid (beg s 7 = (planL s).to) := by show _ = _; rw [(begs s).2.2.2.2.2.2, HZL.out]
      have hbb := beg_bd hin 7 (by omega)
      obtain ⟨f, hf⟩ : ∃ f, beg s 7 = f := ⟨_, rfl⟩
      have HW0 : Hid (whA (planL s) f = (0, 0)) := by show _ = _; rw [← hf]; exact wh_to HP.out
      have HW1 : Hid (whA (planL s) (-1) = (0, 0)) := wh_neg
      have hcT : wr.cell? ⟨w3.heap.size, 11, none⟩ = some (.int .i64 f) := by simp only [World.cell?, hP]; rw [← hf, hTo.out]; rfl
      rw [hf] at hbb
      simp only [hf]
      clear hf hTo
      go_wp2_with fail
      refine (where_any (planL s) f _ hD (by omega) (by omega)).mono ?_
      rintro e w9 ⟨rfl, hb9⟩
      rw [HW0.out]
      have hP9 := (hb9.block _ (lt_of_block hP)).trans hP
      have hD9 := hD.later hb9 (Nat.le_refl _)
      have hQ9 := hQ.trans (hb9.mono hQ.size)
      have hT9 := (hb9.cell (p := ⟨w3.heap.size, 11, none⟩) (lt_of_block hP)).trans hcT
      clear hP hA hZ hD hQ hld hb9 hcT
      have hld := LyLoad.row hP9 rfl
      go_wp2_with fail
      refine (where_any (planL s) (-1) _ hD9 (by omega) (by omega)).mono ?_
      rintro e w10 ⟨rfl, hb10⟩
      rw [HW1.out]
      have hQ10 := hQ9.trans (hb10.mono hQ9.size)
      have hT10 := (hb10.cell (p := ⟨w3.heap.size, 11, none⟩) (lt_of_block hP9)).trans hT9
      clear hP9 hD9 hQ9 hT9 hld hb10
      go_wp2_with fail
      go_ret
      exact ⟨rfl, hQ10⟩
end Go.Proofs.YtgpeefedboomoaaDoor
