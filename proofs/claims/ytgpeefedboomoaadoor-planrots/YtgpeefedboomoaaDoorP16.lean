/- PlanReturns, walked. -/
import Derived.Test.YtgpeefedboomoaaDoorP15
namespace Go.Proofs.YtgpeefedboomoaaDoor
open Go.RowKit
set_option maxRecDepth 100000

attribute [local go_sem ↓ 100000] ly_store ly_load
attribute [local go_sem] LyStore.new LyLoad.new LyStore.at LyLoad.at
theorem planE_cases (s : Shp) : planE s = 0 ∨ planE s = 2 ∨ planE s = 63 := by
  unfold planE
  split
  · exact Or.inr (Or.inl rfl)
  · split
    · exact Or.inr (Or.inr rfl)
    · exact Or.inl rfl
theorem planE_two {s : Shp} (hp : ¬ planE s = 0) : (planE s == 2) = true ∨ (planE s == 2) = false ∧ (planE s == 63) = true := by
  rcases planE_cases s with h | h | h
  · exact absurd h hp
  · exact Or.inl (by rw [h]; rfl)
  · exact Or.inr (by rw [h]; exact ⟨rfl, rfl⟩)

set_option maxHeartbeats 4000000 in
theorem returns_any (s : Shp) (w : World) (hB : Bds w) : Calls Tryd.prog 3 #[shV s] w fun e w' => e = .returned (.bool true) ∧ Below w.heap.size w w' := by
  have hq := Below.refl w.heap.size w
  go_enter Tryd.func3, Tryd.ntmps3
  have hn := newBox w (.cells #[.int .i64 s.cl, .int .i64 s.wi, .int .i64 s.pl, .int .i64 s.ca, .int .i64 s.ino, .int .i64 s.qu, .int .i64 s.da, .int .i64 s.jo] 23)
  have hS_1 := ShBox.new w s
  have lt_hS_1 : w.heap.size < (w.alloc (.cells #[.int .i64 s.cl, .int .i64 s.wi, .int .i64 s.pl, .int .i64 s.ca, .int .i64 s.ino, .int .i64 s.qu, .int .i64 s.da, .int .i64 s.jo] 23)).heap.size := by simp
  have hB_1 := hB.later hn (Nat.le_refl _)
  have hq_1 := hq.trans (hn.mono hq.size)
  clear hB hq hn
  go_wp2_with fail
  generalize (w.alloc (.cells #[.int .i64 s.cl, .int .i64 s.wi, .int .i64 s.pl, .int .i64 s.ca, .int .i64 s.ino, .int .i64 s.qu, .int .i64 s.da, .int .i64 s.jo] 23)) = w1 at *
  refine (first_any _ hB_1).mono ?_
  rintro e w2 ⟨rfl, hb⟩
  have hB_2 := hB_1.later hb (Nat.le_refl _)
  have hq_2 := hq_1.trans (hb.mono hq_1.size)
  have hS_2 := hS_1.later hb (by first | exact lt_hS_1 | omega)
  have lt_hS_2 := Nat.lt_of_lt_of_le lt_hS_1 hb.size
  clear hB_1 hq_1 hS_1 lt_hS_1 hb
  obtain ⟨a0, a1, a2, a3, a4, a5, a6, a7⟩ := hS_2
  go_wp2_with fail
  have hS_2 := ShBox.mk a0 a1 a2 a3 a4 a5 a6 a7
  clear a0 a1 a2 a3 a4 a5 a6 a7
  refine (plan_any s _ hB_2).mono ?_
  rintro e w3 ⟨rfl, hb⟩
  have hB_3 := hB_2.later hb (Nat.le_refl _)
  have hq_3 := hq_2.trans (hb.mono hq_2.size)
  have hS_3 := hS_2.later hb (by first | exact lt_hS_2 | omega)
  have lt_hS_3 := Nat.lt_of_lt_of_le lt_hS_2 hb.size
  clear hB_2 hq_2 hS_2 lt_hS_2 hb
  have hn := newBox w3 (.cells #[.int .i64 (planL s).bo, .int .i64 (planL s).jr, .int .i64 (planL s).jl, .int .i64 (planL s).le, .int .i64 (planL s).ll, .int .i64 (planL s).bi, .int .i64 (planL s).bl, .int .i64 (planL s).ta, .int .i64 (planL s).tl, .int .i64 (planL s).dt, .int .i64 (planL s).dl, .int .i64 (planL s).to, .int .i64 (planL s).sh.cl, .int .i64 (planL s).sh.wi, .int .i64 (planL s).sh.pl, .int .i64 (planL s).sh.ca, .int .i64 (planL s).sh.ino, .int .i64 (planL s).sh.qu, .int .i64 (planL s).sh.da, .int .i64 (planL s).sh.jo] 26)
  have hP_4 : (w3.alloc (.cells #[.int .i64 (planL s).bo, .int .i64 (planL s).jr, .int .i64 (planL s).jl, .int .i64 (planL s).le, .int .i64 (planL s).ll, .int .i64 (planL s).bi, .int .i64 (planL s).bl, .int .i64 (planL s).ta, .int .i64 (planL s).tl, .int .i64 (planL s).dt, .int .i64 (planL s).dl, .int .i64 (planL s).to, .int .i64 (planL s).sh.cl, .int .i64 (planL s).sh.wi, .int .i64 (planL s).sh.pl, .int .i64 (planL s).sh.ca, .int .i64 (planL s).sh.ino, .int .i64 (planL s).sh.qu, .int .i64 (planL s).sh.da, .int .i64 (planL s).sh.jo] 26)).heap[w3.heap.size]? = some (.cells #[.int .i64 (planL s).bo, .int .i64 (planL s).jr, .int .i64 (planL s).jl, .int .i64 (planL s).le, .int .i64 (planL s).ll, .int .i64 (planL s).bi, .int .i64 (planL s).bl, .int .i64 (planL s).ta, .int .i64 (planL s).tl, .int .i64 (planL s).dt, .int .i64 (planL s).dl, .int .i64 (planL s).to, .int .i64 (planL s).sh.cl, .int .i64 (planL s).sh.wi, .int .i64 (planL s).sh.pl, .int .i64 (planL s).sh.ca, .int .i64 (planL s).sh.ino, .int .i64 (planL s).sh.qu, .int .i64 (planL s).sh.da, .int .i64 (planL s).sh.jo] 26 (0, 0)) := heap_alloc_last w3 _
  have hB_4 := hB_3.later hn (Nat.le_refl _)
  have hq_4 := hq_3.trans (hn.mono hq_3.size)
  have hS_4 := hS_3.later hn (by first | exact lt_hS_3 | omega)
  have lt_hS_4 := Nat.lt_of_lt_of_le lt_hS_3 hn.size
  clear hB_3 hq_3 hS_3 lt_hS_3 hn
  obtain ⟨a0, a1, a2, a3, a4, a5, a6, a7⟩ := hS_4
  go_wp2_with fail
  have hS_4 := ShBox.mk a0 a1 a2 a3 a4 a5 a6 a7
  clear a0 a1 a2 a3 a4 a5 a6 a7
  generalize (w3.alloc (.cells #[.int .i64 (planL s).bo, .int .i64 (planL s).jr, .int .i64 (planL s).jl, .int .i64 (planL s).le, .int .i64 (planL s).ll, .int .i64 (planL s).bi, .int .i64 (planL s).bl, .int .i64 (planL s).ta, .int .i64 (planL s).tl, .int .i64 (planL s).dt, .int .i64 (planL s).dl, .int .i64 (planL s).to, .int .i64 (planL s).sh.cl, .int .i64 (planL s).sh.wi, .int .i64 (planL s).sh.pl, .int .i64 (planL s).sh.ca, .int .i64 (planL s).sh.ino, .int .i64 (planL s).sh.qu, .int .i64 (planL s).sh.da, .int .i64 (planL s).sh.jo] 26)) = w4 at *
  refine (super_any s _ hB_4).mono ?_
  rintro e w5 ⟨ao, n, c, rfl, hb, hno, hok⟩
  have hB_5 := hB_4.later hb (Nat.le_refl _)
  have hq_5 := hq_4.trans (hb.mono hq_4.size)
  have hS_5 := hS_4.later hb (by first | exact lt_hS_4 | omega)
  have hP_5 := (hb.block _ (lt_of_block hP_4)).trans hP_4
  have lt_hS_5 := Nat.lt_of_lt_of_le lt_hS_4 hb.size
  clear hB_4 hq_4 hS_4 lt_hS_4 hP_4 hb
  by_cases hp : planE s = 0
  case neg =>
    have he := hno hp
    obtain ⟨rfl, rfl, rfl⟩ := he
    have hx : (planE s != 0) = true := by simpa using hp
    have hy := planE_two hp
    have hz : planL s = lyZ := by unfold planL; rw [if_neg hp]
    rw [hz] at hP_5
    have hld := LyLoad.row hP_5 rfl
    clear hno hok hp hz
    go_wp2_with (go_at_call 12; refine (num_id _ _).mono ?_; rintro e wn ⟨rfl, hwn⟩; subst wn)
    clear hld
    refine (sameLayout_any lyZ lyZ _).mono ?_
    rintro e w6 ⟨rfl, hb⟩
    have hB_6 := hB_5.later hb (Nat.le_refl _)
    have hq_6 := hq_5.trans (hb.mono hq_5.size)
    have hS_6 := hS_5.later hb (by first | exact lt_hS_5 | omega)
    have hP_6 := (hb.block _ (lt_of_block hP_5)).trans hP_5
    have lt_hS_6 := Nat.lt_of_lt_of_le lt_hS_5 hb.size
    clear hB_5 hq_5 hS_5 lt_hS_5 hP_5 hb
    rw [decide_eq_true (rfl : lyZ = lyZ)]
    rcases hy with hy | ⟨hy, hy2⟩
    all_goals
      go_wp2_with (go_at_call 12; refine (num_id _ _).mono ?_; rintro e wn ⟨rfl, hwn⟩; subst wn)
      go_ret
      exact ⟨rfl, hq_6⟩
  obtain ⟨rfl, rfl, g, rfl, hg, hr⟩ := hok hp
  have hx : (planE s != 0) = false := by simp [hp]
  have hz : planL s = layOf s := by unfold planL; rw [if_pos hp]
  rw [hz] at hP_5
  have hrs := rs_back hp
  clear hno hok hz hg
  go_wp2_with (go_at_call 12; refine (num_id _ _).mono ?_; rintro e wn ⟨rfl, hwn⟩; subst wn)
  refine (readSuper_any _ 512 512 (superB s) _ hB_5 (lies_bl hr (superB_length _)) (superB_by _)).mono ?_
  rintro e w6 ⟨rfl, hb⟩
  rw [hrs]
  have hB_6 := hB_5.later hb (Nat.le_refl _)
  have hq_6 := hq_5.trans (hb.mono hq_5.size)
  have hS_6 := hS_5.later hb (by first | exact lt_hS_5 | omega)
  have hP_6 := (hb.block _ (lt_of_block hP_5)).trans hP_5
  have hr_6 := (hb.block _ (lt_of_block hr)).trans hr
  have lt_hS_6 := Nat.lt_of_lt_of_le lt_hS_5 hb.size
  clear hB_5 hq_5 hS_5 lt_hS_5 hP_5 hr hb
  have hn := newBox w6 (.cells #[.int .i64 s.cl, .int .i64 s.wi, .int .i64 s.pl, .int .i64 s.ca, .int .i64 s.ino, .int .i64 s.qu, .int .i64 s.da, .int .i64 s.jo] 23)
  have hT_7 := ShBox.new w6 s
  have lt_hT_7 : w6.heap.size < (w6.alloc (.cells #[.int .i64 s.cl, .int .i64 s.wi, .int .i64 s.pl, .int .i64 s.ca, .int .i64 s.ino, .int .i64 s.qu, .int .i64 s.da, .int .i64 s.jo] 23)).heap.size := by simp
  have hB_7 := hB_6.later hn (Nat.le_refl _)
  have hq_7 := hq_6.trans (hn.mono hq_6.size)
  have hS_7 := hS_6.later hn (by first | exact lt_hS_6 | omega)
  have hP_7 := (hn.block _ (lt_of_block hP_6)).trans hP_6
  have hr_7 := (hn.block _ (lt_of_block hr_6)).trans hr_6
  have lt_hS_7 := Nat.lt_of_lt_of_le lt_hS_6 hn.size
  clear hB_6 hq_6 hS_6 lt_hS_6 hP_6 hr_6 hn
  obtain ⟨a0, a1, a2, a3, a4, a5, a6, a7⟩ := hS_7
  have hTk := hT_7
  obtain ⟨b0, b1, b2, b3, b4, b5, b6, b7⟩ := hT_7
  go_wp2_with fail
  have hS_7 := ShBox.mk a0 a1 a2 a3 a4 a5 a6 a7
  have hT_7 := hTk
  clear a0 a1 a2 a3 a4 a5 a6 a7 b0 b1 b2 b3 b4 b5 b6 b7 hTk
  generalize (w6.alloc (.cells #[.int .i64 s.cl, .int .i64 s.wi, .int .i64 s.pl, .int .i64 s.ca, .int .i64 s.ino, .int .i64 s.qu, .int .i64 s.da, .int .i64 s.jo] 23)) = w7 at *
  refine (sameShape_any s s _).mono ?_
  rintro e w8 ⟨rfl, hb⟩
  have hB_8 := hB_7.later hb (Nat.le_refl _)
  have hq_8 := hq_7.trans (hb.mono hq_7.size)
  have hS_8 := hS_7.later hb (by first | exact lt_hS_7 | omega)
  have hP_8 := (hb.block _ (lt_of_block hP_7)).trans hP_7
  have hr_8 := (hb.block _ (lt_of_block hr_7)).trans hr_7
  have hT_8 := hT_7.later hb (by first | exact lt_hT_7 | omega)
  have lt_hS_8 := Nat.lt_of_lt_of_le lt_hS_7 hb.size
  have lt_hT_8 := Nat.lt_of_lt_of_le lt_hT_7 hb.size
  clear hB_7 hq_7 hS_7 lt_hS_7 hP_7 hr_7 hT_7 lt_hT_7 hb
  rw [decide_eq_true (rfl : s = s)]
  obtain ⟨a0, a1, a2, a3, a4, a5, a6, a7⟩ := hS_8
  have hc : ∀ i u, (#[.int .i64 (layOf s).bo, .int .i64 (layOf s).jr, .int .i64 (layOf s).jl, .int .i64 (layOf s).le, .int .i64 (layOf s).ll, .int .i64 (layOf s).bi, .int .i64 (layOf s).bl, .int .i64 (layOf s).ta, .int .i64 (layOf s).tl, .int .i64 (layOf s).dt, .int .i64 (layOf s).dl, .int .i64 (layOf s).to, .int .i64 (layOf s).sh.cl, .int .i64 (layOf s).sh.wi, .int .i64 (layOf s).sh.pl, .int .i64 (layOf s).sh.ca, .int .i64 (layOf s).sh.ino, .int .i64 (layOf s).sh.qu, .int .i64 (layOf s).sh.da, .int .i64 (layOf s).sh.jo] : Array Value)[i]? = some u → w8.cell? ⟨w3.heap.size, i, none⟩ = some u := fun i u h => by simp only [World.cell?, hP_8]; exact h
  have c0 : w8.cell? ⟨w3.heap.size, 12, none⟩ = some (.int .i64 s.cl) := hc 12 _ rfl
  have c1 : w8.cell? ⟨w3.heap.size, 13, none⟩ = some (.int .i64 s.wi) := hc 13 _ rfl
  have c2 : w8.cell? ⟨w3.heap.size, 14, none⟩ = some (.int .i64 s.pl) := hc 14 _ rfl
  have c3 : w8.cell? ⟨w3.heap.size, 15, none⟩ = some (.int .i64 s.ca) := hc 15 _ rfl
  have c4 : w8.cell? ⟨w3.heap.size, 16, none⟩ = some (.int .i64 s.ino) := hc 16 _ rfl
  have c5 : w8.cell? ⟨w3.heap.size, 17, none⟩ = some (.int .i64 s.qu) := hc 17 _ rfl
  have c6 : w8.cell? ⟨w3.heap.size, 18, none⟩ = some (.int .i64 s.da) := hc 18 _ rfl
  have c7 : w8.cell? ⟨w3.heap.size, 19, none⟩ = some (.int .i64 s.jo) := hc 19 _ rfl
  clear hc
  go_wp2_with fail
  clear c0 c1 c2 c3 c4 c5 c6 c7
  have hS_8 := ShBox.mk a0 a1 a2 a3 a4 a5 a6 a7
  clear a0 a1 a2 a3 a4 a5 a6 a7
  refine (sameShape_any s s _).mono ?_
  rintro e w9 ⟨rfl, hb⟩
  have hB_9 := hB_8.later hb (Nat.le_refl _)
  have hq_9 := hq_8.trans (hb.mono hq_8.size)
  have hS_9 := hS_8.later hb (by first | exact lt_hS_8 | omega)
  have hP_9 := (hb.block _ (lt_of_block hP_8)).trans hP_8
  have hr_9 := (hb.block _ (lt_of_block hr_8)).trans hr_8
  have hT_9 := hT_8.later hb (by first | exact lt_hT_8 | omega)
  have lt_hS_9 := Nat.lt_of_lt_of_le lt_hS_8 hb.size
  have lt_hT_9 := Nat.lt_of_lt_of_le lt_hT_8 hb.size
  clear hB_8 hq_8 hS_8 lt_hS_8 hP_8 hr_8 hT_8 lt_hT_8 hb
  rw [decide_eq_true (rfl : s = s)]
  go_wp2_with (go_at_call 12; refine (num_id _ _).mono ?_; rintro e wn ⟨rfl, hwn⟩; subst wn)
  go_ret
  exact ⟨rfl, hq_9⟩
end Go.Proofs.YtgpeefedboomoaaDoor
