/- PlanRoom, walked. -/
import Derived.Test.YtgpeefedboomoaaDoorP15
namespace Go.Proofs.YtgpeefedboomoaaDoor
open Go.RowKit
set_option maxRecDepth 100000

attribute [local go_sem ↓ 100000] ly_store ly_load
attribute [local go_sem] LyStore.new LyLoad.new LyStore.at LyLoad.at
theorem planE_least {s : Shp} (h : planE s = 0) : leastD s ≤ s.da := by
  unfold planE at h
  by_cases hi : ¬ InB s
  · rw [if_pos hi] at h; omega
  · rw [if_neg hi] at h
    by_cases hc : s.da < leastD s ∨ 4096 < (layOf s).to
    · rw [if_pos hc] at h; omega
    · omega

set_option maxHeartbeats 4000000 in
theorem room_any6 (s : Shp) (w : World) (hB : Bds w) : Calls Tryd.prog 6 #[shV s] w fun e w' => e = .returned (.bool true) ∧ Below w.heap.size w w' := by
  have hq := Below.refl w.heap.size w
  go_enter Tryd.func6, Tryd.ntmps6
  have hn := newBox w (.cells #[.int .i64 s.cl, .int .i64 s.wi, .int .i64 s.pl, .int .i64 s.ca, .int .i64 s.ino, .int .i64 s.qu, .int .i64 s.da, .int .i64 s.jo] 23)
  have hS_1 := ShBox.new w s
  have lt_hS_1 : w.heap.size < (w.alloc (.cells #[.int .i64 s.cl, .int .i64 s.wi, .int .i64 s.pl, .int .i64 s.ca, .int .i64 s.ino, .int .i64 s.qu, .int .i64 s.da, .int .i64 s.jo] 23)).heap.size := by simp
  have hB_1 := hB.later hn (Nat.le_refl _)
  have hq_1 := hq.trans (hn.mono hq.size)
  clear hB hq hn
  go_wp2_with fail
  generalize (w.alloc (.cells #[.int .i64 s.cl, .int .i64 s.wi, .int .i64 s.pl, .int .i64 s.ca, .int .i64 s.ino, .int .i64 s.qu, .int .i64 s.da, .int .i64 s.jo] 23)) = w1 at *
  refine (first_any _ hB_1).mono ?_
  rintro e w2 ⟨rfl, hb⟩
  have hB_2 := hB_1.later hb (Nat.le_refl _)
  have hq_2 := hq_1.trans (hb.mono hq_1.size)
  have hS_2 := hS_1.later hb (by first | exact lt_hS_1 | omega)
  have lt_hS_2 := Nat.lt_of_lt_of_le lt_hS_1 hb.size
  clear hB_1 hq_1 hS_1 lt_hS_1 hb
  obtain ⟨a0, a1, a2, a3, a4, a5, a6, a7⟩ := hS_2
  go_wp2_with fail
  have hS_2 := ShBox.mk a0 a1 a2 a3 a4 a5 a6 a7
  clear a0 a1 a2 a3 a4 a5 a6 a7
  refine (plan_any s _ hB_2).mono ?_
  rintro e w3 ⟨rfl, hb⟩
  have hB_3 := hB_2.later hb (Nat.le_refl _)
  have hq_3 := hq_2.trans (hb.mono hq_2.size)
  have hS_3 := hS_2.later hb (by first | exact lt_hS_2 | omega)
  have lt_hS_3 := Nat.lt_of_lt_of_le lt_hS_2 hb.size
  clear hB_2 hq_2 hS_2 lt_hS_2 hb
  have hn := newBox w3 (.cells #[.int .i64 (planL s).bo, .int .i64 (planL s).jr, .int .i64 (planL s).jl, .int .i64 (planL s).le, .int .i64 (planL s).ll, .int .i64 (planL s).bi, .int .i64 (planL s).bl, .int .i64 (planL s).ta, .int .i64 (planL s).tl, .int .i64 (planL s).dt, .int .i64 (planL s).dl, .int .i64 (planL s).to, .int .i64 (planL s).sh.cl, .int .i64 (planL s).sh.wi, .int .i64 (planL s).sh.pl, .int .i64 (planL s).sh.ca, .int .i64 (planL s).sh.ino, .int .i64 (planL s).sh.qu, .int .i64 (planL s).sh.da, .int .i64 (planL s).sh.jo] 26)
  have hP_4 : (w3.alloc (.cells #[.int .i64 (planL s).bo, .int .i64 (planL s).jr, .int .i64 (planL s).jl, .int .i64 (planL s).le, .int .i64 (planL s).ll, .int .i64 (planL s).bi, .int .i64 (planL s).bl, .int .i64 (planL s).ta, .int .i64 (planL s).tl, .int .i64 (planL s).dt, .int .i64 (planL s).dl, .int .i64 (planL s).to, .int .i64 (planL s).sh.cl, .int .i64 (planL s).sh.wi, .int .i64 (planL s).sh.pl, .int .i64 (planL s).sh.ca, .int .i64 (planL s).sh.ino, .int .i64 (planL s).sh.qu, .int .i64 (planL s).sh.da, .int .i64 (planL s).sh.jo] 26)).heap[w3.heap.size]? = some (.cells #[.int .i64 (planL s).bo, .int .i64 (planL s).jr, .int .i64 (planL s).jl, .int .i64 (planL s).le, .int .i64 (planL s).ll, .int .i64 (planL s).bi, .int .i64 (planL s).bl, .int .i64 (planL s).ta, .int .i64 (planL s).tl, .int .i64 (planL s).dt, .int .i64 (planL s).dl, .int .i64 (planL s).to, .int .i64 (planL s).sh.cl, .int .i64 (planL s).sh.wi, .int .i64 (planL s).sh.pl, .int .i64 (planL s).sh.ca, .int .i64 (planL s).sh.ino, .int .i64 (planL s).sh.qu, .int .i64 (planL s).sh.da, .int .i64 (planL s).sh.jo] 26 (0, 0)) := heap_alloc_last w3 _
  have hB_4 := hB_3.later hn (Nat.le_refl _)
  have hq_4 := hq_3.trans (hn.mono hq_3.size)
  have hS_4 := hS_3.later hn (by first | exact lt_hS_3 | omega)
  have lt_hS_4 := Nat.lt_of_lt_of_le lt_hS_3 hn.size
  clear hB_3 hq_3 hS_3 lt_hS_3 hn
  by_cases hp : planE s = 0
  case neg =>
    have hx : (planE s != 0) = true := by simpa using hp
    clear hp
    go_wp2_with (go_at_call 12; refine (num_id _ _).mono ?_; rintro e wn ⟨rfl, hwn⟩; subst wn)
    go_ret
    exact ⟨rfl, hq_4⟩
  have hx : (planE s != 0) = false := by simp [hp]
  have hin := planE_in hp
  have hle := planE_least hp
  have HZ : Hid (planL s = layOf s) := by show _ = _; unfold planL; rw [if_pos hp]
  clear hp
  go_wp2_with (go_at_call 12; refine (num_id _ _).mono ?_; rintro e wn ⟨rfl, hwn⟩; subst wn)
  obtain ⟨a0, a1, a2, a3, a4, a5, a6, a7⟩ := hS_4
  have c4 : (w3.alloc (.cells #[.int .i64 (planL s).bo, .int .i64 (planL s).jr, .int .i64 (planL s).jl, .int .i64 (planL s).le, .int .i64 (planL s).ll, .int .i64 (planL s).bi, .int .i64 (planL s).bl, .int .i64 (planL s).ta, .int .i64 (planL s).tl, .int .i64 (planL s).dt, .int .i64 (planL s).dl, .int .i64 (planL s).to, .int .i64 (planL s).sh.cl, .int .i64 (planL s).sh.wi, .int .i64 (planL s).sh.pl, .int .i64 (planL s).sh.ca, .int .i64 (planL s).sh.ino, .int .i64 (planL s).sh.qu, .int .i64 (planL s).sh.da, .int .i64 (planL s).sh.jo] 26)).cell? ⟨w3.heap.size, 4, none⟩ = some (.int .i64 (1 + 3 * s.ca)) := by rw [show (1 + 3 * s.ca) = (planL s).ll by rw [HZ.out]; rfl]; simp only [World.cell?, hP_4]; rfl
  have c6 : (w3.alloc (.cells #[.int .i64 (planL s).bo, .int .i64 (planL s).jr, .int .i64 (planL s).jl, .int .i64 (planL s).le, .int .i64 (planL s).ll, .int .i64 (planL s).bi, .int .i64 (planL s).bl, .int .i64 (planL s).ta, .int .i64 (planL s).tl, .int .i64 (planL s).dt, .int .i64 (planL s).dl, .int .i64 (planL s).to, .int .i64 (planL s).sh.cl, .int .i64 (planL s).sh.wi, .int .i64 (planL s).sh.pl, .int .i64 (planL s).sh.ca, .int .i64 (planL s).sh.ino, .int .i64 (planL s).sh.qu, .int .i64 (planL s).sh.da, .int .i64 (planL s).sh.jo] 26)).cell? ⟨w3.heap.size, 6, none⟩ = some (.int .i64 1) := by rw [show 1 = (planL s).bl by rw [HZ.out]; rfl]; simp only [World.cell?, hP_4]; rfl
  have c8 : (w3.alloc (.cells #[.int .i64 (planL s).bo, .int .i64 (planL s).jr, .int .i64 (planL s).jl, .int .i64 (planL s).le, .int .i64 (planL s).ll, .int .i64 (planL s).bi, .int .i64 (planL s).bl, .int .i64 (planL s).ta, .int .i64 (planL s).tl, .int .i64 (planL s).dt, .int .i64 (planL s).dl, .int .i64 (planL s).to, .int .i64 (planL s).sh.cl, .int .i64 (planL s).sh.wi, .int .i64 (planL s).sh.pl, .int .i64 (planL s).sh.ca, .int .i64 (planL s).sh.ino, .int .i64 (planL s).sh.qu, .int .i64 (planL s).sh.da, .int .i64 (planL s).sh.jo] 26)).cell? ⟨w3.heap.size, 8, none⟩ = some (.int .i64 ((s.ino + 3) / 4)) := by rw [show ((s.ino + 3) / 4) = (planL s).tl by rw [HZ.out]; rfl]; simp only [World.cell?, hP_4]; rfl
  have c10 : (w3.alloc (.cells #[.int .i64 (planL s).bo, .int .i64 (planL s).jr, .int .i64 (planL s).jl, .int .i64 (planL s).le, .int .i64 (planL s).ll, .int .i64 (planL s).bi, .int .i64 (planL s).bl, .int .i64 (planL s).ta, .int .i64 (planL s).tl, .int .i64 (planL s).dt, .int .i64 (planL s).dl, .int .i64 (planL s).to, .int .i64 (planL s).sh.cl, .int .i64 (planL s).sh.wi, .int .i64 (planL s).sh.pl, .int .i64 (planL s).sh.ca, .int .i64 (planL s).sh.ino, .int .i64 (planL s).sh.qu, .int .i64 (planL s).sh.da, .int .i64 (planL s).sh.jo] 26)).cell? ⟨w3.heap.size, 10, none⟩ = some (.int .i64 s.da) := by rw [show s.da = (planL s).dl by rw [HZ.out]; rfl]; simp only [World.cell?, hP_4]; rfl
  clear hP_4 HZ hx
  have ino0 := hin.ino0
  have ino1 := hin.ino1
  have qu0 := hin.qu0
  have qu1 := hin.qu1
  have da0 := hin.da0
  have da1 := hin.da1
  have ca0 := hin.ca0
  have ca1 := hin.ca1
  have e1 : s.qu.tdiv 512 = s.qu / 512 := Int.tdiv_eq_ediv_of_nonneg (by omega)
  have e2 : (s.ino - 1).tdiv 16 = (s.ino - 1) / 16 := Int.tdiv_eq_ediv_of_nonneg (by omega)
  have f1 : 0 ≤ s.qu / 512 := by omega
  have f2 : s.qu / 512 ≤ 1024 := by omega
  have f3 : 0 ≤ (s.ino - 1) / 16 := by omega
  have f4 : (s.ino - 1) / 16 ≤ 16 := by omega
  have f5 : 0 ≤ (s.ino + 3) / 4 := by omega
  have f6 : (s.ino + 3) / 4 ≤ 100 := by omega
  have hle2 : s.qu / 512 + 4 * s.ino ≤ s.da := by unfold leastD at hle; omega
  have d3 : decide (4 * ((s.ino + 3) / 4) < s.ino) = false := decide_eq_false (by omega)
  have d2 : decide ((4096 : Int) < s.da) = false := decide_eq_false (by omega)
  clear hin hle
  go_loopw [6] (fun v wr => ∃ d : Nat, 1 ≤ d ∧ (d : Int) ≤ s.ino + 1 ∧ v = .int .i64 d ∧ wr = (w3.alloc (.cells #[.int .i64 (planL s).bo, .int .i64 (planL s).jr, .int .i64 (planL s).jl, .int .i64 (planL s).le, .int .i64 (planL s).ll, .int .i64 (planL s).bi, .int .i64 (planL s).bl, .int .i64 (planL s).ta, .int .i64 (planL s).tl, .int .i64 (planL s).dt, .int .i64 (planL s).dl, .int .i64 (planL s).to, .int .i64 (planL s).sh.cl, .int .i64 (planL s).sh.wi, .int .i64 (planL s).sh.pl, .int .i64 (planL s).sh.ca, .int .i64 (planL s).sh.ino, .int .i64 (planL s).sh.qu, .int .i64 (planL s).sh.da, .int .i64 (planL s).sh.jo] 26))) (fun v _ => 300 - (intOf v).toNat)
  case atStart => exact ⟨1, by omega, by omega, rfl, rfl⟩
  case round =>
    obtain ⟨d, hd0, hd1, rfl, rfl⟩ := hrel
    by_cases hlt : (d : Int) ≤ s.ino
    · by_cases hf : s.ino - d = 0
      · have h0 : (s.ino - (d : Int) == 0) = true := by simpa using hf
        have d1 : decide (s.da < (s.ino - 1) / 16 + d + s.ino) = false := decide_eq_false (by omega)
        clear hf
        go_wp2_with fail
        go_roundw
        case rel => exact ⟨d + 1, by omega, by omega, by go_num, by first | rfl | trivial⟩
        case measure => simp [intOf]; omega
      · have h0 : (s.ino - (d : Int) == 0) = false := by simpa using hf
        have d1 : decide (s.da < s.qu / 512 + (s.ino - d) + (s.ino - 1) / 16 + d + s.ino) = false := decide_eq_false (by omega)
        clear hf
        go_wp2_with fail
        go_roundw
        case rel => exact ⟨d + 1, by omega, by omega, by go_num, by first | rfl | trivial⟩
        case measure => simp [intOf]; omega
    · go_wp2_with fail
      go_ret
      exact ⟨rfl, hq_4⟩
end Go.Proofs.YtgpeefedboomoaaDoor
