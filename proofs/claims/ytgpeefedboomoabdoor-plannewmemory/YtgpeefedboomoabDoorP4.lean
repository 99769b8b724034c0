/- Plan by its contract. -/
import Derived.Test.YtgpeefedboomoabDoorP3
import Derived.Test.YtgpeefedboomoabDoorP5
namespace Go.Proofs.YtgpeefedboomoabDoor
open Go.RowKit
set_option maxRecDepth 100000

attribute [local go_sem ↓ 100000] ly_store ly_load
attribute [local go_sem] LyStore.new LyStore.drew LyLoad.new LyLoad.drew

theorem ShBox.and {w : World} {b : Nat} {s : Shp} {Q : Prop} (h : ShBox w b s) (k : Q) : w.cell? ⟨b, 0, none⟩ = some (.int .i64 s.cl) ∧ w.cell? ⟨b, 1, none⟩ = some (.int .i64 s.wi) ∧ w.cell? ⟨b, 2, none⟩ = some (.int .i64 s.pl) ∧ w.cell? ⟨b, 3, none⟩ = some (.int .i64 s.ca) ∧ w.cell? ⟨b, 4, none⟩ = some (.int .i64 s.ino) ∧ w.cell? ⟨b, 5, none⟩ = some (.int .i64 s.qu) ∧ w.cell? ⟨b, 6, none⟩ = some (.int .i64 s.da) ∧ w.cell? ⟨b, 7, none⟩ = some (.int .i64 s.jo) ∧ Q := ⟨h.c0, h.c1, h.c2, h.c3, h.c4, h.c5, h.c6, h.c7, k⟩
set_option maxHeartbeats 2000000 in
theorem plan_any (s : Shp) (w : World) (hB : Bds w) :
    Calls Tryd.prog 22 #[shV s] w fun e w' => e = .returned (.tuple #[lyV (planL s), .int .i64 (planE s)]) ∧ Below w.heap.size w w' := by
  have hB0 : ShBox ((w.alloc (.cells #[.int .i64 s.cl, .int .i64 s.wi, .int .i64 s.pl, .int .i64 s.ca, .int .i64 s.ino, .int .i64 s.qu, .int .i64 s.da, .int .i64 s.jo] 33)).alloc (.cells #[.int .i64 0, .int .i64 0, .int .i64 0, .int .i64 0, .int .i64 0, .int .i64 0, .int .i64 0, .int .i64 0, .int .i64 0, .int .i64 0, .int .i64 0, .int .i64 0, .int .i64 0, .int .i64 0, .int .i64 0, .int .i64 0, .int .i64 0, .int .i64 0, .int .i64 0, .int .i64 0] 40)) w.heap.size s := (ShBox.new w s).later (newBox _ _) (by simp)
  have hZ0 : ((w.alloc (.cells #[.int .i64 s.cl, .int .i64 s.wi, .int .i64 s.pl, .int .i64 s.ca, .int .i64 s.ino, .int .i64 s.qu, .int .i64 s.da, .int .i64 s.jo] 33)).alloc (.cells #[.int .i64 0, .int .i64 0, .int .i64 0, .int .i64 0, .int .i64 0, .int .i64 0, .int .i64 0, .int .i64 0, .int .i64 0, .int .i64 0, .int .i64 0, .int .i64 0, .int .i64 0, .int .i64 0, .int .i64 0, .int .i64 0, .int .i64 0, .int .i64 0, .int .i64 0, .int .i64 0] 40)).heap[w.heap.size + 1]? = some (.cells #[.int .i64 0, .int .i64 0, .int .i64 0, .int .i64 0, .int .i64 0, .int .i64 0, .int .i64 0, .int .i64 0, .int .i64 0, .int .i64 0, .int .i64 0, .int .i64 0, .int .i64 0, .int .i64 0, .int .i64 0, .int .i64 0, .int .i64 0, .int .i64 0, .int .i64 0, .int .i64 0] 40 (0, 0)) := heap_new2 w _ _
  have hb0 : Below w.heap.size w ((w.alloc (.cells #[.int .i64 s.cl, .int .i64 s.wi, .int .i64 s.pl, .int .i64 s.ca, .int .i64 s.ino, .int .i64 s.qu, .int .i64 s.da, .int .i64 s.jo] 33)).alloc (.cells #[.int .i64 0, .int .i64 0, .int .i64 0, .int .i64 0, .int .i64 0, .int .i64 0, .int .i64 0, .int .i64 0, .int .i64 0, .int .i64 0, .int .i64 0, .int .i64 0, .int .i64 0, .int .i64 0, .int .i64 0, .int .i64 0, .int .i64 0, .int .i64 0, .int .i64 0, .int .i64 0] 40)) := (newBox w _).trans ((newBox _ _).mono (by simp))
  have hs0 : w.heap.size < ((w.alloc (.cells #[.int .i64 s.cl, .int .i64 s.wi, .int .i64 s.pl, .int .i64 s.ca, .int .i64 s.ino, .int .i64 s.qu, .int .i64 s.da, .int .i64 s.jo] 33)).alloc (.cells #[.int .i64 0, .int .i64 0, .int .i64 0, .int .i64 0, .int .i64 0, .int .i64 0, .int .i64 0, .int .i64 0, .int .i64 0, .int .i64 0, .int .i64 0, .int .i64 0, .int .i64 0, .int .i64 0, .int .i64 0, .int .i64 0, .int .i64 0, .int .i64 0, .int .i64 0, .int .i64 0] 40)).heap.size := by simp; omega
  have hD0 : Bds ((w.alloc (.cells #[.int .i64 s.cl, .int .i64 s.wi, .int .i64 s.pl, .int .i64 s.ca, .int .i64 s.ino, .int .i64 s.qu, .int .i64 s.da, .int .i64 s.jo] 33)).alloc (.cells #[.int .i64 0, .int .i64 0, .int .i64 0, .int .i64 0, .int .i64 0, .int .i64 0, .int .i64 0, .int .i64 0, .int .i64 0, .int .i64 0, .int .i64 0, .int .i64 0, .int .i64 0, .int .i64 0, .int .i64 0, .int .i64 0, .int .i64 0, .int .i64 0, .int .i64 0, .int .i64 0] 40)) := hB.later hb0 (Nat.le_refl _)
  go_enter Tryd.func22, Tryd.ntmps22
  go_wp2_with fail
  generalize ((w.alloc (.cells #[.int .i64 s.cl, .int .i64 s.wi, .int .i64 s.pl, .int .i64 s.ca, .int .i64 s.ino, .int .i64 s.qu, .int .i64 s.da, .int .i64 s.jo] 33)).alloc (.cells #[.int .i64 0, .int .i64 0, .int .i64 0, .int .i64 0, .int .i64 0, .int .i64 0, .int .i64 0, .int .i64 0, .int .i64 0, .int .i64 0, .int .i64 0, .int .i64 0, .int .i64 0, .int .i64 0, .int .i64 0, .int .i64 0, .int .i64 0, .int .i64 0, .int .i64 0, .int .i64 0] 40)) = w0 at *
  refine (inBounds_any s _ hD0).mono ?_
  rintro e w1 ⟨rfl, hb1⟩
  have hB1 := hB0.later hb1 hs0
  have hZ1 := (hb1.block _ (lt_of_block hZ0)).trans hZ0
  have hs1 := Nat.lt_of_lt_of_le hs0 hb1.size
  have hq1 := hb0.trans (hb1.mono hb0.size)
  clear hB0 hZ0 hs0 hb1 hb0 hD0 hB
  by_cases hin : InB s
  case neg =>
    simp only [decide_eq_false hin]
    have hst := LyStore.row hZ1 rfl
    clear hB1
    go_wp2
    refine bodyPost_ret (res2 rfl _ _ (w.heap.size + 1) 40 _ (0, 0) _ rfl (setRow_heap _ _ _ _ _ _ hZ1) Tryd.underlying40 rfl ly_size) rfl ?_
    have e : planE s = 2 := by unfold planE; rw [if_pos hin]
    refine ⟨?_, below_setRow hq1 (by omega) _⟩
    unfold planL
    rw [e]
    rfl
  simp only [decide_eq_true hin]
  obtain ⟨a0, a1, a2, a3, a4, a5, a6, a7⟩ := hB1
  go_wp2_with fail
  refine (layOut_any s hin _).mono ?_
  rintro e w2 ⟨rfl, hb2⟩
  have hB2 := (ShBox.mk a0 a1 a2 a3 a4 a5 a6 a7).later hb2 hs1
  have hZ2 := (hb2.block _ (lt_of_block hZ1)).trans hZ1
  have hs2 := Nat.lt_of_lt_of_le hs1 hb2.size
  have hq2 := hq1.trans (hb2.mono hq1.size)
  clear a0 a1 a2 a3 a4 a5 a6 a7 hZ1 hs1 hq1 hb2
  have hn := newBox w2 (.cells #[.int .i64 (layOf s).bo, .int .i64 (layOf s).jr, .int .i64 (layOf s).jl, .int .i64 (layOf s).le, .int .i64 (layOf s).ll, .int .i64 (layOf s).bi, .int .i64 (layOf s).bl, .int .i64 (layOf s).ta, .int .i64 (layOf s).tl, .int .i64 (layOf s).dt, .int .i64 (layOf s).dl, .int .i64 (layOf s).to, .int .i64 (layOf s).sh.cl, .int .i64 (layOf s).sh.wi, .int .i64 (layOf s).sh.pl, .int .i64 (layOf s).sh.ca, .int .i64 (layOf s).sh.ino, .int .i64 (layOf s).sh.qu, .int .i64 (layOf s).sh.da, .int .i64 (layOf s).sh.jo] 40)
  have hL3 : (w2.alloc (.cells #[.int .i64 (layOf s).bo, .int .i64 (layOf s).jr, .int .i64 (layOf s).jl, .int .i64 (layOf s).le, .int .i64 (layOf s).ll, .int .i64 (layOf s).bi, .int .i64 (layOf s).bl, .int .i64 (layOf s).ta, .int .i64 (layOf s).tl, .int .i64 (layOf s).dt, .int .i64 (layOf s).dl, .int .i64 (layOf s).to, .int .i64 (layOf s).sh.cl, .int .i64 (layOf s).sh.wi, .int .i64 (layOf s).sh.pl, .int .i64 (layOf s).sh.ca, .int .i64 (layOf s).sh.ino, .int .i64 (layOf s).sh.qu, .int .i64 (layOf s).sh.da, .int .i64 (layOf s).sh.jo] 40)).heap[w2.heap.size]? = some (.cells #[.int .i64 (layOf s).bo, .int .i64 (layOf s).jr, .int .i64 (layOf s).jl, .int .i64 (layOf s).le, .int .i64 (layOf s).ll, .int .i64 (layOf s).bi, .int .i64 (layOf s).bl, .int .i64 (layOf s).ta, .int .i64 (layOf s).tl, .int .i64 (layOf s).dt, .int .i64 (layOf s).dl, .int .i64 (layOf s).to, .int .i64 (layOf s).sh.cl, .int .i64 (layOf s).sh.wi, .int .i64 (layOf s).sh.pl, .int .i64 (layOf s).sh.ca, .int .i64 (layOf s).sh.ino, .int .i64 (layOf s).sh.qu, .int .i64 (layOf s).sh.da, .int .i64 (layOf s).sh.jo] 40 (0, 0)) := heap_alloc_last w2 _
  have hT3 : (w2.alloc (.cells #[.int .i64 (layOf s).bo, .int .i64 (layOf s).jr, .int .i64 (layOf s).jl, .int .i64 (layOf s).le, .int .i64 (layOf s).ll, .int .i64 (layOf s).bi, .int .i64 (layOf s).bl, .int .i64 (layOf s).ta, .int .i64 (layOf s).tl, .int .i64 (layOf s).dt, .int .i64 (layOf s).dl, .int .i64 (layOf s).to, .int .i64 (layOf s).sh.cl, .int .i64 (layOf s).sh.wi, .int .i64 (layOf s).sh.pl, .int .i64 (layOf s).sh.ca, .int .i64 (layOf s).sh.ino, .int .i64 (layOf s).sh.qu, .int .i64 (layOf s).sh.da, .int .i64 (layOf s).sh.jo] 40)).cell? ⟨w2.heap.size, 11, none⟩ = some (.int .i64 (layOf s).to) := (LyBox.new w2 (layOf s)).c11
  have hZ3 := (hn.block _ (lt_of_block hZ2)).trans hZ2
  have hB3 := hB2.later hn hs2
  have hs3 := Nat.lt_of_lt_of_le hs2 hn.size
  have hq3 := hq2.trans (hn.mono hq2.size)
  go_wp2
  clear hZ2 hB2 hs2 hq2 hn
  have hl3 : w2.heap.size < (w2.alloc (.cells #[.int .i64 (layOf s).bo, .int .i64 (layOf s).jr, .int .i64 (layOf s).jl, .int .i64 (layOf s).le, .int .i64 (layOf s).ll, .int .i64 (layOf s).bi, .int .i64 (layOf s).bl, .int .i64 (layOf s).ta, .int .i64 (layOf s).tl, .int .i64 (layOf s).dt, .int .i64 (layOf s).dl, .int .i64 (layOf s).to, .int .i64 (layOf s).sh.cl, .int .i64 (layOf s).sh.wi, .int .i64 (layOf s).sh.pl, .int .i64 (layOf s).sh.ca, .int .i64 (layOf s).sh.ino, .int .i64 (layOf s).sh.qu, .int .i64 (layOf s).sh.da, .int .i64 (layOf s).sh.jo] 40)).heap.size := by simp
  generalize w2.alloc (.cells #[.int .i64 (layOf s).bo, .int .i64 (layOf s).jr, .int .i64 (layOf s).jl, .int .i64 (layOf s).le, .int .i64 (layOf s).ll, .int .i64 (layOf s).bi, .int .i64 (layOf s).bl, .int .i64 (layOf s).ta, .int .i64 (layOf s).tl, .int .i64 (layOf s).dt, .int .i64 (layOf s).dl, .int .i64 (layOf s).to, .int .i64 (layOf s).sh.cl, .int .i64 (layOf s).sh.wi, .int .i64 (layOf s).sh.pl, .int .i64 (layOf s).sh.ca, .int .i64 (layOf s).sh.ino, .int .i64 (layOf s).sh.qu, .int .i64 (layOf s).sh.da, .int .i64 (layOf s).sh.jo] 40) = w3 at *
  have hB4 : ShBox w3.drew w.heap.size s := hB3.later (Below.refl w3.heap.size w3).drew hs3
  have hT4 : w3.drew.cell? ⟨w2.heap.size, 11, none⟩ = some (.int .i64 (layOf s).to) := hT3
  have hZ4 : w3.drew.heap[w.heap.size + 1]? = some (.cells #[.int .i64 0, .int .i64 0, .int .i64 0, .int .i64 0, .int .i64 0, .int .i64 0, .int .i64 0, .int .i64 0, .int .i64 0, .int .i64 0, .int .i64 0, .int .i64 0, .int .i64 0, .int .i64 0, .int .i64 0, .int .i64 0, .int .i64 0, .int .i64 0, .int .i64 0, .int .i64 0] 40 (0, 0)) := hZ3
  have hL4 : w3.drew.heap[w2.heap.size]? = some (.cells #[.int .i64 (layOf s).bo, .int .i64 (layOf s).jr, .int .i64 (layOf s).jl, .int .i64 (layOf s).le, .int .i64 (layOf s).ll, .int .i64 (layOf s).bi, .int .i64 (layOf s).bl, .int .i64 (layOf s).ta, .int .i64 (layOf s).tl, .int .i64 (layOf s).dt, .int .i64 (layOf s).dl, .int .i64 (layOf s).to, .int .i64 (layOf s).sh.cl, .int .i64 (layOf s).sh.wi, .int .i64 (layOf s).sh.pl, .int .i64 (layOf s).sh.ca, .int .i64 (layOf s).sh.ino, .int .i64 (layOf s).sh.qu, .int .i64 (layOf s).sh.da, .int .i64 (layOf s).sh.jo] 40 (0, 0)) := hL3
  have hq4 : Below w.heap.size w w3.drew := hq3.drew
  have hs3 : w.heap.size < w3.drew.heap.size := hs3
  have hl3 : w2.heap.size < w3.drew.heap.size := hl3
  clear hB3 hT3 hZ3 hL3 hq3
  by_cases h0 : s.da < leastD s
  · have d0 : decide (s.da < leastD s) = true := decide_eq_true h0
    obtain ⟨a0, a1, a2, a3, a4, a5, a6, a7⟩ := hB4
    first | (go_region_with (first
      | (go_at_call 42; refine (leastData_any s hin _).mono ?_; rintro e w4 ⟨rfl, hb4⟩; have a6' := (hb4.cell (p := ⟨w.heap.size, 6, none⟩) hs3).trans a6))) | fail
    all_goals
      have hZ5 := (hb4.block _ (lt_of_block hZ4)).trans hZ4
      have hst := LyStore.row hZ5 rfl
      have hq5 := hq4.trans (hb4.mono hq4.size)
      go_wp2
      refine bodyPost_ret (res2 rfl _ _ (w.heap.size + 1) 40 _ (0, 0) _ rfl (setRow_heap _ _ _ _ _ _ hZ5) Tryd.underlying40 rfl ly_size) rfl ?_
      have e : planE s = 63 := by unfold planE; rw [if_neg (fun h => h hin), if_pos (Or.inl h0)]
      refine ⟨?_, below_setRow hq5 (by omega) _⟩
      unfold planL
      rw [e]
      rfl
  have d0 : decide (s.da < leastD s) = false := decide_eq_false h0
  by_cases h1 : 4096 < (layOf s).to
  · have d1 : decide (4096 < (layOf s).to) = true := decide_eq_true h1
    go_region_held3 (fun w' => w'.cell? ⟨w.heap.size, 0, none⟩ = some (.int .i64 s.cl) ∧ w'.cell? ⟨w.heap.size, 1, none⟩ = some (.int .i64 s.wi) ∧ w'.cell? ⟨w.heap.size, 2, none⟩ = some (.int .i64 s.pl) ∧ w'.cell? ⟨w.heap.size, 3, none⟩ = some (.int .i64 s.ca) ∧ w'.cell? ⟨w.heap.size, 4, none⟩ = some (.int .i64 s.ino) ∧ w'.cell? ⟨w.heap.size, 5, none⟩ = some (.int .i64 s.qu) ∧ w'.cell? ⟨w.heap.size, 6, none⟩ = some (.int .i64 s.da) ∧ w'.cell? ⟨w.heap.size, 7, none⟩ = some (.int .i64 s.jo) ∧ w'.cell? ⟨w2.heap.size, 11, none⟩ = some (.int .i64 (layOf s).to))
      (first | with_reducible exact hB4.and hT4 | with_reducible exact hB5.and hT5)
      (first
        | (go_at_call 42; refine (leastData_any s hin _).mono ?_; rintro e w4 ⟨rfl, hb4⟩; have hB5 := hB4.later hb4 hs3; have hT5 := (hb4.cell (p := ⟨w2.heap.size, 11, none⟩) hl3).trans hT4))
    all_goals
      have hZ5 := (hb4.block _ (lt_of_block hZ4)).trans hZ4
      have hst := LyStore.row hZ5 rfl
      have hq5 := hq4.trans (hb4.mono hq4.size)
      go_wp2
      refine bodyPost_ret (res2 rfl _ _ (w.heap.size + 1) 40 _ (0, 0) _ rfl (setRow_heap _ _ _ _ _ _ hZ5) Tryd.underlying40 rfl ly_size) rfl ?_
      have e : planE s = 63 := by unfold planE; rw [if_neg (fun h => h hin), if_pos (Or.inr h1)]
      refine ⟨?_, below_setRow hq5 (by omega) _⟩
      unfold planL
      rw [e]
      rfl
  · have d1 : decide (4096 < (layOf s).to) = false := decide_eq_false h1
    go_region_held3 (fun w' => w'.cell? ⟨w.heap.size, 0, none⟩ = some (.int .i64 s.cl) ∧ w'.cell? ⟨w.heap.size, 1, none⟩ = some (.int .i64 s.wi) ∧ w'.cell? ⟨w.heap.size, 2, none⟩ = some (.int .i64 s.pl) ∧ w'.cell? ⟨w.heap.size, 3, none⟩ = some (.int .i64 s.ca) ∧ w'.cell? ⟨w.heap.size, 4, none⟩ = some (.int .i64 s.ino) ∧ w'.cell? ⟨w.heap.size, 5, none⟩ = some (.int .i64 s.qu) ∧ w'.cell? ⟨w.heap.size, 6, none⟩ = some (.int .i64 s.da) ∧ w'.cell? ⟨w.heap.size, 7, none⟩ = some (.int .i64 s.jo) ∧ w'.cell? ⟨w2.heap.size, 11, none⟩ = some (.int .i64 (layOf s).to))
      (first | with_reducible exact hB4.and hT4 | with_reducible exact hB5.and hT5)
      (first
        | (go_at_call 42; refine (leastData_any s hin _).mono ?_; rintro e w4 ⟨rfl, hb4⟩; have hB5 := hB4.later hb4 hs3; have hT5 := (hb4.cell (p := ⟨w2.heap.size, 11, none⟩) hl3).trans hT4))
    all_goals
      have hZ5 := (hb4.block _ (lt_of_block hZ4)).trans hZ4
      have hL5 := (hb4.block _ (lt_of_block hL4)).trans hL4
      have hld := LyLoad.row hL5 rfl
      have hst := LyStore.row hZ5 rfl
      have hq5 := hq4.trans (hb4.mono hq4.size)
      go_wp2
      refine bodyPost_ret (res2 rfl _ _ (w.heap.size + 1) 40 _ (0, 0) _ rfl (setRow_heap _ _ _ _ _ _ hZ5) Tryd.underlying40 rfl ly_size) rfl ?_
      have e : planE s = 0 := by unfold planE; rw [if_neg (fun h => h hin), if_neg (fun h => by omega)]
      refine ⟨?_, below_setRow hq5 (by omega) _⟩
      unfold planL
      rw [e]
      rfl
end Go.Proofs.YtgpeefedboomoabDoor
