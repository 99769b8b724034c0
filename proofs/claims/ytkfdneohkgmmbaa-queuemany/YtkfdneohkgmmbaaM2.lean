/- Pop and Push of a queue of structs of one client, by their contracts. -/
import Derived.Test.YtkfdneohkgmmbaaM1
namespace Go.Proofs.Ytkfdneohkgmmbaa
open Go.RowKit
set_option maxRecDepth 100000
attribute [local go_sem ↓] Go.wp_at_zero Go.wp_at_succ

set_option maxHeartbeats 4000000 in
theorem pop1M {w : World} {lab : Nat → Nat} {k qb P : Nat} (x1 x2 x3 : Int) (l : List (Int × Int × Int)) (hq : Qu KM w lab k qb P 0 [(x1, x2, x3) :: l]) :
    Calls Try.prog 27 #[.pointer (some ⟨qb, 0, none⟩)] w fun e w' => e = .returned (.tuple #[.int .i64 0, .agg #[.int .i64 x1, .int .i64 x2, .int .i64 x3], .bool true]) ∧ Qu KM w' (rl lab w k) k qb P 0 [l] ∧ Turns (fun i => lab i = k) w w' := by
  obtain ⟨wb, vs, h⟩ := hq
  have b1 : Below w.heap.size w (w.alloc (IB 0 0 0)) := (Below.refl _ w).alloc (Nat.le_refl _) _
  have hQ := h.below b1 (k + 1)
  have hB0 : (w.alloc (IB 0 0 0)).heap[w.heap.size]? = some (IB 0 0 0) := heap_alloc_new _ _
  have lS : rl lab w (k + 1) w.heap.size = k + 1 := rl_new (Nat.le_refl _)
  obtain ⟨W, hW⟩ : ∃ x, w.alloc (IB 0 0 0) = x := ⟨_, rfl⟩
  rw [hW] at b1 hQ hB0
  have c1 := hQ.c1
  have c2 := hQ.c2
  have hv0 : vs.length = 1 := h.len
  have cw := hQ.cw 0 (by omega)
  obtain ⟨ao, cap, hv⟩ := own_slice (hQ.own 0 (by omega) (by simp))
  rw [hv] at cw
  simp only [List.getElem_cons_zero, List.length_cons, List.length_nil, Nat.zero_add] at cw c2
  have hf := hQ.f1 1
  have HN := hQ.next 0 (by simp)
  obtain ⟨W2, hW2⟩ : ∃ x, W.setCell ⟨qb, 1, none⟩ (.int .i64 0) = x := ⟨_, rfl⟩
  have hW2' : W.setCell ⟨qb, 1, none⟩ (.int .i64 ((0 : Nat) : Int)) = W2 := hW2
  rw [hW2'] at HN
  obtain ⟨HN1, HN2⟩ := HN
  have hB2 : W2.heap[w.heap.size]? = some (IB 0 0 0) := (HN2.block _ (heap_lt hB0) (by rw [lS]; omega)).trans hB0
  have HQ : Hid (Qx KM W (rl lab w (k + 1)) k qb wb P 0 vs [(x1, x2, x3) :: l]) := hQ
  have hs2 : W2.heap.size = W.heap.size := by rw [← hW2]; simp [World.setCell]
  have HS2 : Hid (W2.heap.size = W.heap.size) := hs2
  have a5 : (0 : Int) < (l.length : Int) + 1 := by omega
  have HWW : Hid (w.alloc (IB 0 0 0) = W) := hW
  have HW2 : Hid (W.setCell ⟨qb, 1, none⟩ (.int .i64 0) = W2) := hW2
  have hbd := h.le 0 (by simp)
  have hP := h.hP
  simp only [List.getElem_cons_zero, List.length_cons] at hbd
  have a6 : (l.length : Int) < 64 := by omega
  clear hQ hv hW hW2 hW2' hs2 h
  have c2a : (w.alloc (IB 0 0 0)).cell? ⟨qb, 2, none⟩ = some (.slice (some ⟨wb, 0, none⟩) 1 1) := by rw [HWW.out]; exact c2
  obtain ⟨s0, hs0⟩ : ∃ s0, w.heap.size = s0 := ⟨_, rfl⟩
  have HS0 : Hid (w.heap.size = s0) := hs0
  rw [hs0] at hB0 hB2 lS
  go_enter Try.func27, Try.ntmps27
  go_wp2_with fail
  rw [HWW.out]
  clear c2a hs0
  refine wp_loop_rounds 1 ?_
  rw [rounds_succ]
  go_wp2_with fail
  refine (behind_M HQ.out 0 0 (by simp) (by simp)).mono ?_
  simp only [List.length_cons, List.length_nil, Nat.zero_add, Nat.zero_mod]
  rintro e wn ⟨rfl, hwn⟩
  subst wn
  go_wp2_with fail
  refine (behind_M HQ.out 0 1 (by simp) (by simp)).mono ?_
  simp only [List.length_cons, List.length_nil, Nat.zero_add, Nat.mod_self]
  rintro e wn ⟨rfl, hwn⟩
  subst wn
  go_wp2_with fail
  try rw [HW2.out]
  refine (take_M HN1 0 (by simp) x1 x2 x3 l rfl).mono ?_
  rintro e w3 ⟨rfl, q3, t3⟩
  have hB3 : w3.heap[s0]? = some (IB 0 0 0) := (t3.block _ (heap_lt hB2) (by rw [lS]; omega)).trans hB2
  have u0 : w3.cell? ⟨s0, 0, none⟩ = some (.int .i64 0) := by simp [World.cell?, hB3]
  have u1 : w3.cell? ⟨s0, 1, none⟩ = some (.int .i64 0) := by simp [World.cell?, hB3]
  have u2 : w3.cell? ⟨s0, 2, none⟩ = some (.int .i64 0) := by simp [World.cell?, hB3]
  have uf : ∀ o, w3.frozen? ⟨s0, o, none⟩ = false := fun o => by simp [World.frozen?, hB3]
  rw [rl_same HS2.out] at q3
  have hS : Qu KM w3 (rl (rl lab w (k + 1)) W k) k qb P 0 [l] ∧ Turns (fun i => rl lab w (k + 1) i = k) W w3 := ⟨q3, HN2.trans t3 (fun _ _ q => q)⟩
  have hF := Qu.boxed b1 hS (s0 := s0) (by rw [HS0.out]; exact Nat.le_refl _) (heap_lt hB0) (((Turns.cell w3 s0 0 (.int .i64 x1)).trans (Turns.cell _ s0 1 (.int .i64 x2)) (fun _ _ q => q)).trans (Turns.cell _ s0 2 (.int .i64 x3)) (fun _ _ q => q))
  clear q3 t3 hS HN1 HN2 hB2 hB3 hB0 c1 c2 cw hf
  go_wp2_with fail
  exact bodyPost_ret (v := .tuple #[.int .i64 0, .agg #[.int .i64 x1, .int .i64 x2, .int .i64 x3], .bool true]) (by simp [results, Try.results27, go_sem, u0, u1, u2]) rfl ⟨rfl, hF.1, hF.2⟩
set_option maxHeartbeats 4000000 in
theorem pop0M {w : World} {lab : Nat → Nat} {k qb P : Nat} (hq : Qu KM w lab k qb P 0 [[]]) :
    Calls Try.prog 27 #[.pointer (some ⟨qb, 0, none⟩)] w fun e w' => e = .returned (.tuple #[.int .i64 0, .agg #[.int .i64 0, .int .i64 0, .int .i64 0], .bool false]) ∧ Below w.heap.size w w' := by
  obtain ⟨wb, vs, h⟩ := hq
  have b1 : Below w.heap.size w (w.alloc (IB 0 0 0)) := (Below.refl _ w).alloc (Nat.le_refl _) _
  have hQ := h.below b1 (k + 1)
  obtain ⟨W, hW⟩ : ∃ x, w.alloc (IB 0 0 0) = x := ⟨_, rfl⟩
  have hB0 : (w.alloc (IB 0 0 0)).heap[w.heap.size]? = some (IB 0 0 0) := heap_alloc_new _ _
  rw [hW] at b1 hQ hB0
  have c1 := hQ.c1
  have c2 := hQ.c2
  have hv0 : vs.length = 1 := h.len
  have cw := hQ.cw 0 (by omega)
  obtain ⟨ao, cap, hv⟩ := own_slice (hQ.own 0 (by omega) (by simp))
  rw [hv] at cw
  simp only [List.getElem_cons_zero, List.length_cons, List.length_nil, Nat.zero_add] at cw c2
  have HQ : Hid (Qx KM W (rl lab w (k + 1)) k qb wb P 0 vs [[]]) := hQ
  have HWW : Hid (w.alloc (IB 0 0 0) = W) := hW
  clear hQ hv hW h
  have c2a : (w.alloc (IB 0 0 0)).cell? ⟨qb, 2, none⟩ = some (.slice (some ⟨wb, 0, none⟩) 1 1) := by rw [HWW.out]; exact c2
  go_enter Try.func27, Try.ntmps27
  go_wp2_with fail
  rw [HWW.out]
  clear c2a
  refine wp_loop_rounds 2 ?_
  rw [rounds_succ]
  go_wp2_with fail
  refine (behind_M HQ.out 0 0 (by simp) (by simp)).mono ?_
  simp only [List.length_cons, List.length_nil, Nat.zero_add, Nat.zero_mod]
  rintro e wn ⟨rfl, hwn⟩
  subst wn
  go_wp2_with fail
  rw [rounds_succ]
  have hn1 : (W.alloc (IB 0 0 0)).heap[W.heap.size]? = some (IB 0 0 0) := heap_alloc_new _ _
  have hn0 : (W.alloc (IB 0 0 0)).heap[w.heap.size]? = some (IB 0 0 0) := by rw [Below.heap_alloc _ _ _ (heap_lt hB0)]; exact hB0
  have b2 : Below w.heap.size w (W.alloc (IB 0 0 0)) := b1.alloc b1.size _
  have v0 : (W.alloc (IB 0 0 0)).cell? ⟨W.heap.size, 0, none⟩ = some (.int .i64 0) := cell_of_row _ _ 0 _ _ _ hn1
  have v1 : (W.alloc (IB 0 0 0)).cell? ⟨W.heap.size, 1, none⟩ = some (.int .i64 0) := cell_of_row _ _ 1 _ _ _ hn1
  have v2 : (W.alloc (IB 0 0 0)).cell? ⟨W.heap.size, 2, none⟩ = some (.int .i64 0) := cell_of_row _ _ 2 _ _ _ hn1
  have u0 : (W.alloc (IB 0 0 0)).cell? ⟨w.heap.size, 0, none⟩ = some (.int .i64 0) := cell_of_row _ _ 0 _ _ _ hn0
  have u1 : (W.alloc (IB 0 0 0)).cell? ⟨w.heap.size, 1, none⟩ = some (.int .i64 0) := cell_of_row _ _ 1 _ _ _ hn0
  have u2 : (W.alloc (IB 0 0 0)).cell? ⟨w.heap.size, 2, none⟩ = some (.int .i64 0) := cell_of_row _ _ 2 _ _ _ hn0
  have uf : ∀ o, (W.alloc (IB 0 0 0)).frozen? ⟨w.heap.size, o, none⟩ = false := fun o => by unfold World.frozen?; rw [hn0]; simp
  clear hn0 hn1 hB0 c1 c2 cw b1
  go_wp2_with fail
  go_region
  all_goals
    go_wp2_with fail
    have b3 := ((b2.setCell (p := ⟨w.heap.size, 0, none⟩) (Nat.le_refl _) (.int .i64 0)).setCell (p := ⟨w.heap.size, 1, none⟩) (Nat.le_refl _) (.int .i64 0)).setCell (p := ⟨w.heap.size, 2, none⟩) (Nat.le_refl _) (.int .i64 0)
    exact bodyPost_ret (v := .tuple #[.int .i64 0, .agg #[.int .i64 0, .int .i64 0, .int .i64 0], .bool false]) (by simp [results, Try.results27, go_sem, u0, u1, u2]) rfl ⟨rfl, b3.os, b3.tape, b3.output, b3.size, b3.block⟩
end Go.Proofs.Ytkfdneohkgmmbaa
