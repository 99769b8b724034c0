/- Cancel, At, Next and Due of the document's own alarm, its keys ints, by their contracts. -/
import Derived.Test.YtbopghpfghaoeaaD3i
import Derived.Test.YtbopghpfghaoeaaD4i
namespace Go.Proofs.Ytbopghpfghaoeaa
open Go.RowKit Go.Maps
set_option maxRecDepth 100000
attribute [local go_sem ↓] Go.wp_at_zero Go.wp_at_succ

theorem rl_monoI {lab : Nat → Nat} {w w1 : World} {k i : Nat} (h : rl lab w1 k i = k) (hs : w.heap.size ≤ w1.heap.size) : rl lab w k i = k := by
  unfold rl at h ⊢
  split
  · rename_i q; rw [if_pos (by omega)] at h; exact h
  · rfl
theorem RxI.relab {w2 w w1 : World} {lab : Nat → Nat} {k rb : Nat} {rv : Value} {l : List (Int × Int)} (h : RxI w2 (rl lab w1 k) k rb rv l) (hs : w.heap.size ≤ w1.heap.size) : RxI w2 (rl lab w k) k rb rv l :=
  { h with lb := rl_monoI h.lb hs, lr := fun b e => rl_monoI (h.lr b e) hs }
theorem RxI.lift {w2 w : World} {lab : Nat → Nat} {k rb : Nat} {rv : Value} {l : List (Int × Int)} (h : RxI w2 lab k rb rv l) : RxI w2 (rl lab w k) k rb rv l :=
  { h with lb := (by unfold rl; split; exact h.lb; rfl), lr := fun b e => (by unfold rl; split; exact h.lr b e; rfl) }
set_option maxHeartbeats 2000000 in
theorem dcancel_I {w : World} {lab : Nat → Nat} {k rb : Nat} {S : List (Int × Int)} (h : ReI w lab k rb S) (a : Int) :
    Calls Try.prog 23 #[.pointer (some ⟨rb, 0, none⟩), .agg #[.int .i64 a, .string ⟨#[]⟩]] w fun e w' => e = .returned (.bool (atS S a).isSome) ∧ ReRI w w' lab k rb (cutS S a) := by
  obtain ⟨rv, l, h1, h2⟩ := h
  obtain ⟨W, hW⟩ : ∃ W, w.alloc (.cells #[.int .i64 a, .string ⟨#[]⟩] 51) = W := ⟨_, rfl⟩
  obtain ⟨z0, z1, _⟩ := box_two w (([.int .i64 a, .string ⟨#[]⟩] : List Value)[0]) (([.int .i64 a, .string ⟨#[]⟩] : List Value)[1]) 51
  simp only [List.getElem_cons_zero, List.getElem_cons_succ] at z0 z1
  rw [hW] at z0 z1
  have bW : Below w.heap.size w W := by rw [← hW]; exact (Below.refl _ w).alloc (Nat.le_refl _) _
  have hR := h1.below bW
  have hlb := h1.lb
  go_enter Try.func23, Try.ntmps23
  go_wp2_with fail
  refine (find_I hR a).mono ?_
  rintro e w1 ⟨z, rfl, hF, b1⟩
  have R1 := hR.below b1
  have B1 : Below w.heap.size w w1 := bW.trans (b1.mono bW.size)
  clear hR z0 z1 hW bW
  rcases hF with ⟨rfl, hno⟩ | ⟨n, u, rfl, hn⟩
  · have e1 : atS S a = none := h2.at_none hno
    have e2 : cutS S a = S := cutS_none (fun q => hno ((h2.perm.map Prod.fst).mem_iff.2 q))
    go_wp2_with fail
    go_ret
    refine ⟨by rw [e1]; rfl, ?_, Below.turns B1 _⟩
    rw [e2]
    exact ⟨rv, l, R1.lift, h2⟩
  · have e1 : atS S a = some u := h2.at_some hn
    have a3 : (0 : Int) ≤ n := by omega
    have hnl := (List.getElem?_eq_some_iff.1 hn).1
    go_wp2_with (go_at_call 53; refine (without_I R1 n hnl).mono ?_; rintro e w2 ⟨rfl, r2⟩)
    go_ret
    obtain ⟨rv2, R2, t2⟩ := r2
    refine ⟨by rw [e1]; rfl, ⟨rv2, _, R2.relab B1.size, h2.dropI hn⟩, (Below.turns B1 (fun i => lab i = k)).trans t2 (fun i hi q => by subst q; exact hlb)⟩
set_option maxHeartbeats 2000000 in
theorem dat_I {w : World} {lab : Nat → Nat} {k rb : Nat} {S : List (Int × Int)} (h : ReI w lab k rb S) (a : Int) :
    Calls Try.prog 25 #[.pointer (some ⟨rb, 0, none⟩), .agg #[.int .i64 a, .string ⟨#[]⟩]] w fun e w' => e = .returned (.tuple #[.int .i64 ((atS S a).getD 0), .bool (atS S a).isSome]) ∧ Below w.heap.size w w' := by
  obtain ⟨rv, l, h1, h2⟩ := h
  obtain ⟨W, hW⟩ : ∃ W, w.alloc (.cells #[.int .i64 a, .string ⟨#[]⟩] 51) = W := ⟨_, rfl⟩
  obtain ⟨z0, z1, _⟩ := box_two w (([.int .i64 a, .string ⟨#[]⟩] : List Value)[0]) (([.int .i64 a, .string ⟨#[]⟩] : List Value)[1]) 51
  simp only [List.getElem_cons_zero, List.getElem_cons_succ] at z0 z1
  rw [hW] at z0 z1
  have bW : Below w.heap.size w W := by rw [← hW]; exact (Below.refl _ w).alloc (Nat.le_refl _) _
  have hR := h1.below bW
  go_enter Try.func25, Try.ntmps25
  go_wp2_with fail
  refine (find_I hR a).mono ?_
  rintro e w1 ⟨z, rfl, hF, b1⟩
  have R1 := hR.below b1
  have B1 : Below w.heap.size w w1 := bW.trans (b1.mono bW.size)
  clear hR z0 z1 hW bW
  rcases hF with ⟨rfl, hno⟩ | ⟨n, u, rfl, hn⟩
  · have e1 : atS S a = none := h2.at_none hno
    go_wp2_with fail
    go_ret2
    exact ⟨by rw [e1]; rfl, B1⟩
  · have e1 : atS S a = some u := h2.at_some hn
    obtain ⟨gr, cap, hrv, hcap, y0, y1, y2, yf⟩ := R1.at hn
    have c0 := R1.c0
    rw [hrv] at c0
    have hnl := (List.getElem?_eq_some_iff.1 hn).1
    have a1 : (n : Int) < l.length := by omega
    have a2 : (0 : Int) ≤ n := by omega
    have a3 : ¬ ((n : Int) < 0) := by omega
    clear R1 hrv
    go_wp2_with fail
    go_ret2
    exact ⟨by rw [e1]; rfl, B1⟩
/-- What the document's Next answers. -/
def nxDI : List (Int × Int) → Value
  | [] => .tuple #[.agg #[.int .i64 0, .string ⟨#[]⟩], .int .i64 0, .bool false]
  | m :: _ => .tuple #[.agg #[.int .i64 m.1, .string ⟨#[]⟩], .int .i64 m.2, .bool true]
set_option maxHeartbeats 2000000 in
theorem dnext_I {w : World} {lab : Nat → Nat} {k rb : Nat} {S : List (Int × Int)} (h : ReI w lab k rb S) :
    Calls Try.prog 27 #[.pointer (some ⟨rb, 0, none⟩)] w fun e w' => e = .returned (nxDI S) ∧ Below w.heap.size w w' := by
  obtain ⟨rv, l, h1, h2⟩ := h
  obtain ⟨W, hW⟩ : ∃ W, w.alloc (.cells #[.int .i64 0, .string ⟨#[]⟩] 51) = W := ⟨_, rfl⟩
  have bx0 : W.heap[w.heap.size]? = some (.cells #[.int .i64 0, .string ⟨#[]⟩] 51) := by rw [← hW]; exact heap_alloc_new _ _
  have bW : Below w.heap.size w W := by rw [← hW]; exact (Below.refl _ w).alloc (Nat.le_refl _) _
  have hR := h1.below bW
  have hlb := heap_lt h1.box
  have hgl0 : ∀ b, rv.ownBlock = some b → b < w.heap.size := fun b hb => own_lt h1.row hb
  clear h1
  go_enter Try.func27, Try.ntmps27
  go_wp2_with fail
  refine (first_I hR).mono ?_
  rintro e w1 ⟨z, rfl, hF, b1⟩
  have R1 := hR.below b1
  have bx1 := (b1.block _ (heap_lt bx0)).trans bx0
  have B1 : Below w.heap.size w w1 := bW.trans (b1.mono bW.size)
  have x0 : w1.cell? ⟨w.heap.size, 0, none⟩ = some (.int .i64 0) := by simp [World.cell?, bx1]
  have x1 : w1.cell? ⟨w.heap.size, 1, none⟩ = some (.string ⟨#[]⟩) := by simp [World.cell?, bx1]
  have xf : ∀ j, w1.frozen? ⟨w.heap.size, j, none⟩ = false := fun j => by simp [World.frozen?, bx1]
  clear hR bx0 hW bW b1
  rcases hF with ⟨rfl, rfl⟩ | ⟨n, m, rfl, hn, hmin⟩
  · obtain rfl : S = [] := List.eq_nil_of_length_eq_zero (by have := h2.len; simpa using this.symm)
    go_wp2_with fail
    obtain ⟨W9, hW9⟩ : ∃ W9, (w1.setCell ⟨w.heap.size, 0, none⟩ (.int .i64 0)).setCell ⟨w.heap.size, 1, none⟩ (.string ⟨#[]⟩) = W9 := ⟨_, rfl⟩
    have B9 : W9.heap[w.heap.size]? = some (.cells #[.int .i64 0, .string ⟨#[]⟩] 51) := by
      rw [← hW9]
      exact heap_setCell_same _ _ _ _ _ _ (heap_setCell_same _ _ _ _ _ _ bx1)
    have j0 : W9.cell? ⟨w.heap.size, 0, none⟩ = some (.int .i64 0) := by simp [World.cell?, B9]
    have j1 : W9.cell? ⟨w.heap.size, 1, none⟩ = some (.string ⟨#[]⟩) := by simp [World.cell?, B9]
    have b9 : Below w.heap.size w W9 := by rw [← hW9]; exact (B1.setCell (Nat.le_refl _) _).setCell (Nat.le_refl _) _
    try rw [hW9]
    refine bodyPost_ret (v := .tuple #[.agg #[.int .i64 0, .string ⟨#[]⟩], .int .i64 0, .bool false]) (by simp [results, Try.results27, go_sem, j0, j1]) rfl ?_
    exact ⟨rfl, b9⟩
  · obtain ⟨T, hT⟩ := h2.minI hn hmin
    subst hT
    obtain ⟨gr, cap, hrv, hcap, y0, y1, y2, yf⟩ := R1.at hn
    have c0 := R1.c0
    rw [hrv] at c0
    have hnl := (List.getElem?_eq_some_iff.1 hn).1
    have a1 : (n : Int) < l.length := by omega
    have a2 : (0 : Int) ≤ n := by omega
    have a3 : ¬ ((n : Int) < 0) := by omega
    have hgr := hgl0 gr (by rw [hrv]; rfl)
    have hgs : ¬ gr = w.heap.size := by omega
    clear R1 hrv yf
    go_wp2_with fail
    go_region
    obtain ⟨W9, hW9⟩ : ∃ W9, ((w1.setCell ⟨w.heap.size, 0, none⟩ (([.int .i64 m.1, .string ⟨#[]⟩] : List Value)[0])).setCell ⟨w.heap.size, 1, none⟩ (([.int .i64 m.1, .string ⟨#[]⟩] : List Value)[1])).drew = W9 := ⟨_, rfl⟩
    have B9 : W9.heap[w.heap.size]? = some (.cells #[.int .i64 m.1, .string ⟨#[]⟩] 51) := by
      rw [← hW9]
      exact heap_setCell_same _ _ _ _ _ _ (heap_setCell_same _ _ _ _ _ _ bx1)
    have j0 : W9.cell? ⟨w.heap.size, 0, none⟩ = some (([.int .i64 m.1, .string ⟨#[]⟩] : List Value)[0]) := by simp [World.cell?, B9]
    have j1 : W9.cell? ⟨w.heap.size, 1, none⟩ = some (([.int .i64 m.1, .string ⟨#[]⟩] : List Value)[1]) := by simp [World.cell?, B9]
    simp only [List.getElem_cons_zero, List.getElem_cons_succ] at hW9 j0 j1
    have b9 : Below w.heap.size w W9 := by rw [← hW9]; exact ((B1.setCell (Nat.le_refl _) _).setCell (Nat.le_refl _) _).trans ⟨rfl, rfl, rfl, Nat.le_refl _, fun _ _ => rfl⟩
    rw [hW9]
    go_wp2_with fail
    refine bodyPost_ret (v := .tuple #[.agg #[.int .i64 m.1, .string ⟨#[]⟩], .int .i64 m.2, .bool true]) (by simp [results, Try.results27, go_sem, j0, j1]) rfl ?_
    exact ⟨rfl, b9⟩
end Go.Proofs.Ytbopghpfghaoeaa
