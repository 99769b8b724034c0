/- The program's callOf. (Written by mkW6.py.) -/
import Derived.Test.YtjkmdacgiebbfaaDoorW6h
namespace Go.Proofs.YtjkmdacgiebbfaaDoor
open Go.RowKit Go.Sort
set_option maxRecDepth 100000

set_option maxHeartbeats 8000000 in
theorem callOf_any (op : Int) (w : World) (hG : Gl w) : Calls Tryd.prog 39 #[.int .i64 op] w fun e w' => e = .returned (.agg (rowA op)) ∧ Below w.heap.size w w' := by
  obtain ⟨t, fr, hh⟩ := var_heap gn_calls hG.calls
  have hh2 := (Below.heap_alloc w (.cells #[.int .i64 0, .string ⟨#[]⟩, .string ⟨#[]⟩] 76) 2 (by have := hG.size; omega)).trans hh
  have hld := run_loadVar_row (P := Tryd.prog) _ _ t 94 callCells fr _ hh2 Tryd.underlying94 rfl (by kernel_rfl)
  have hG0 := hG.size
  clear hh hh2 hG
  go_enter Tryd.func39, Tryd.ntmps39
  go_wp2_with (refine wpList_glob rfl 94 2 rfl _ hld ?_; clear hld)
  go_loopw [6] (fun k wr => ∃ q : Nat, q ≤ 10 ∧ k = .int .i64 q ∧ (∀ j : Nat, j < q → op ≠ (j : Int) + 1) ∧ Below w.heap.size w wr ∧ wr.heap[w.heap.size]? = some (.cells #[.int .i64 0, .string ⟨#[]⟩, .string ⟨#[]⟩] 76 (0, 0))) (fun k _ => 10 - (intOf k).toNat)
  case atStart => exact ⟨0, Nat.zero_le _, rfl, fun j hj => absurd hj (Nat.not_lt_zero _), (Below.refl _ w).alloc (Nat.le_refl _) _, heap_alloc_new _ _⟩
  case round =>
    obtain ⟨q, hq, rfl, hno, hb, hx⟩ := hrel
    have c0 : wr.cell? ⟨w.heap.size, 0, none⟩ = some (.int .i64 0) := by rw [Lib.cell_of_heap hx]; rfl
    have c1 : wr.cell? ⟨w.heap.size, 1, none⟩ = some (.string ⟨#[]⟩) := by rw [Lib.cell_of_heap hx]; rfl
    have c2 : wr.cell? ⟨w.heap.size, 2, none⟩ = some (.string ⟨#[]⟩) := by rw [Lib.cell_of_heap hx]; rfl
    have f0 := Lib.frozen_of_heap hx 0
    have f1 := Lib.frozen_of_heap hx 1
    have f2 := Lib.frozen_of_heap hx 2
    have hs : w.heap.size < wr.heap.size := (Array.getElem?_eq_some_iff.1 hx).1
    have HX := Lib.hid hx
    have HB := Lib.hid hb
    have HN := Lib.hid hno
    clear hx hb hno
    by_cases hlt : q < 10
    · have hq10 : q = 0 ∨ q = 1 ∨ q = 2 ∨ q = 3 ∨ q = 4 ∨ q = 5 ∨ q = 6 ∨ q = 7 ∨ q = 8 ∨ q = 9 := by omega
      clear hq hlt
      rcases hq10 with rfl | rfl | rfl | rfl | rfl | rfl | rfl | rfl | rfl | rfl
      · have hix := idx_0 wr
        by_cases he : op = 1
        · subst he
          go_wp2_with fail
          refine bodyPost_ret (results_cell_row rfl _ _ w.heap.size 76 _ (0, 0) _ rfl ((Below.heap_alloc _ _ _ (by simpa using hs)).trans (set3 HX.out _ _ _)) Tryd.underlying76 rfl (by kernel_rfl)) rfl ?_
          exact ⟨rfl, (((HB.out.setCell (p := ⟨w.heap.size, 0, none⟩) (Nat.le_refl _) _).setCell (p := ⟨w.heap.size, 1, none⟩) (Nat.le_refl _) _).setCell (p := ⟨w.heap.size, 2, none⟩) (Nat.le_refl _) _).alloc (by simp; omega) _⟩
        · have he2 : (((0 : Int) + 1) == op) = false := by rw [beq_eq_false_iff_ne]; omega
          have he3 : (((1 : Int)) == op) = false := by rw [beq_eq_false_iff_ne]; omega
          go_wp2_with fail
          go_roundw
          case rel => exact ⟨1, by omega, by go_num, fun j hj => by (rcases Nat.lt_succ_iff_lt_or_eq.1 hj with h | h; exact HN.out j h; subst h; omega), HB.out.alloc (by omega) _, (Below.heap_alloc _ _ _ hs).trans HX.out⟩
          case measure => simp [intOf]
      · have hix := idx_1 wr
        by_cases he : op = 2
        · subst he
          go_wp2_with fail
          refine bodyPost_ret (results_cell_row rfl _ _ w.heap.size 76 _ (0, 0) _ rfl ((Below.heap_alloc _ _ _ (by simpa using hs)).trans (set3 HX.out _ _ _)) Tryd.underlying76 rfl (by kernel_rfl)) rfl ?_
          exact ⟨rfl, (((HB.out.setCell (p := ⟨w.heap.size, 0, none⟩) (Nat.le_refl _) _).setCell (p := ⟨w.heap.size, 1, none⟩) (Nat.le_refl _) _).setCell (p := ⟨w.heap.size, 2, none⟩) (Nat.le_refl _) _).alloc (by simp; omega) _⟩
        · have he2 : (((1 : Int) + 1) == op) = false := by rw [beq_eq_false_iff_ne]; omega
          have he3 : (((2 : Int)) == op) = false := by rw [beq_eq_false_iff_ne]; omega
          go_wp2_with fail
          go_roundw
          case rel => exact ⟨2, by omega, by go_num, fun j hj => by (rcases Nat.lt_succ_iff_lt_or_eq.1 hj with h | h; exact HN.out j h; subst h; omega), HB.out.alloc (by omega) _, (Below.heap_alloc _ _ _ hs).trans HX.out⟩
          case measure => simp [intOf]
      · have hix := idx_2 wr
        by_cases he : op = 3
        · subst he
          go_wp2_with fail
          refine bodyPost_ret (results_cell_row rfl _ _ w.heap.size 76 _ (0, 0) _ rfl ((Below.heap_alloc _ _ _ (by simpa using hs)).trans (set3 HX.out _ _ _)) Tryd.underlying76 rfl (by kernel_rfl)) rfl ?_
          exact ⟨rfl, (((HB.out.setCell (p := ⟨w.heap.size, 0, none⟩) (Nat.le_refl _) _).setCell (p := ⟨w.heap.size, 1, none⟩) (Nat.le_refl _) _).setCell (p := ⟨w.heap.size, 2, none⟩) (Nat.le_refl _) _).alloc (by simp; omega) _⟩
        · have he2 : (((2 : Int) + 1) == op) = false := by rw [beq_eq_false_iff_ne]; omega
          have he3 : (((3 : Int)) == op) = false := by rw [beq_eq_false_iff_ne]; omega
          go_wp2_with fail
          go_roundw
          case rel => exact ⟨3, by omega, by go_num, fun j hj => by (rcases Nat.lt_succ_iff_lt_or_eq.1 hj with h | h; exact HN.out j h; subst h; omega), HB.out.alloc (by omega) _, (Below.heap_alloc _ _ _ hs).trans HX.out⟩
          case measure => simp [intOf]
      · have hix := idx_3 wr
        by_cases he : op = 4
        · subst he
          go_wp2_with fail
          refine bodyPost_ret (results_cell_row rfl _ _ w.heap.size 76 _ (0, 0) _ rfl ((Below.heap_alloc _ _ _ (by simpa using hs)).trans (set3 HX.out _ _ _)) Tryd.underlying76 rfl (by kernel_rfl)) rfl ?_
          exact ⟨rfl, (((HB.out.setCell (p := ⟨w.heap.size, 0, none⟩) (Nat.le_refl _) _).setCell (p := ⟨w.heap.size, 1, none⟩) (Nat.le_refl _) _).setCell (p := ⟨w.heap.size, 2, none⟩) (Nat.le_refl _) _).alloc (by simp; omega) _⟩
        · have he2 : (((3 : Int) + 1) == op) = false := by rw [beq_eq_false_iff_ne]; omega
          have he3 : (((4 : Int)) == op) = false := by rw [beq_eq_false_iff_ne]; omega
          go_wp2_with fail
          go_roundw
          case rel => exact ⟨4, by omega, by go_num, fun j hj => by (rcases Nat.lt_succ_iff_lt_or_eq.1 hj with h | h; exact HN.out j h; subst h; omega), HB.out.alloc (by omega) _, (Below.heap_alloc _ _ _ hs).trans HX.out⟩
          case measure => simp [intOf]
      · have hix := idx_4 wr
        by_cases he : op = 5
        · subst he
          go_wp2_with fail
          refine bodyPost_ret (results_cell_row rfl _ _ w.heap.size 76 _ (0, 0) _ rfl ((Below.heap_alloc _ _ _ (by simpa using hs)).trans (set3 HX.out _ _ _)) Tryd.underlying76 rfl (by kernel_rfl)) rfl ?_
          exact ⟨rfl, (((HB.out.setCell (p := ⟨w.heap.size, 0, none⟩) (Nat.le_refl _) _).setCell (p := ⟨w.heap.size, 1, none⟩) (Nat.le_refl _) _).setCell (p := ⟨w.heap.size, 2, none⟩) (Nat.le_refl _) _).alloc (by simp; omega) _⟩
        · have he2 : (((4 : Int) + 1) == op) = false := by rw [beq_eq_false_iff_ne]; omega
          have he3 : (((5 : Int)) == op) = false := by rw [beq_eq_false_iff_ne]; omega
          go_wp2_with fail
          go_roundw
          case rel => exact ⟨5, by omega, by go_num, fun j hj => by (rcases Nat.lt_succ_iff_lt_or_eq.1 hj with h | h; exact HN.out j h; subst h; omega), HB.out.alloc (by omega) _, (Below.heap_alloc _ _ _ hs).trans HX.out⟩
          case measure => simp [intOf]
      · have hix := idx_5 wr
        by_cases he : op = 6
        · subst he
          go_wp2_with fail
          refine bodyPost_ret (results_cell_row rfl _ _ w.heap.size 76 _ (0, 0) _ rfl ((Below.heap_alloc _ _ _ (by simpa using hs)).trans (set3 HX.out _ _ _)) Tryd.underlying76 rfl (by kernel_rfl)) rfl ?_
          exact ⟨rfl, (((HB.out.setCell (p := ⟨w.heap.size, 0, none⟩) (Nat.le_refl _) _).setCell (p := ⟨w.heap.size, 1, none⟩) (Nat.le_refl _) _).setCell (p := ⟨w.heap.size, 2, none⟩) (Nat.le_refl _) _).alloc (by simp; omega) _⟩
        · have he2 : (((5 : Int) + 1) == op) = false := by rw [beq_eq_false_iff_ne]; omega
          have he3 : (((6 : Int)) == op) = false := by rw [beq_eq_false_iff_ne]; omega
          go_wp2_with fail
          go_roundw
          case rel => exact ⟨6, by omega, by go_num, fun j hj => by (rcases Nat.lt_succ_iff_lt_or_eq.1 hj with h | h; exact HN.out j h; subst h; omega), HB.out.alloc (by omega) _, (Below.heap_alloc _ _ _ hs).trans HX.out⟩
          case measure => simp [intOf]
      · have hix := idx_6 wr
        by_cases he : op = 7
        · subst he
          go_wp2_with fail
          refine bodyPost_ret (results_cell_row rfl _ _ w.heap.size 76 _ (0, 0) _ rfl ((Below.heap_alloc _ _ _ (by simpa using hs)).trans (set3 HX.out _ _ _)) Tryd.underlying76 rfl (by kernel_rfl)) rfl ?_
          exact ⟨rfl, (((HB.out.setCell (p := ⟨w.heap.size, 0, none⟩) (Nat.le_refl _) _).setCell (p := ⟨w.heap.size, 1, none⟩) (Nat.le_refl _) _).setCell (p := ⟨w.heap.size, 2, none⟩) (Nat.le_refl _) _).alloc (by simp; omega) _⟩
        · have he2 : (((6 : Int) + 1) == op) = false := by rw [beq_eq_false_iff_ne]; omega
          have he3 : (((7 : Int)) == op) = false := by rw [beq_eq_false_iff_ne]; omega
          go_wp2_with fail
          go_roundw
          case rel => exact ⟨7, by omega, by go_num, fun j hj => by (rcases Nat.lt_succ_iff_lt_or_eq.1 hj with h | h; exact HN.out j h; subst h; omega), HB.out.alloc (by omega) _, (Below.heap_alloc _ _ _ hs).trans HX.out⟩
          case measure => simp [intOf]
      · have hix := idx_7 wr
        by_cases he : op = 8
        · subst he
          go_wp2_with fail
          refine bodyPost_ret (results_cell_row rfl _ _ w.heap.size 76 _ (0, 0) _ rfl ((Below.heap_alloc _ _ _ (by simpa using hs)).trans (set3 HX.out _ _ _)) Tryd.underlying76 rfl (by kernel_rfl)) rfl ?_
          exact ⟨rfl, (((HB.out.setCell (p := ⟨w.heap.size, 0, none⟩) (Nat.le_refl _) _).setCell (p := ⟨w.heap.size, 1, none⟩) (Nat.le_refl _) _).setCell (p := ⟨w.heap.size, 2, none⟩) (Nat.le_refl _) _).alloc (by simp; omega) _⟩
        · have he2 : (((7 : Int) + 1) == op) = false := by rw [beq_eq_false_iff_ne]; omega
          have he3 : (((8 : Int)) == op) = false := by rw [beq_eq_false_iff_ne]; omega
          go_wp2_with fail
          go_roundw
          case rel => exact ⟨8, by omega, by go_num, fun j hj => by (rcases Nat.lt_succ_iff_lt_or_eq.1 hj with h | h; exact HN.out j h; subst h; omega), HB.out.alloc (by omega) _, (Below.heap_alloc _ _ _ hs).trans HX.out⟩
          case measure => simp [intOf]
      · have hix := idx_8 wr
        by_cases he : op = 9
        · subst he
          go_wp2_with fail
          refine bodyPost_ret (results_cell_row rfl _ _ w.heap.size 76 _ (0, 0) _ rfl ((Below.heap_alloc _ _ _ (by simpa using hs)).trans (set3 HX.out _ _ _)) Tryd.underlying76 rfl (by kernel_rfl)) rfl ?_
          exact ⟨rfl, (((HB.out.setCell (p := ⟨w.heap.size, 0, none⟩) (Nat.le_refl _) _).setCell (p := ⟨w.heap.size, 1, none⟩) (Nat.le_refl _) _).setCell (p := ⟨w.heap.size, 2, none⟩) (Nat.le_refl _) _).alloc (by simp; omega) _⟩
        · have he2 : (((8 : Int) + 1) == op) = false := by rw [beq_eq_false_iff_ne]; omega
          have he3 : (((9 : Int)) == op) = false := by rw [beq_eq_false_iff_ne]; omega
          go_wp2_with fail
          go_roundw
          case rel => exact ⟨9, by omega, by go_num, fun j hj => by (rcases Nat.lt_succ_iff_lt_or_eq.1 hj with h | h; exact HN.out j h; subst h; omega), HB.out.alloc (by omega) _, (Below.heap_alloc _ _ _ hs).trans HX.out⟩
          case measure => simp [intOf]
      · have hix := idx_9 wr
        by_cases he : op = 10
        · subst he
          go_wp2_with fail
          refine bodyPost_ret (results_cell_row rfl _ _ w.heap.size 76 _ (0, 0) _ rfl ((Below.heap_alloc _ _ _ (by simpa using hs)).trans (set3 HX.out _ _ _)) Tryd.underlying76 rfl (by kernel_rfl)) rfl ?_
          exact ⟨rfl, (((HB.out.setCell (p := ⟨w.heap.size, 0, none⟩) (Nat.le_refl _) _).setCell (p := ⟨w.heap.size, 1, none⟩) (Nat.le_refl _) _).setCell (p := ⟨w.heap.size, 2, none⟩) (Nat.le_refl _) _).alloc (by simp; omega) _⟩
        · have he2 : (((9 : Int) + 1) == op) = false := by rw [beq_eq_false_iff_ne]; omega
          have he3 : (((10 : Int)) == op) = false := by rw [beq_eq_false_iff_ne]; omega
          go_wp2_with fail
          go_roundw
          case rel => exact ⟨10, by omega, by go_num, fun j hj => by (rcases Nat.lt_succ_iff_lt_or_eq.1 hj with h | h; exact HN.out j h; subst h; omega), HB.out.alloc (by omega) _, (Below.heap_alloc _ _ _ hs).trans HX.out⟩
          case measure => simp [intOf]
    · obtain rfl : q = 10 := by omega
      have hn : ¬ (1 ≤ op ∧ op ≤ 10) := fun h => by
        have := HN.out (op - 1).toNat (by omega)
        omega
      obtain ⟨e1, e2, e3, e4⟩ := letters_none op hn
      have hr : rowA op = #[.int .i64 0, .string ⟨#[]⟩, .string ⟨#[]⟩] := by unfold rowA; rw [e1, e3, e4]
      go_wp2_with fail
      refine bodyPost_ret (results_cell_row rfl _ _ w.heap.size 76 _ (0, 0) _ rfl (set3 HX.out _ _ _) Tryd.underlying76 rfl (by kernel_rfl)) rfl ?_
      exact ⟨by rw [hr], ((HB.out.setCell (p := ⟨w.heap.size, 0, none⟩) (Nat.le_refl _) _).setCell (p := ⟨w.heap.size, 1, none⟩) (Nat.le_refl _) _).setCell (p := ⟨w.heap.size, 2, none⟩) (Nat.le_refl _) _⟩
end Go.Proofs.YtjkmdacgiebbfaaDoor
