/- said by its contract. -/
import Derived.Test.YtgpeefedboomoabDoorP8
import Derived.Test.YtgpeefedboomoabDoorP2t
namespace Go.Proofs.YtgpeefedboomoabDoor
open Go.RowKit
set_option maxRecDepth 100000

attribute [local go_sem ↓ 100000] sh_store
attribute [local go_sem] ShStore.new

/-- The number at the place i of a list of numbers, four bytes each. -/
def numAt (l : List Int) (i : Nat) : Int := val ((l.drop (4 * i)).take 4)
/-- The shape that thirty-two bytes say. -/
def shpOf (l : List Int) : Shp := ⟨numAt l 0, numAt l 1, numAt l 2, numAt l 3, numAt l 4, numAt l 5, numAt l 6, numAt l 7⟩
/-- The cells behind k rounds. -/
def saidC (l : List Int) (k : Nat) : List Value := (List.range 8).map fun i => .int .i64 (if i < k then numAt l i else 0)
theorem saidC_length (l : List Int) (k : Nat) : (saidC l k).length = 8 := rfl
theorem saidC_zero (l : List Int) : saidC l 0 = [.int .i64 0, .int .i64 0, .int .i64 0, .int .i64 0, .int .i64 0, .int .i64 0, .int .i64 0, .int .i64 0] := rfl
theorem saidC_all (l : List Int) : saidC l 8 = [.int .i64 (numAt l 0), .int .i64 (numAt l 1), .int .i64 (numAt l 2), .int .i64 (numAt l 3), .int .i64 (numAt l 4), .int .i64 (numAt l 5), .int .i64 (numAt l 6), .int .i64 (numAt l 7)] := rfl
theorem saidC_succ (l : List Int) (k : Nat) (hk : k < 8) : (saidC l k).toArray.setIfInBounds k (.int .i64 (numAt l k)) = (saidC l (k + 1)).toArray := by
  obtain rfl | rfl | rfl | rfl | rfl | rfl | rfl | rfl : k = 0 ∨ k = 1 ∨ k = 2 ∨ k = 3 ∨ k = 4 ∨ k = 5 ∨ k = 6 ∨ k = 7 := by omega
  all_goals rfl
theorem numAt_bd (l : List Int) (i : Nat) (hby : ∀ x ∈ l, 0 ≤ x ∧ x ≤ 255) : 0 ≤ numAt l i ∧ numAt l i ≤ 4294967295 := by
  have h := val4_lt l (4 * i) hby
  exact ⟨h.1, by have := h.2; unfold numAt; omega⟩

set_option maxHeartbeats 2000000 in
theorem said_any (b o c : Nat) (bs : List Int) (w : World) (hL : Lies w (some ⟨b, o, none⟩) 512 c bs) (hby : ∀ x ∈ bs, 0 ≤ x ∧ x ≤ 255) :
    Calls Tryd.prog 36 #[.slice (some ⟨b, o, none⟩) 512 c] w fun e w' => e = .returned (shV (shpOf ((bs.drop 4).take 32))) ∧ Below w.heap.size w w' := by
  have hc := hL.hle
  have k36 : (36 : Int) ≤ c := by omega
  have k4 : (4 : Int) ≤ c := by omega
  have kne : ¬ c = 4 := by omega
  have hb0 := newBox w (.cells #[.int .i64 0, .int .i64 0, .int .i64 0, .int .i64 0, .int .i64 0, .int .i64 0, .int .i64 0, .int .i64 0] 33)
  have hZ0 : (w.alloc (.cells #[.int .i64 0, .int .i64 0, .int .i64 0, .int .i64 0, .int .i64 0, .int .i64 0, .int .i64 0, .int .i64 0] 33)).heap[w.heap.size]? = some (.cells #[.int .i64 0, .int .i64 0, .int .i64 0, .int .i64 0, .int .i64 0, .int .i64 0, .int .i64 0, .int .i64 0] 33 (0, 0)) := heap_alloc_last w _
  have hR0 : Lies (w.alloc (.cells #[.int .i64 0, .int .i64 0, .int .i64 0, .int .i64 0, .int .i64 0, .int .i64 0, .int .i64 0, .int .i64 0] 33)) (some ⟨b, o + 4, none⟩) 32 (c - 4) ((bs.drop 4).take 32) := (hL.piece 4 32 (c - 4) (by omega) (by omega)).below hb0 (Nat.le_refl _)
  have hb2 : ∀ x ∈ (bs.drop 4).take 32, 0 ≤ x ∧ x ≤ 255 := fun x hx => hby x (List.mem_of_mem_drop (List.mem_of_mem_take hx))
  clear hby hL
  generalize (bs.drop 4).take 32 = l at *
  go_enter Tryd.func36, Tryd.ntmps36
  go_wp2_with fail
  generalize (w.alloc (.cells #[.int .i64 0, .int .i64 0, .int .i64 0, .int .i64 0, .int .i64 0, .int .i64 0, .int .i64 0, .int .i64 0] 33)) = w0 at *
  refine (newReader_any _ 32 (c - 4) l _ (by omega) hR0).mono ?_
  rintro e w1 ⟨rb, g, rfl, hR1, hrb, hg1, hb1⟩
  have hZ1 := (hb1.block _ (lt_of_block hZ0)).trans hZ0
  have hq1 := hb0.trans (hb1.mono hb0.size)
  have hrw : w.heap.size < rb := Nat.lt_of_lt_of_le (lt_of_block hZ0) hrb
  clear hR0 hZ0 hb1 hg1 hb0
  have hn := newBox w1 (.cells #[.int .i64 0, .int .i64 0, .int .i64 0, .int .i64 0, .int .i64 0, .int .i64 0, .int .i64 0, .int .i64 0] 76)
  have hN2 : (w1.alloc (.cells #[.int .i64 0, .int .i64 0, .int .i64 0, .int .i64 0, .int .i64 0, .int .i64 0, .int .i64 0, .int .i64 0] 76)).heap[w1.heap.size]? = some (.cells (saidC l 0).toArray 76 (0, 0)) := heap_alloc_last w1 _
  have hR2 := hR1.alloc (.cells #[.int .i64 0, .int .i64 0, .int .i64 0, .int .i64 0, .int .i64 0, .int .i64 0, .int .i64 0, .int .i64 0] 76)
  have hZ2 := (hn.block _ (lt_of_block hZ1)).trans hZ1
  have hq2 := hq1.trans (hn.mono hq1.size)
  have hrn : rb < w1.heap.size := hR1.lt
  have hgn : g < w1.heap.size := hR1.glt
  have hwn : w.heap.size < w1.heap.size := lt_of_block hZ1
  clear hR1 hZ1 hq1 hn
  go_wp2_with fail
  go_loopw [9] (fun v wr => ∃ k : Nat, k ≤ 8 ∧ v = .int .i64 k ∧ Rdr wr rb g 32 32 ((4 * k : Nat) : Int) 0 l ∧ wr.heap[w1.heap.size]? = some (.cells (saidC l k).toArray 76 (0, 0)) ∧ wr.heap[w.heap.size]? = some (.cells #[.int .i64 0, .int .i64 0, .int .i64 0, .int .i64 0, .int .i64 0, .int .i64 0, .int .i64 0, .int .i64 0] 33 (0, 0)) ∧ Below w.heap.size w wr) (fun v _ => 8 - (intOf v).toNat)
  case atStart => exact ⟨0, by omega, rfl, hR2, hN2, hZ2, hq2⟩
  case round =>
    clear hR2 hN2 hZ2 hq2
    obtain ⟨k, hk, rfl, hR, hN, hZ, hq⟩ := hrel
    by_cases hlt : k < 8
    · have hlti : (k : Int) < 8 := by omega
      go_wp2_with fail
      refine (u32_ok rb g 32 32 (4 * k) 4294967295 l _ hR (by omega) (by omega) hb2 (by omega) (by omega) (numAt_bd l k hb2).2).mono ?_
      rintro e w2 ⟨rfl, hR3, hg3⟩
      have hN3 := (hg3.block _ (lt_of_block hN) (by simp; omega)).trans hN
      have hZ3 := (hg3.block _ (lt_of_block hZ) (by simp; omega)).trans hZ
      have hq3 := hq.grown hg3 hq.size (fun j hj => by cases hj; omega)
      have hc3 : ∃ u, w2.cell? ⟨w1.heap.size, k, none⟩ = some u := by
        simp only [World.cell?, hN3]
        exact ⟨(saidC l k)[k]'(by rw [saidC_length]; omega), by simp [saidC_length, hlt]⟩
      have hf3 : w2.frozen? ⟨w1.heap.size, k, none⟩ = false := by simp [World.frozen?, hN3]
      obtain ⟨u, hc3⟩ := hc3
      have hR4 : Rdr (w2.setCell ⟨w1.heap.size, k, none⟩ (.int .i64 (val ((l.drop (4 * k)).take 4)))) rb g 32 32 ((4 * (k + 1) : Nat) : Int) 0 l := hR3.kept (grown_setCell w2 w1.heap.size k _) (by simp; omega) (by simp; omega)
      have hN4 : (w2.setCell ⟨w1.heap.size, k, none⟩ (.int .i64 (val ((l.drop (4 * k)).take 4)))).heap[w1.heap.size]? = some (.cells (saidC l (k + 1)).toArray 76 (0, 0)) := by
        rw [heap_setCell_same w2 w1.heap.size k _ _ _ hN3, ← saidC_succ l k hlt]
        rfl
      have hZ4 : (w2.setCell ⟨w1.heap.size, k, none⟩ (.int .i64 (val ((l.drop (4 * k)).take 4)))).heap[w.heap.size]? = some (.cells #[.int .i64 0, .int .i64 0, .int .i64 0, .int .i64 0, .int .i64 0, .int .i64 0, .int .i64 0, .int .i64 0] 33 (0, 0)) := ((grown_setCell w2 w1.heap.size k _).block _ (lt_of_block hZ3) (by simp; omega)).trans hZ3
      have hq4 : Below w.heap.size w (w2.setCell ⟨w1.heap.size, k, none⟩ (.int .i64 (val ((l.drop (4 * k)).take 4)))) := hq3.setCell (p := ⟨w1.heap.size, k, none⟩) (Nat.le_of_lt hwn) _
      clear hR hN hZ hq hR3 hg3 hN3 hZ3 hq3
      go_wp2_with fail
      go_roundw
      case rel => exact ⟨k + 1, by omega, by go_num, hR4, hN4, hZ4, hq4⟩
      case measure => simp [intOf]; omega
    · obtain rfl : k = 8 := by omega
      rw [saidC_all] at hN
      have hn : ∀ i u, #[Value.int .i64 (numAt l 0), Value.int .i64 (numAt l 1), Value.int .i64 (numAt l 2), Value.int .i64 (numAt l 3), Value.int .i64 (numAt l 4), Value.int .i64 (numAt l 5), Value.int .i64 (numAt l 6), Value.int .i64 (numAt l 7)][i]? = some u → wr.cell? ⟨w1.heap.size, i, none⟩ = some u := fun i u h => by
        simp only [World.cell?, hN]
        exact h
      have n0 : wr.cell? ⟨w1.heap.size, 0, none⟩ = some (.int .i64 (numAt l 0)) := hn 0 _ rfl
      have n1 : wr.cell? ⟨w1.heap.size, 1, none⟩ = some (.int .i64 (numAt l 1)) := hn 1 _ rfl
      have n2 : wr.cell? ⟨w1.heap.size, 2, none⟩ = some (.int .i64 (numAt l 2)) := hn 2 _ rfl
      have n3 : wr.cell? ⟨w1.heap.size, 3, none⟩ = some (.int .i64 (numAt l 3)) := hn 3 _ rfl
      have n4 : wr.cell? ⟨w1.heap.size, 4, none⟩ = some (.int .i64 (numAt l 4)) := hn 4 _ rfl
      have n5 : wr.cell? ⟨w1.heap.size, 5, none⟩ = some (.int .i64 (numAt l 5)) := hn 5 _ rfl
      have n6 : wr.cell? ⟨w1.heap.size, 6, none⟩ = some (.int .i64 (numAt l 6)) := hn 6 _ rfl
      have n7 : wr.cell? ⟨w1.heap.size, 7, none⟩ = some (.int .i64 (numAt l 7)) := hn 7 _ rfl
      clear hn hN hR
      go_wp2_with fail
      refine (shapeOf_any (shpOf l) _).mono ?_
      rintro e w3 ⟨rfl, hb3⟩
      have hZ5 := (hb3.block _ (lt_of_block hZ)).trans hZ
      have hst := ShStore.row hZ5 rfl
      have hq5 := hq.trans (hb3.mono hq.size)
      clear n0 n1 n2 n3 n4 n5 n6 n7 hZ hq hb3
      go_wp2_with fail
      refine bodyPost_ret (results_cell_row rfl _ _ w.heap.size 33 _ (0, 0) _ rfl (setRow_heap _ _ _ _ _ _ hZ5) Tryd.underlying33 rfl sh_size) rfl ?_
      exact ⟨rfl, below_setRow hq5 (Nat.le_refl _) _⟩
end Go.Proofs.YtgpeefedboomoabDoor
