/- The document's own Plan by its contract. -/
import Derived.Test.YtfmcbjlagdanjaaGreatDoorPk22
namespace Go.Proofs.YtfmcbjlagdanjaaGreatDoor
open Go.RowKit
set_option maxRecDepth 100000

attribute [local go_sem ↓ 100000] ly_store ly_load
attribute [local go_sem] LyStore.new LyLoad.new LyStore.at LyLoad.at
theorem planE_no {s : Shp} (h : ¬ InB s) : planE s = 2 := by unfold planE; rw [if_pos h]
theorem lens_cells {w : World} {gl : Nat} {s : Shp} (h : w.heap[gl]? = some (.cells #[.int .i64 1, .int .i64 1, .int .i64 s.jo, .int .i64 (1 + 3 * s.ca), .int .i64 1, .int .i64 ((s.ino + 3) / 4), .int .i64 s.da] 3 (0, 0))) : w.cell? ⟨gl, 2, none⟩ = some (.int .i64 s.jo) ∧ w.cell? ⟨gl, 3, none⟩ = some (.int .i64 (1 + 3 * s.ca)) ∧ w.cell? ⟨gl, 4, none⟩ = some (.int .i64 1) ∧ w.cell? ⟨gl, 5, none⟩ = some (.int .i64 ((s.ino + 3) / 4)) ∧ w.cell? ⟨gl, 6, none⟩ = some (.int .i64 s.da) := by
  simp only [World.cell?, h]
  exact ⟨rfl, rfl, rfl, rfl, rfl⟩
theorem ShBox.setRow {w : World} {b g : Nat} {s : Shp} (h : ShBox w b s) (hne : b ≠ g) (cs : Array Value) : ShBox (w.setRow g cs) b s :=
  ⟨(cell_setRow_other w g cs ⟨b, 0, none⟩ hne).trans h.c0, (cell_setRow_other w g cs ⟨b, 1, none⟩ hne).trans h.c1, (cell_setRow_other w g cs ⟨b, 2, none⟩ hne).trans h.c2, (cell_setRow_other w g cs ⟨b, 3, none⟩ hne).trans h.c3, (cell_setRow_other w g cs ⟨b, 4, none⟩ hne).trans h.c4, (cell_setRow_other w g cs ⟨b, 5, none⟩ hne).trans h.c5, (cell_setRow_other w g cs ⟨b, 6, none⟩ hne).trans h.c6, (cell_setRow_other w g cs ⟨b, 7, none⟩ hne).trans h.c7⟩
theorem setRow_keep {w : World} {b g : Nat} {ob : Obj} (h : w.heap[b]? = some ob) (hne : b ≠ g) (cs : Array Value) : (w.setRow g cs).heap[b]? = some ob := (setRow_other w g b cs hne).trans h

set_option maxHeartbeats 8000000 in
theorem rplan_any (s : Shp) (w : World) : Calls Tryz.prog 22 #[shV s] w fun e w' => e = .returned (.tuple #[lyV (planL s), .int .i64 (planE s)]) ∧ Below w.heap.size w w' := by
  have hq := Below.refl w.heap.size w
  go_enter Tryz.func22, Tryz.ntmps22
  have hS0 : ShBox (w.alloc (.cells #[.int .i64 s.cl, .int .i64 s.wi, .int .i64 s.pl, .int .i64 s.ca, .int .i64 s.ino, .int .i64 s.qu, .int .i64 s.da, .int .i64 s.jo] 27)) w.heap.size s := ShBox.new w s
  have hR0 : ((w.alloc (.cells #[.int .i64 s.cl, .int .i64 s.wi, .int .i64 s.pl, .int .i64 s.ca, .int .i64 s.ino, .int .i64 s.qu, .int .i64 s.da, .int .i64 s.jo] 27)).alloc (.cells #[.int .i64 0, .int .i64 0, .int .i64 0, .int .i64 0, .int .i64 0, .int .i64 0, .int .i64 0, .int .i64 0, .int .i64 0, .int .i64 0, .int .i64 0, .int .i64 0, .int .i64 0, .int .i64 0, .int .i64 0, .int .i64 0, .int .i64 0, .int .i64 0, .int .i64 0, .int .i64 0] 29)).heap[w.heap.size + 1]? = some (.cells #[.int .i64 0, .int .i64 0, .int .i64 0, .int .i64 0, .int .i64 0, .int .i64 0, .int .i64 0, .int .i64 0, .int .i64 0, .int .i64 0, .int .i64 0, .int .i64 0, .int .i64 0, .int .i64 0, .int .i64 0, .int .i64 0, .int .i64 0, .int .i64 0, .int .i64 0, .int .i64 0] 29 (0, 0)) := heap_new2 w _ _
  have hA0 : (((w.alloc (.cells #[.int .i64 s.cl, .int .i64 s.wi, .int .i64 s.pl, .int .i64 s.ca, .int .i64 s.ino, .int .i64 s.qu, .int .i64 s.da, .int .i64 s.jo] 27)).alloc (.cells #[.int .i64 0, .int .i64 0, .int .i64 0, .int .i64 0, .int .i64 0, .int .i64 0, .int .i64 0, .int .i64 0, .int .i64 0, .int .i64 0, .int .i64 0, .int .i64 0, .int .i64 0, .int .i64 0, .int .i64 0, .int .i64 0, .int .i64 0, .int .i64 0, .int .i64 0, .int .i64 0] 29)).alloc (.cells #[.int .i64 1, .int .i64 1, .int .i64 1, .int .i64 1, .int .i64 2, .int .i64 0, .int .i64 1, .int .i64 27] 3)).heap[w.heap.size + 1 + 1]? = some (.cells #[.int .i64 1, .int .i64 1, .int .i64 1, .int .i64 1, .int .i64 2, .int .i64 0, .int .i64 1, .int .i64 27] 3 (0, 0)) := by
    have h := heap_new2 (w.alloc (.cells #[.int .i64 s.cl, .int .i64 s.wi, .int .i64 s.pl, .int .i64 s.ca, .int .i64 s.ino, .int .i64 s.qu, .int .i64 s.da, .int .i64 s.jo] 27)) (.cells #[.int .i64 0, .int .i64 0, .int .i64 0, .int .i64 0, .int .i64 0, .int .i64 0, .int .i64 0, .int .i64 0, .int .i64 0, .int .i64 0, .int .i64 0, .int .i64 0, .int .i64 0, .int .i64 0, .int .i64 0, .int .i64 0, .int .i64 0, .int .i64 0, .int .i64 0, .int .i64 0] 29) (.cells #[.int .i64 1, .int .i64 1, .int .i64 1, .int .i64 1, .int .i64 2, .int .i64 0, .int .i64 1, .int .i64 27] 3)
    rwa [show (w.alloc (.cells #[.int .i64 s.cl, .int .i64 s.wi, .int .i64 s.pl, .int .i64 s.ca, .int .i64 s.ino, .int .i64 s.qu, .int .i64 s.da, .int .i64 s.jo] 27)).heap.size + 1 = w.heap.size + 1 + 1 by simp] at h
  have hC0 : ((((w.alloc (.cells #[.int .i64 s.cl, .int .i64 s.wi, .int .i64 s.pl, .int .i64 s.ca, .int .i64 s.ino, .int .i64 s.qu, .int .i64 s.da, .int .i64 s.jo] 27)).alloc (.cells #[.int .i64 0, .int .i64 0, .int .i64 0, .int .i64 0, .int .i64 0, .int .i64 0, .int .i64 0, .int .i64 0, .int .i64 0, .int .i64 0, .int .i64 0, .int .i64 0, .int .i64 0, .int .i64 0, .int .i64 0, .int .i64 0, .int .i64 0, .int .i64 0, .int .i64 0, .int .i64 0] 29)).alloc (.cells #[.int .i64 1, .int .i64 1, .int .i64 1, .int .i64 1, .int .i64 2, .int .i64 0, .int .i64 1, .int .i64 27] 3)).alloc (.cells #[.int .i64 8, .int .i64 8, .int .i64 8, .int .i64 64, .int .i64 256, .int .i64 524288, .int .i64 4096, .int .i64 512] 3)).heap[w.heap.size + 1 + 1 + 1]? = some (.cells #[.int .i64 8, .int .i64 8, .int .i64 8, .int .i64 64, .int .i64 256, .int .i64 524288, .int .i64 4096, .int .i64 512] 3 (0, 0)) := by
    have h := heap_new2 ((w.alloc (.cells #[.int .i64 s.cl, .int .i64 s.wi, .int .i64 s.pl, .int .i64 s.ca, .int .i64 s.ino, .int .i64 s.qu, .int .i64 s.da, .int .i64 s.jo] 27)).alloc (.cells #[.int .i64 0, .int .i64 0, .int .i64 0, .int .i64 0, .int .i64 0, .int .i64 0, .int .i64 0, .int .i64 0, .int .i64 0, .int .i64 0, .int .i64 0, .int .i64 0, .int .i64 0, .int .i64 0, .int .i64 0, .int .i64 0, .int .i64 0, .int .i64 0, .int .i64 0, .int .i64 0] 29)) (.cells #[.int .i64 1, .int .i64 1, .int .i64 1, .int .i64 1, .int .i64 2, .int .i64 0, .int .i64 1, .int .i64 27] 3) (.cells #[.int .i64 8, .int .i64 8, .int .i64 8, .int .i64 64, .int .i64 256, .int .i64 524288, .int .i64 4096, .int .i64 512] 3)
    rwa [show ((w.alloc (.cells #[.int .i64 s.cl, .int .i64 s.wi, .int .i64 s.pl, .int .i64 s.ca, .int .i64 s.ino, .int .i64 s.qu, .int .i64 s.da, .int .i64 s.jo] 27)).alloc (.cells #[.int .i64 0, .int .i64 0, .int .i64 0, .int .i64 0, .int .i64 0, .int .i64 0, .int .i64 0, .int .i64 0, .int .i64 0, .int .i64 0, .int .i64 0, .int .i64 0, .int .i64 0, .int .i64 0, .int .i64 0, .int .i64 0, .int .i64 0, .int .i64 0, .int .i64 0, .int .i64 0] 29)).heap.size + 1 = w.heap.size + 1 + 1 + 1 by simp] at h
  have n1 := newBox (w.alloc (.cells #[.int .i64 s.cl, .int .i64 s.wi, .int .i64 s.pl, .int .i64 s.ca, .int .i64 s.ino, .int .i64 s.qu, .int .i64 s.da, .int .i64 s.jo] 27)) (.cells #[.int .i64 0, .int .i64 0, .int .i64 0, .int .i64 0, .int .i64 0, .int .i64 0, .int .i64 0, .int .i64 0, .int .i64 0, .int .i64 0, .int .i64 0, .int .i64 0, .int .i64 0, .int .i64 0, .int .i64 0, .int .i64 0, .int .i64 0, .int .i64 0, .int .i64 0, .int .i64 0] 29)
  have n2 := newBox ((w.alloc (.cells #[.int .i64 s.cl, .int .i64 s.wi, .int .i64 s.pl, .int .i64 s.ca, .int .i64 s.ino, .int .i64 s.qu, .int .i64 s.da, .int .i64 s.jo] 27)).alloc (.cells #[.int .i64 0, .int .i64 0, .int .i64 0, .int .i64 0, .int .i64 0, .int .i64 0, .int .i64 0, .int .i64 0, .int .i64 0, .int .i64 0, .int .i64 0, .int .i64 0, .int .i64 0, .int .i64 0, .int .i64 0, .int .i64 0, .int .i64 0, .int .i64 0, .int .i64 0, .int .i64 0] 29)) (.cells #[.int .i64 1, .int .i64 1, .int .i64 1, .int .i64 1, .int .i64 2, .int .i64 0, .int .i64 1, .int .i64 27] 3)
  have n3 := newBox (((w.alloc (.cells #[.int .i64 s.cl, .int .i64 s.wi, .int .i64 s.pl, .int .i64 s.ca, .int .i64 s.ino, .int .i64 s.qu, .int .i64 s.da, .int .i64 s.jo] 27)).alloc (.cells #[.int .i64 0, .int .i64 0, .int .i64 0, .int .i64 0, .int .i64 0, .int .i64 0, .int .i64 0, .int .i64 0, .int .i64 0, .int .i64 0, .int .i64 0, .int .i64 0, .int .i64 0, .int .i64 0, .int .i64 0, .int .i64 0, .int .i64 0, .int .i64 0, .int .i64 0, .int .i64 0] 29)).alloc (.cells #[.int .i64 1, .int .i64 1, .int .i64 1, .int .i64 1, .int .i64 2, .int .i64 0, .int .i64 1, .int .i64 27] 3)) (.cells #[.int .i64 8, .int .i64 8, .int .i64 8, .int .i64 64, .int .i64 256, .int .i64 524288, .int .i64 4096, .int .i64 512] 3)
  have hS := ((hS0.later n1 (by simp)).later n2 (by simp <;> omega)).later n3 (by simp <;> omega)
  have hR := (n3.block _ (by simp <;> omega)).trans ((n2.block _ (by simp)).trans hR0)
  have hA := (n3.block _ (by simp)).trans hA0
  have hq4 : Below w.heap.size w ((((w.alloc (.cells #[.int .i64 s.cl, .int .i64 s.wi, .int .i64 s.pl, .int .i64 s.ca, .int .i64 s.ino, .int .i64 s.qu, .int .i64 s.da, .int .i64 s.jo] 27)).alloc (.cells #[.int .i64 0, .int .i64 0, .int .i64 0, .int .i64 0, .int .i64 0, .int .i64 0, .int .i64 0, .int .i64 0, .int .i64 0, .int .i64 0, .int .i64 0, .int .i64 0, .int .i64 0, .int .i64 0, .int .i64 0, .int .i64 0, .int .i64 0, .int .i64 0, .int .i64 0, .int .i64 0] 29)).alloc (.cells #[.int .i64 1, .int .i64 1, .int .i64 1, .int .i64 1, .int .i64 2, .int .i64 0, .int .i64 1, .int .i64 27] 3)).alloc (.cells #[.int .i64 8, .int .i64 8, .int .i64 8, .int .i64 64, .int .i64 256, .int .i64 524288, .int .i64 4096, .int .i64 512] 3)) := (box2 w _ _).trans ((box2 ((w.alloc (.cells #[.int .i64 s.cl, .int .i64 s.wi, .int .i64 s.pl, .int .i64 s.ca, .int .i64 s.ino, .int .i64 s.qu, .int .i64 s.da, .int .i64 s.jo] 27)).alloc (.cells #[.int .i64 0, .int .i64 0, .int .i64 0, .int .i64 0, .int .i64 0, .int .i64 0, .int .i64 0, .int .i64 0, .int .i64 0, .int .i64 0, .int .i64 0, .int .i64 0, .int .i64 0, .int .i64 0, .int .i64 0, .int .i64 0, .int .i64 0, .int .i64 0, .int .i64 0, .int .i64 0] 29)) _ _).mono (by simp <;> omega))
  have hz4 : w.heap.size + 1 + 1 + 1 < ((((w.alloc (.cells #[.int .i64 s.cl, .int .i64 s.wi, .int .i64 s.pl, .int .i64 s.ca, .int .i64 s.ino, .int .i64 s.qu, .int .i64 s.da, .int .i64 s.jo] 27)).alloc (.cells #[.int .i64 0, .int .i64 0, .int .i64 0, .int .i64 0, .int .i64 0, .int .i64 0, .int .i64 0, .int .i64 0, .int .i64 0, .int .i64 0, .int .i64 0, .int .i64 0, .int .i64 0, .int .i64 0, .int .i64 0, .int .i64 0, .int .i64 0, .int .i64 0, .int .i64 0, .int .i64 0] 29)).alloc (.cells #[.int .i64 1, .int .i64 1, .int .i64 1, .int .i64 1, .int .i64 2, .int .i64 0, .int .i64 1, .int .i64 27] 3)).alloc (.cells #[.int .i64 8, .int .i64 8, .int .i64 8, .int .i64 64, .int .i64 256, .int .i64 524288, .int .i64 4096, .int .i64 512] 3)).heap.size := by simp
  clear hS0 hR0 hA0 n1 n2 n3 hq
  have hlS : w.heap.size < ((((w.alloc (.cells #[.int .i64 s.cl, .int .i64 s.wi, .int .i64 s.pl, .int .i64 s.ca, .int .i64 s.ino, .int .i64 s.qu, .int .i64 s.da, .int .i64 s.jo] 27)).alloc (.cells #[.int .i64 0, .int .i64 0, .int .i64 0, .int .i64 0, .int .i64 0, .int .i64 0, .int .i64 0, .int .i64 0, .int .i64 0, .int .i64 0, .int .i64 0, .int .i64 0, .int .i64 0, .int .i64 0, .int .i64 0, .int .i64 0, .int .i64 0, .int .i64 0, .int .i64 0, .int .i64 0] 29)).alloc (.cells #[.int .i64 1, .int .i64 1, .int .i64 1, .int .i64 1, .int .i64 2, .int .i64 0, .int .i64 1, .int .i64 27] 3)).alloc (.cells #[.int .i64 8, .int .i64 8, .int .i64 8, .int .i64 64, .int .i64 256, .int .i64 524288, .int .i64 4096, .int .i64 512] 3)).heap.size := by omega
  obtain ⟨a0, a1, a2, a3, a4, a5, a6, a7⟩ := hS
  go_wp2_with fail
  have hS := ShBox.mk a0 a1 a2 a3 a4 a5 a6 a7
  clear a0 a1 a2 a3 a4 a5 a6 a7
  generalize ((((w.alloc (.cells #[.int .i64 s.cl, .int .i64 s.wi, .int .i64 s.pl, .int .i64 s.ca, .int .i64 s.ino, .int .i64 s.qu, .int .i64 s.da, .int .i64 s.jo] 27)).alloc (.cells #[.int .i64 0, .int .i64 0, .int .i64 0, .int .i64 0, .int .i64 0, .int .i64 0, .int .i64 0, .int .i64 0, .int .i64 0, .int .i64 0, .int .i64 0, .int .i64 0, .int .i64 0, .int .i64 0, .int .i64 0, .int .i64 0, .int .i64 0, .int .i64 0, .int .i64 0, .int .i64 0] 29)).alloc (.cells #[.int .i64 1, .int .i64 1, .int .i64 1, .int .i64 1, .int .i64 2, .int .i64 0, .int .i64 1, .int .i64 27] 3)).alloc (.cells #[.int .i64 8, .int .i64 8, .int .i64 8, .int .i64 64, .int .i64 256, .int .i64 524288, .int .i64 4096, .int .i64 512] 3)) = w1 at *
  refine (rnumbers_any s _).mono ?_
  rintro e w2 ⟨g, rfl, hg, hN, hb⟩
  have hS_2 := hS.later hb (by first | exact hlS | omega)
  have hR_2 := (hb.block _ (lt_of_block hR)).trans hR
  have hA_2 := (hb.block _ (lt_of_block hA)).trans hA
  have hC_2 := (hb.block _ (lt_of_block hC0)).trans hC0
  have hq_2 := hq4.trans (hb.mono hq4.size)
  have lt_hS_2 := Nat.lt_of_lt_of_le hlS hb.size
  clear hS hR hA hC0 hq4 hlS hb
  have hgl := lt_of_block hN
  go_wp2_with fail
  go_loopw [7] (fun v wr => ∃ k m : Nat, k ≤ 8 ∧ v = .int .i64 k ∧ wr = w2.drewN m ∧ InK s k) (fun v _ => 8 - (intOf v).toNat)
  case atStart => exact ⟨0, 0, by omega, rfl, rfl, fun i hi => absurd hi (Nat.not_lt_zero _)⟩
  case round =>
    obtain ⟨k, m, hk, rfl, rfl, hI⟩ := hrel
    by_cases hlt : k < 8
    · have HI : Hid (InK s k) := hI
      clear hI
      obtain rfl | rfl | rfl | rfl | rfl | rfl | rfl | rfl : k = 0 ∨ k = 1 ∨ k = 2 ∨ k = 3 ∨ k = 4 ∨ k = 5 ∨ k = 6 ∨ k = 7 := by omega
      · have x0 : w2.cell? ⟨g, 0, none⟩ = some (.int .i64 s.cl) := by simp only [World.cell?, hN]; rfl
        have x1 : w2.cell? ⟨w.heap.size + 1 + 1, 0, none⟩ = some (.int .i64 1) := by simp only [World.cell?, hA_2]; rfl
        have x2 : w2.cell? ⟨w.heap.size + 1 + 1 + 1, 0, none⟩ = some (.int .i64 8) := by simp only [World.cell?, hC_2]; rfl
        by_cases h0 : s.cl < 1
        · have d0 : decide (s.cl < 1) = true := decide_eq_true h0
          have no : ¬ InB s := fun h => absurd (InK.of h 0 (by decide)).1 (by show ¬ (1 : Int) ≤ s.cl; omega)
          clear HI
          go_wp2
          go_quiet (fail)
          have hst := LyStore.row (w := w2.drewN (m + nq)) hR_2 rfl
          go_wp2
          refine bodyPost_ret (res2 rfl _ _ (w.heap.size + 1) 29 _ (0, 0) _ rfl (setRow_heap (w2.drewN (m + nq)) _ _ _ _ _ hR_2) Tryz.underlying29 rfl ly_size) rfl ?_
          refine ⟨?_, below_setRow (below_drewN hq_2 (m + nq)) (by omega) _⟩
          have e := planE_no no
          unfold planL
          rw [e]
          rfl
        · have d0 : decide (s.cl < 1) = false := decide_eq_false h0
          by_cases h1 : 8 < s.cl
          · have d1 : decide (8 < s.cl) = true := decide_eq_true h1
            have no : ¬ InB s := fun h => absurd (InK.of h 0 (by decide)).2 (by show ¬ s.cl ≤ (8 : Int); omega)
            clear HI
            go_wp2
            go_quiet (fail)
            have hst := LyStore.row (w := w2.drewN (m + nq)) hR_2 rfl
            go_wp2
            refine bodyPost_ret (res2 rfl _ _ (w.heap.size + 1) 29 _ (0, 0) _ rfl (setRow_heap (w2.drewN (m + nq)) _ _ _ _ _ hR_2) Tryz.underlying29 rfl ly_size) rfl ?_
            refine ⟨?_, below_setRow (below_drewN hq_2 (m + nq)) (by omega) _⟩
            have e := planE_no no
            unfold planL
            rw [e]
            rfl
          · have d1 : decide (8 < s.cl) = false := decide_eq_false h1
            have HJ : Hid (InK s 1) := HI.out.succ (by show (1 : Int) ≤ s.cl; omega) (by show s.cl ≤ (8 : Int); omega)
            clear HI
            go_wp2
            go_quiet (fail)
            go_wp2
            go_roundw
            case rel => exact ⟨1, m + nq, by omega, rfl, rfl, HJ.out⟩
            case measure => simp [intOf]
      · have x0 : w2.cell? ⟨g, 1, none⟩ = some (.int .i64 s.wi) := by simp only [World.cell?, hN]; rfl
        have x1 : w2.cell? ⟨w.heap.size + 1 + 1, 1, none⟩ = some (.int .i64 1) := by simp only [World.cell?, hA_2]; rfl
        have x2 : w2.cell? ⟨w.heap.size + 1 + 1 + 1, 1, none⟩ = some (.int .i64 8) := by simp only [World.cell?, hC_2]; rfl
        by_cases h0 : s.wi < 1
        · have d0 : decide (s.wi < 1) = true := decide_eq_true h0
          have no : ¬ InB s := fun h => absurd (InK.of h 1 (by decide)).1 (by show ¬ (1 : Int) ≤ s.wi; omega)
          clear HI
          go_wp2
          go_quiet (fail)
          have hst := LyStore.row (w := w2.drewN (m + nq)) hR_2 rfl
          go_wp2
          refine bodyPost_ret (res2 rfl _ _ (w.heap.size + 1) 29 _ (0, 0) _ rfl (setRow_heap (w2.drewN (m + nq)) _ _ _ _ _ hR_2) Tryz.underlying29 rfl ly_size) rfl ?_
          refine ⟨?_, below_setRow (below_drewN hq_2 (m + nq)) (by omega) _⟩
          have e := planE_no no
          unfold planL
          rw [e]
          rfl
        · have d0 : decide (s.wi < 1) = false := decide_eq_false h0
          by_cases h1 : 8 < s.wi
          · have d1 : decide (8 < s.wi) = true := decide_eq_true h1
            have no : ¬ InB s := fun h => absurd (InK.of h 1 (by decide)).2 (by show ¬ s.wi ≤ (8 : Int); omega)
            clear HI
            go_wp2
            go_quiet (fail)
            have hst := LyStore.row (w := w2.drewN (m + nq)) hR_2 rfl
            go_wp2
            refine bodyPost_ret (res2 rfl _ _ (w.heap.size + 1) 29 _ (0, 0) _ rfl (setRow_heap (w2.drewN (m + nq)) _ _ _ _ _ hR_2) Tryz.underlying29 rfl ly_size) rfl ?_
            refine ⟨?_, below_setRow (below_drewN hq_2 (m + nq)) (by omega) _⟩
            have e := planE_no no
            unfold planL
            rw [e]
            rfl
          · have d1 : decide (8 < s.wi) = false := decide_eq_false h1
            have HJ : Hid (InK s 2) := HI.out.succ (by show (1 : Int) ≤ s.wi; omega) (by show s.wi ≤ (8 : Int); omega)
            clear HI
            go_wp2
            go_quiet (fail)
            go_wp2
            go_roundw
            case rel => exact ⟨2, m + nq, by omega, rfl, rfl, HJ.out⟩
            case measure => simp [intOf]
      · have x0 : w2.cell? ⟨g, 2, none⟩ = some (.int .i64 s.pl) := by simp only [World.cell?, hN]; rfl
        have x1 : w2.cell? ⟨w.heap.size + 1 + 1, 2, none⟩ = some (.int .i64 1) := by simp only [World.cell?, hA_2]; rfl
        have x2 : w2.cell? ⟨w.heap.size + 1 + 1 + 1, 2, none⟩ = some (.int .i64 8) := by simp only [World.cell?, hC_2]; rfl
        by_cases h0 : s.pl < 1
        · have d0 : decide (s.pl < 1) = true := decide_eq_true h0
          have no : ¬ InB s := fun h => absurd (InK.of h 2 (by decide)).1 (by show ¬ (1 : Int) ≤ s.pl; omega)
          clear HI
          go_wp2
          go_quiet (fail)
          have hst := LyStore.row (w := w2.drewN (m + nq)) hR_2 rfl
          go_wp2
          refine bodyPost_ret (res2 rfl _ _ (w.heap.size + 1) 29 _ (0, 0) _ rfl (setRow_heap (w2.drewN (m + nq)) _ _ _ _ _ hR_2) Tryz.underlying29 rfl ly_size) rfl ?_
          refine ⟨?_, below_setRow (below_drewN hq_2 (m + nq)) (by omega) _⟩
          have e := planE_no no
          unfold planL
          rw [e]
          rfl
        · have d0 : decide (s.pl < 1) = false := decide_eq_false h0
          by_cases h1 : 8 < s.pl
          · have d1 : decide (8 < s.pl) = true := decide_eq_true h1
            have no : ¬ InB s := fun h => absurd (InK.of h 2 (by decide)).2 (by show ¬ s.pl ≤ (8 : Int); omega)
            clear HI
            go_wp2
            go_quiet (fail)
            have hst := LyStore.row (w := w2.drewN (m + nq)) hR_2 rfl
            go_wp2
            refine bodyPost_ret (res2 rfl _ _ (w.heap.size + 1) 29 _ (0, 0) _ rfl (setRow_heap (w2.drewN (m + nq)) _ _ _ _ _ hR_2) Tryz.underlying29 rfl ly_size) rfl ?_
            refine ⟨?_, below_setRow (below_drewN hq_2 (m + nq)) (by omega) _⟩
            have e := planE_no no
            unfold planL
            rw [e]
            rfl
          · have d1 : decide (8 < s.pl) = false := decide_eq_false h1
            have HJ : Hid (InK s 3) := HI.out.succ (by show (1 : Int) ≤ s.pl; omega) (by show s.pl ≤ (8 : Int); omega)
            clear HI
            go_wp2
            go_quiet (fail)
            go_wp2
            go_roundw
            case rel => exact ⟨3, m + nq, by omega, rfl, rfl, HJ.out⟩
            case measure => simp [intOf]
      · have x0 : w2.cell? ⟨g, 3, none⟩ = some (.int .i64 s.ca) := by simp only [World.cell?, hN]; rfl
        have x1 : w2.cell? ⟨w.heap.size + 1 + 1, 3, none⟩ = some (.int .i64 1) := by simp only [World.cell?, hA_2]; rfl
        have x2 : w2.cell? ⟨w.heap.size + 1 + 1 + 1, 3, none⟩ = some (.int .i64 64) := by simp only [World.cell?, hC_2]; rfl
        by_cases h0 : s.ca < 1
        · have d0 : decide (s.ca < 1) = true := decide_eq_true h0
          have no : ¬ InB s := fun h => absurd (InK.of h 3 (by decide)).1 (by show ¬ (1 : Int) ≤ s.ca; omega)
          clear HI
          go_wp2
          go_quiet (fail)
          have hst := LyStore.row (w := w2.drewN (m + nq)) hR_2 rfl
          go_wp2
          refine bodyPost_ret (res2 rfl _ _ (w.heap.size + 1) 29 _ (0, 0) _ rfl (setRow_heap (w2.drewN (m + nq)) _ _ _ _ _ hR_2) Tryz.underlying29 rfl ly_size) rfl ?_
          refine ⟨?_, below_setRow (below_drewN hq_2 (m + nq)) (by omega) _⟩
          have e := planE_no no
          unfold planL
          rw [e]
          rfl
        · have d0 : decide (s.ca < 1) = false := decide_eq_false h0
          by_cases h1 : 64 < s.ca
          · have d1 : decide (64 < s.ca) = true := decide_eq_true h1
            have no : ¬ InB s := fun h => absurd (InK.of h 3 (by decide)).2 (by show ¬ s.ca ≤ (64 : Int); omega)
            clear HI
            go_wp2
            go_quiet (fail)
            have hst := LyStore.row (w := w2.drewN (m + nq)) hR_2 rfl
            go_wp2
            refine bodyPost_ret (res2 rfl _ _ (w.heap.size + 1) 29 _ (0, 0) _ rfl (setRow_heap (w2.drewN (m + nq)) _ _ _ _ _ hR_2) Tryz.underlying29 rfl ly_size) rfl ?_
            refine ⟨?_, below_setRow (below_drewN hq_2 (m + nq)) (by omega) _⟩
            have e := planE_no no
            unfold planL
            rw [e]
            rfl
          · have d1 : decide (64 < s.ca) = false := decide_eq_false h1
            have HJ : Hid (InK s 4) := HI.out.succ (by show (1 : Int) ≤ s.ca; omega) (by show s.ca ≤ (64 : Int); omega)
            clear HI
            go_wp2
            go_quiet (fail)
            go_wp2
            go_roundw
            case rel => exact ⟨4, m + nq, by omega, rfl, rfl, HJ.out⟩
            case measure => simp [intOf]
      · have x0 : w2.cell? ⟨g, 4, none⟩ = some (.int .i64 s.ino) := by simp only [World.cell?, hN]; rfl
        have x1 : w2.cell? ⟨w.heap.size + 1 + 1, 4, none⟩ = some (.int .i64 2) := by simp only [World.cell?, hA_2]; rfl
        have x2 : w2.cell? ⟨w.heap.size + 1 + 1 + 1, 4, none⟩ = some (.int .i64 256) := by simp only [World.cell?, hC_2]; rfl
        by_cases h0 : s.ino < 2
        · have d0 : decide (s.ino < 2) = true := decide_eq_true h0
          have no : ¬ InB s := fun h => absurd (InK.of h 4 (by decide)).1 (by show ¬ (2 : Int) ≤ s.ino; omega)
          clear HI
          go_wp2
          go_quiet (fail)
          have hst := LyStore.row (w := w2.drewN (m + nq)) hR_2 rfl
          go_wp2
          refine bodyPost_ret (res2 rfl _ _ (w.heap.size + 1) 29 _ (0, 0) _ rfl (setRow_heap (w2.drewN (m + nq)) _ _ _ _ _ hR_2) Tryz.underlying29 rfl ly_size) rfl ?_
          refine ⟨?_, below_setRow (below_drewN hq_2 (m + nq)) (by omega) _⟩
          have e := planE_no no
          unfold planL
          rw [e]
          rfl
        · have d0 : decide (s.ino < 2) = false := decide_eq_false h0
          by_cases h1 : 256 < s.ino
          · have d1 : decide (256 < s.ino) = true := decide_eq_true h1
            have no : ¬ InB s := fun h => absurd (InK.of h 4 (by decide)).2 (by show ¬ s.ino ≤ (256 : Int); omega)
            clear HI
            go_wp2
            go_quiet (fail)
            have hst := LyStore.row (w := w2.drewN (m + nq)) hR_2 rfl
            go_wp2
            refine bodyPost_ret (res2 rfl _ _ (w.heap.size + 1) 29 _ (0, 0) _ rfl (setRow_heap (w2.drewN (m + nq)) _ _ _ _ _ hR_2) Tryz.underlying29 rfl ly_size) rfl ?_
            refine ⟨?_, below_setRow (below_drewN hq_2 (m + nq)) (by omega) _⟩
            have e := planE_no no
            unfold planL
            rw [e]
            rfl
          · have d1 : decide (256 < s.ino) = false := decide_eq_false h1
            have HJ : Hid (InK s 5) := HI.out.succ (by show (2 : Int) ≤ s.ino; omega) (by show s.ino ≤ (256 : Int); omega)
            clear HI
            go_wp2
            go_quiet (fail)
            go_wp2
            go_roundw
            case rel => exact ⟨5, m + nq, by omega, rfl, rfl, HJ.out⟩
            case measure => simp [intOf]
      · have x0 : w2.cell? ⟨g, 5, none⟩ = some (.int .i64 s.qu) := by simp only [World.cell?, hN]; rfl
        have x1 : w2.cell? ⟨w.heap.size + 1 + 1, 5, none⟩ = some (.int .i64 0) := by simp only [World.cell?, hA_2]; rfl
        have x2 : w2.cell? ⟨w.heap.size + 1 + 1 + 1, 5, none⟩ = some (.int .i64 524288) := by simp only [World.cell?, hC_2]; rfl
        by_cases h0 : s.qu < 0
        · have d0 : decide (s.qu < 0) = true := decide_eq_true h0
          have no : ¬ InB s := fun h => absurd (InK.of h 5 (by decide)).1 (by show ¬ (0 : Int) ≤ s.qu; omega)
          clear HI
          go_wp2
          go_quiet (fail)
          have hst := LyStore.row (w := w2.drewN (m + nq)) hR_2 rfl
          go_wp2
          refine bodyPost_ret (res2 rfl _ _ (w.heap.size + 1) 29 _ (0, 0) _ rfl (setRow_heap (w2.drewN (m + nq)) _ _ _ _ _ hR_2) Tryz.underlying29 rfl ly_size) rfl ?_
          refine ⟨?_, below_setRow (below_drewN hq_2 (m + nq)) (by omega) _⟩
          have e := planE_no no
          unfold planL
          rw [e]
          rfl
        · have d0 : decide (s.qu < 0) = false := decide_eq_false h0
          by_cases h1 : 524288 < s.qu
          · have d1 : decide (524288 < s.qu) = true := decide_eq_true h1
            have no : ¬ InB s := fun h => absurd (InK.of h 5 (by decide)).2 (by show ¬ s.qu ≤ (524288 : Int); omega)
            clear HI
            go_wp2
            go_quiet (fail)
            have hst := LyStore.row (w := w2.drewN (m + nq)) hR_2 rfl
            go_wp2
            refine bodyPost_ret (res2 rfl _ _ (w.heap.size + 1) 29 _ (0, 0) _ rfl (setRow_heap (w2.drewN (m + nq)) _ _ _ _ _ hR_2) Tryz.underlying29 rfl ly_size) rfl ?_
            refine ⟨?_, below_setRow (below_drewN hq_2 (m + nq)) (by omega) _⟩
            have e := planE_no no
            unfold planL
            rw [e]
            rfl
          · have d1 : decide (524288 < s.qu) = false := decide_eq_false h1
            have HJ : Hid (InK s 6) := HI.out.succ (by show (0 : Int) ≤ s.qu; omega) (by show s.qu ≤ (524288 : Int); omega)
            clear HI
            go_wp2
            go_quiet (fail)
            go_wp2
            go_roundw
            case rel => exact ⟨6, m + nq, by omega, rfl, rfl, HJ.out⟩
            case measure => simp [intOf]
      · have x0 : w2.cell? ⟨g, 6, none⟩ = some (.int .i64 s.da) := by simp only [World.cell?, hN]; rfl
        have x1 : w2.cell? ⟨w.heap.size + 1 + 1, 6, none⟩ = some (.int .i64 1) := by simp only [World.cell?, hA_2]; rfl
        have x2 : w2.cell? ⟨w.heap.size + 1 + 1 + 1, 6, none⟩ = some (.int .i64 4096) := by simp only [World.cell?, hC_2]; rfl
        by_cases h0 : s.da < 1
        · have d0 : decide (s.da < 1) = true := decide_eq_true h0
          have no : ¬ InB s := fun h => absurd (InK.of h 6 (by decide)).1 (by show ¬ (1 : Int) ≤ s.da; omega)
          clear HI
          go_wp2
          go_quiet (fail)
          have hst := LyStore.row (w := w2.drewN (m + nq)) hR_2 rfl
          go_wp2
          refine bodyPost_ret (res2 rfl _ _ (w.heap.size + 1) 29 _ (0, 0) _ rfl (setRow_heap (w2.drewN (m + nq)) _ _ _ _ _ hR_2) Tryz.underlying29 rfl ly_size) rfl ?_
          refine ⟨?_, below_setRow (below_drewN hq_2 (m + nq)) (by omega) _⟩
          have e := planE_no no
          unfold planL
          rw [e]
          rfl
        · have d0 : decide (s.da < 1) = false := decide_eq_false h0
          by_cases h1 : 4096 < s.da
          · have d1 : decide (4096 < s.da) = true := decide_eq_true h1
            have no : ¬ InB s := fun h => absurd (InK.of h 6 (by decide)).2 (by show ¬ s.da ≤ (4096 : Int); omega)
            clear HI
            go_wp2
            go_quiet (fail)
            have hst := LyStore.row (w := w2.drewN (m + nq)) hR_2 rfl
            go_wp2
            refine bodyPost_ret (res2 rfl _ _ (w.heap.size + 1) 29 _ (0, 0) _ rfl (setRow_heap (w2.drewN (m + nq)) _ _ _ _ _ hR_2) Tryz.underlying29 rfl ly_size) rfl ?_
            refine ⟨?_, below_setRow (below_drewN hq_2 (m + nq)) (by omega) _⟩
            have e := planE_no no
            unfold planL
            rw [e]
            rfl
          · have d1 : decide (4096 < s.da) = false := decide_eq_false h1
            have HJ : Hid (InK s 7) := HI.out.succ (by show (1 : Int) ≤ s.da; omega) (by show s.da ≤ (4096 : Int); omega)
            clear HI
            go_wp2
            go_quiet (fail)
            go_wp2
            go_roundw
            case rel => exact ⟨7, m + nq, by omega, rfl, rfl, HJ.out⟩
            case measure => simp [intOf]
      · have x0 : w2.cell? ⟨g, 7, none⟩ = some (.int .i64 s.jo) := by simp only [World.cell?, hN]; rfl
        have x1 : w2.cell? ⟨w.heap.size + 1 + 1, 7, none⟩ = some (.int .i64 27) := by simp only [World.cell?, hA_2]; rfl
        have x2 : w2.cell? ⟨w.heap.size + 1 + 1 + 1, 7, none⟩ = some (.int .i64 512) := by simp only [World.cell?, hC_2]; rfl
        by_cases h0 : s.jo < 27
        · have d0 : decide (s.jo < 27) = true := decide_eq_true h0
          have no : ¬ InB s := fun h => absurd (InK.of h 7 (by decide)).1 (by show ¬ (27 : Int) ≤ s.jo; omega)
          clear HI
          go_wp2
          go_quiet (fail)
          have hst := LyStore.row (w := w2.drewN (m + nq)) hR_2 rfl
          go_wp2
          refine bodyPost_ret (res2 rfl _ _ (w.heap.size + 1) 29 _ (0, 0) _ rfl (setRow_heap (w2.drewN (m + nq)) _ _ _ _ _ hR_2) Tryz.underlying29 rfl ly_size) rfl ?_
          refine ⟨?_, below_setRow (below_drewN hq_2 (m + nq)) (by omega) _⟩
          have e := planE_no no
          unfold planL
          rw [e]
          rfl
        · have d0 : decide (s.jo < 27) = false := decide_eq_false h0
          by_cases h1 : 512 < s.jo
          · have d1 : decide (512 < s.jo) = true := decide_eq_true h1
            have no : ¬ InB s := fun h => absurd (InK.of h 7 (by decide)).2 (by show ¬ s.jo ≤ (512 : Int); omega)
            clear HI
            go_wp2
            go_quiet (fail)
            have hst := LyStore.row (w := w2.drewN (m + nq)) hR_2 rfl
            go_wp2
            refine bodyPost_ret (res2 rfl _ _ (w.heap.size + 1) 29 _ (0, 0) _ rfl (setRow_heap (w2.drewN (m + nq)) _ _ _ _ _ hR_2) Tryz.underlying29 rfl ly_size) rfl ?_
            refine ⟨?_, below_setRow (below_drewN hq_2 (m + nq)) (by omega) _⟩
            have e := planE_no no
            unfold planL
            rw [e]
            rfl
          · have d1 : decide (512 < s.jo) = false := decide_eq_false h1
            have HJ : Hid (InK s 8) := HI.out.succ (by show (27 : Int) ≤ s.jo; omega) (by show s.jo ≤ (512 : Int); omega)
            clear HI
            go_wp2
            go_quiet (fail)
            go_wp2
            go_roundw
            case rel => exact ⟨8, m + nq, by omega, rfl, rfl, HJ.out⟩
            case measure => simp [intOf]
    · obtain rfl : k = 8 := by omega
      have hin := hI.all
      clear hI hlt hk
      have hb : Below w2.heap.size w2 (w2.drewN m) := below_drewN (Below.refl _ _) m
      have hS_3 := hS_2.later hb (by first | exact lt_hS_2 | omega)
      have hR_3 := (hb.block _ (lt_of_block hR_2)).trans hR_2
      have hA_3 := (hb.block _ (lt_of_block hA_2)).trans hA_2
      have hC_3 := (hb.block _ (lt_of_block hC_2)).trans hC_2
      have hq_3 := hq_2.trans (hb.mono hq_2.size)
      have hN_3 := (hb.block _ (lt_of_block hN)).trans hN
      have lt_hS_3 := Nat.lt_of_lt_of_le lt_hS_2 hb.size
      clear hS_2 hR_2 hA_2 hC_2 hq_2 lt_hS_2 hN hb
      clear hgl
      obtain ⟨a0, a1, a2, a3, a4, a5, a6, a7⟩ := hS_3
      go_wp2_with fail
      have hS_3 := ShBox.mk a0 a1 a2 a3 a4 a5 a6 a7
      clear a0 a1 a2 a3 a4 a5 a6 a7
      generalize w2.drewN m = w3 at *
      refine (rbegins_any s hin 7 (by omega) _).mono ?_
      rintro e w4 ⟨rfl, hb⟩
      have hS_4 := hS_3.later hb (by first | exact lt_hS_3 | omega)
      have hR_4 := (hb.block _ (lt_of_block hR_3)).trans hR_3
      have hA_4 := (hb.block _ (lt_of_block hA_3)).trans hA_3
      have hC_4 := (hb.block _ (lt_of_block hC_3)).trans hC_3
      have hq_4 := hq_3.trans (hb.mono hq_3.size)
      have hN_4 := (hb.block _ (lt_of_block hN_3)).trans hN_3
      have lt_hS_4 := Nat.lt_of_lt_of_le lt_hS_3 hb.size
      clear hS_3 hR_3 hA_3 hC_3 hq_3 lt_hS_3 hN_3 hb
      obtain ⟨g1, g2, g3, g4, g5, g6, g7⟩ := begsP s
      rw [g7]
      have q0 := hin.qu0
      have q1 := hin.qu1
      have i0 := hin.ino0
      have i1 := hin.ino1
      have e5 : (s.qu + 511).tdiv 512 = (s.qu + 511) / 512 := Int.tdiv_eq_ediv_of_nonneg (by omega)
      have b5 : 0 ≤ (s.qu + 511) / 512 ∧ (s.qu + 511) / 512 ≤ 2000 := by omega
      obtain ⟨b50, b51⟩ := b5
      obtain ⟨a0, a1, a2, a3, a4, a5, a6, a7⟩ := hS_4
      by_cases h0 : s.da < (s.qu + 511) / 512 + 4 * s.ino
      · have d0 : decide (s.da < (s.qu + 511) / 512 + 4 * s.ino) = true := decide_eq_true h0
        have hst := LyStore.row hR_4 rfl
        go_wp2_with fail
        refine bodyPost_ret (res2 rfl _ _ (w.heap.size + 1) 29 _ (0, 0) _ rfl (setRow_heap _ _ _ _ _ _ hR_4) Tryz.underlying29 rfl ly_size) rfl ?_
        refine ⟨?_, below_setRow hq_4 (by omega) _⟩
        have e : planE s = 63 := by unfold planE; rw [if_neg (fun h => h hin), if_pos (Or.inl (show s.da < leastD s from h0))]
        unfold planL
        rw [e]
        rfl
      have d0 : decide (s.da < (s.qu + 511) / 512 + 4 * s.ino) = false := decide_eq_false h0
      by_cases h1 : 4096 < (layOf s).to
      · have d1 : decide (4096 < (layOf s).to) = true := decide_eq_true h1
        have hst := LyStore.row hR_4 rfl
        go_wp2_with fail
        refine bodyPost_ret (res2 rfl _ _ (w.heap.size + 1) 29 _ (0, 0) _ rfl (setRow_heap _ _ _ _ _ _ hR_4) Tryz.underlying29 rfl ly_size) rfl ?_
        refine ⟨?_, below_setRow hq_4 (by omega) _⟩
        have e : planE s = 63 := by unfold planE; rw [if_neg (fun h => h hin), if_pos (Or.inr h1)]
        unfold planL
        rw [e]
        rfl
      have d1 : decide (4096 < (layOf s).to) = false := decide_eq_false h1
      have HE : Hid (planE s = 0) := by show _ = _; unfold planE; rw [if_neg (fun h => h hin), if_neg (fun h => h.elim (show ¬ s.da < leastD s from h0) h1)]
      have HT : Hid ((layOf s).to = (layOf s).to) := rfl
      clear HT h0 h1
      go_wp2_with fail
      clear d0 d1 e5 b50 b51
      have hS_4 := ShBox.mk a0 a1 a2 a3 a4 a5 a6 a7
      clear a0 a1 a2 a3 a4 a5 a6 a7
      have hR4 := lt_of_block hR_4
      refine (rlengths_any s hin _).mono ?_
      rintro e w5 ⟨gl, rfl, hgl, hLn, hb⟩
      have hS_5 := hS_4.later hb (by first | exact lt_hS_4 | omega)
      have hR_5 := (hb.block _ (lt_of_block hR_4)).trans hR_4
      have hA_5 := (hb.block _ (lt_of_block hA_4)).trans hA_4
      have hC_5 := (hb.block _ (lt_of_block hC_4)).trans hC_4
      have hq_5 := hq_4.trans (hb.mono hq_4.size)
      have hN_5 := (hb.block _ (lt_of_block hN_4)).trans hN_4
      have lt_hS_5 := Nat.lt_of_lt_of_le lt_hS_4 hb.size
      clear hS_4 hR_4 hA_4 hC_4 hq_4 lt_hS_4 hN_4 hb
      go_wp2_with fail
      have hSd : ShBox w5.drew w.heap.size s := hS_5.later (Below.refl w5.heap.size w5).drew lt_hS_5
      have hRd : w5.drew.heap[w.heap.size + 1]? = some (.cells #[.int .i64 0, .int .i64 0, .int .i64 0, .int .i64 0, .int .i64 0, .int .i64 0, .int .i64 0, .int .i64 0, .int .i64 0, .int .i64 0, .int .i64 0, .int .i64 0, .int .i64 0, .int .i64 0, .int .i64 0, .int .i64 0, .int .i64 0, .int .i64 0, .int .i64 0, .int .i64 0] 29 (0, 0)) := hR_5
      have hLd : w5.drew.heap[gl]? = some (.cells #[.int .i64 1, .int .i64 1, .int .i64 s.jo, .int .i64 (1 + 3 * s.ca), .int .i64 1, .int .i64 ((s.ino + 3) / 4), .int .i64 s.da] 3 (0, 0)) := hLn
      have hqd : Below w.heap.size w w5.drew := hq_5.drew
      have hld : w.heap.size < w5.drew.heap.size := lt_hS_5
      clear hS_5 hR_5 hLn hq_5 lt_hS_5
      have hst : ∀ (v : World) (hv : v.heap[w.heap.size + 1]? = some (.cells #[.int .i64 0, .int .i64 0, .int .i64 0, .int .i64 0, .int .i64 0, .int .i64 0, .int .i64 0, .int .i64 0, .int .i64 0, .int .i64 0, .int .i64 0, .int .i64 0, .int .i64 0, .int .i64 0, .int .i64 0, .int .i64 0, .int .i64 0, .int .i64 0, .int .i64 0, .int .i64 0] 29 (0, 0))) (x0 x1 x2 x3 x4 x5 x6 x7 x8 x9 x10 x11 x12 x13 x14 x15 x16 x17 x18 x19 : Int) (o : Oper) (a : Act) (next : Act → World → Prop) (Q : Exit → Act → World → Prop), LyStore (.pointer (some ⟨w.heap.size + 1, 0, none⟩)) (.agg #[.int .i64 x0, .int .i64 x1, .int .i64 x2, .int .i64 x3, .int .i64 x4, .int .i64 x5, .int .i64 x6, .int .i64 x7, .int .i64 x8, .int .i64 x9, .int .i64 x10, .int .i64 x11, .int .i64 x12, .int .i64 x13, .int .i64 x14, .int .i64 x15, .int .i64 x16, .int .i64 x17, .int .i64 x18, .int .i64 x19]) o a v next Q = next (a.put o.dst undef) (v.setRow (w.heap.size + 1) #[.int .i64 x0, .int .i64 x1, .int .i64 x2, .int .i64 x3, .int .i64 x4, .int .i64 x5, .int .i64 x6, .int .i64 x7, .int .i64 x8, .int .i64 x9, .int .i64 x10, .int .i64 x11, .int .i64 x12, .int .i64 x13, .int .i64 x14, .int .i64 x15, .int .i64 x16, .int .i64 x17, .int .i64 x18, .int .i64 x19]) := fun v hv => LyStore.row hv rfl
      have hgne : gl ≠ w.heap.size + 1 := by omega
      go_region_held3 (fun w' => w'.cell? ⟨w.heap.size, 0, none⟩ = some (.int .i64 s.cl) ∧ w'.cell? ⟨w.heap.size, 1, none⟩ = some (.int .i64 s.wi) ∧ w'.cell? ⟨w.heap.size, 2, none⟩ = some (.int .i64 s.pl) ∧ w'.cell? ⟨w.heap.size, 3, none⟩ = some (.int .i64 s.ca) ∧ w'.cell? ⟨w.heap.size, 4, none⟩ = some (.int .i64 s.ino) ∧ w'.cell? ⟨w.heap.size, 5, none⟩ = some (.int .i64 s.qu) ∧ w'.cell? ⟨w.heap.size, 6, none⟩ = some (.int .i64 s.da) ∧ w'.cell? ⟨w.heap.size, 7, none⟩ = some (.int .i64 s.jo) ∧ w'.cell? ⟨gl, 2, none⟩ = some (.int .i64 s.jo) ∧ w'.cell? ⟨gl, 3, none⟩ = some (.int .i64 (1 + 3 * s.ca)) ∧ w'.cell? ⟨gl, 4, none⟩ = some (.int .i64 1) ∧ w'.cell? ⟨gl, 5, none⟩ = some (.int .i64 ((s.ino + 3) / 4)) ∧ w'.cell? ⟨gl, 6, none⟩ = some (.int .i64 s.da))
        (first
          | with_reducible exact hSd.and (lens_cells hLd)
          | with_reducible exact hS1x.and (lens_cells hL1x)
          | with_reducible exact hS2x.and (lens_cells hL2x)
          | with_reducible exact hS3x.and (lens_cells hL3x)
          | with_reducible exact hS4x.and (lens_cells hL4x)
          | with_reducible exact hS5x.and (lens_cells hL5x)
          | with_reducible exact hS6x.and (lens_cells hL6x)
          | with_reducible exact (hS6x.setRow (by omega) _).and (lens_cells (setRow_keep hL6x hgne _)))
        (first
          | (go_at_call_of 57 (Value.int IntKind.i64 1); refine (rbegins_any s hin 1 (by omega) _).mono ?_; rintro e y1 ⟨rfl, hb1⟩; have hS1x := hSd.later hb1 hld; have hR1x := (hb1.block _ (lt_of_block hRd)).trans hRd; have hL1x := (hb1.block _ (lt_of_block hLd)).trans hLd; have hq1x := hqd.trans (hb1.mono hqd.size); have hl1x := Nat.lt_of_lt_of_le hld hb1.size)
          | (go_at_call_of 57 (Value.int IntKind.i64 2); refine (rbegins_any s hin 2 (by omega) _).mono ?_; rintro e y2 ⟨rfl, hb2⟩; have hS2x := hS1x.later hb2 hl1x; have hR2x := (hb2.block _ (lt_of_block hR1x)).trans hR1x; have hL2x := (hb2.block _ (lt_of_block hL1x)).trans hL1x; have hq2x := hq1x.trans (hb2.mono hq1x.size); have hl2x := Nat.lt_of_lt_of_le hl1x hb2.size)
          | (go_at_call_of 57 (Value.int IntKind.i64 3); refine (rbegins_any s hin 3 (by omega) _).mono ?_; rintro e y3 ⟨rfl, hb3⟩; have hS3x := hS2x.later hb3 hl2x; have hR3x := (hb3.block _ (lt_of_block hR2x)).trans hR2x; have hL3x := (hb3.block _ (lt_of_block hL2x)).trans hL2x; have hq3x := hq2x.trans (hb3.mono hq2x.size); have hl3x := Nat.lt_of_lt_of_le hl2x hb3.size)
          | (go_at_call_of 57 (Value.int IntKind.i64 4); refine (rbegins_any s hin 4 (by omega) _).mono ?_; rintro e y4 ⟨rfl, hb4⟩; have hS4x := hS3x.later hb4 hl3x; have hR4x := (hb4.block _ (lt_of_block hR3x)).trans hR3x; have hL4x := (hb4.block _ (lt_of_block hL3x)).trans hL3x; have hq4x := hq3x.trans (hb4.mono hq3x.size); have hl4x := Nat.lt_of_lt_of_le hl3x hb4.size)
          | (go_at_call_of 57 (Value.int IntKind.i64 5); refine (rbegins_any s hin 5 (by omega) _).mono ?_; rintro e y5 ⟨rfl, hb5⟩; have hS5x := hS4x.later hb5 hl4x; have hR5x := (hb5.block _ (lt_of_block hR4x)).trans hR4x; have hL5x := (hb5.block _ (lt_of_block hL4x)).trans hL4x; have hq5x := hq4x.trans (hb5.mono hq4x.size); have hl5x := Nat.lt_of_lt_of_le hl4x hb5.size)
          | (go_at_call_of 57 (Value.int IntKind.i64 6); refine (rbegins_any s hin 6 (by omega) _).mono ?_; rintro e y6 ⟨rfl, hb6⟩; have hS6x := hS5x.later hb6 hl5x; have hR6x := (hb6.block _ (lt_of_block hR5x)).trans hR5x; have hL6x := (hb6.block _ (lt_of_block hL5x)).trans hL5x; have hq6x := hq5x.trans (hb6.mono hq5x.size); have hl6x := Nat.lt_of_lt_of_le hl5x hb6.size))
      go_wp2_with fail
      refine bodyPost_ret (res2 rfl _ _ (w.heap.size + 1) 29 _ (0, 0) _ rfl (setRow_heap _ _ _ _ _ _ hR6x) Tryz.underlying29 rfl ly_size) rfl ?_
      refine ⟨?_, below_setRow hq6x (by omega) _⟩
      unfold planL
      rw [HE.out]
      rfl
end Go.Proofs.YtfmcbjlagdanjaaGreatDoor
