/- SameInode of an inode and itself. -/
import Derived.Test.YtlcjkbhcbiggcaaGreatDoorB1
namespace Go.Proofs.YtlcjkbhcbiggcaaGreatDoor
open Go.RowKit Go.Maps
set_option maxRecDepth 100000

structure XX (w w' : World) (x : Ino) : Prop where
  A : InBox w' w.heap.size x
  X : InBox w' (w.heap.size + 1) x
  B : Below w.heap.size w w'
theorem XX.new (w : World) (x : Ino) : XX w ((w.alloc (.cells (inA x) 38)).alloc (.cells (inA x) 38)) x := by
  have b2 : Below (w.alloc (.cells (inA x) 38)).heap.size (w.alloc (.cells (inA x) 38)) ((w.alloc (.cells (inA x) 38)).alloc (.cells (inA x) 38)) := (Below.refl _ _).alloc (Nat.le_refl _) _
  have h1 : InBox (w.alloc (.cells (inA x) 38)) w.heap.size x := heap_alloc_last w _
  refine ⟨h1.below b2, ?_, ((Below.refl _ w).alloc (Nat.le_refl _) _).trans (b2.mono (by simp))⟩
  have := heap_alloc_last (w.alloc (.cells (inA x) 38)) (.cells (inA x) 38)
  simpa [InBox] using this
theorem InCells.dir {w : World} {b o : Nat} {x : Ino} (h : InCells w b o x) (n : Nat) (hn : n < 8) : w.cell? ⟨b, o + 4 + n, none⟩ = some (.int .i64 (x.dir n)) :=
  h.dirs n _ (by simp [hn])
set_option maxHeartbeats 4000000 in
theorem same_self (w : World) (x : Ino) :
    Calls Tryz.prog 38 #[inV x, inV x] w fun e w' => e = .returned (.bool true) ∧ Below w.heap.size w w' := by
  have hX := XX.new w x
  go_enter Tryz.func38, Tryz.ntmps38
  go_wp2_with fail
  obtain ⟨W, hW⟩ : ∃ W, (w.alloc (.cells (inA x) 38)).alloc (.cells (inA x) 38) = W := ⟨_, rfl⟩
  rw [hW] at hX
  try rw [hW]
  clear hW
  go_loopw [5] (fun y wr => ∃ n : Nat, n ≤ 8 ∧ y = .int .i64 n ∧ XX w wr x) (fun y _ => 8 - (intOf y).toNat)
  case atStart => exact ⟨0, by omega, rfl, hX⟩
  case round =>
    obtain ⟨n, hn, rfl, hX⟩ := hrel
    by_cases h8 : n = 8
    · subst h8
      obtain ⟨a0, a1, a2, a3, a12, _, _⟩ := hX.A.cells
      obtain ⟨c0, c1, c2, c3, c12, _, _⟩ := hX.X.cells
      go_wp2_with fail
      go_ret
      exact ⟨rfl, hX.B⟩
    · have hlt : n < 8 := by omega
      have hlti : (n : Int) < 8 := by omega
      have a4 := hX.A.cells.dir n hlt
      have c4 := hX.X.cells.dir n hlt
      rw [show 0 + 4 + n = 4 + n by omega] at a4 c4
      go_wp2_with fail
      go_region
      all_goals go_wp2_with fail
      all_goals exact ⟨⟨n + 1, by omega, rfl, ⟨hX.A, hX.X, hX.B.drew⟩⟩, by simp [intOf]; omega⟩
end Go.Proofs.YtlcjkbhcbiggcaaGreatDoor
