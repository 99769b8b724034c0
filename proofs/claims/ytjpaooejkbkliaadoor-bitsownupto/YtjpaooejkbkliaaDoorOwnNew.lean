/- NewReader, once more: the bytes' block is a row of bytes. -/
import Derived.Test.YtjpaooejkbkliaaDoorOwnSet
namespace Go.Proofs.YtjpaooejkbkliaaDoor
open Go.RowKit
set_option maxRecDepth 100000

set_option maxHeartbeats 400000 in
theorem newReader_typed (ao : Option Addr) (len cap : Nat) (bs : List Int) (w : World) (hbd : len ≤ 200000000000000) (hL : Lies w ao len cap bs) :
    Calls Tryd.prog 13 #[.slice ao len cap] w fun e w' => ∃ r : RR, e = .returned (.pointer (some ⟨r.rb, 0, none⟩)) ∧ RdT w' r 0 ∧ r.bs = bs ∧ r.n = len ∧ w.heap.size ≤ r.rb ∧ w.heap.size ≤ r.g ∧ Below w.heap.size w w' := by
  obtain ⟨i0, hi, hz0, hz1, hz2⟩ := info_parts Tryd.info5
  go_enter Tryd.func13, Tryd.ntmps13
  go_wp2_with (first
    | (at_make; refine wpList_make_own _ rfl _ _ 24 rfl w.heap.size 5 i0 (.int .u8 0) 1 Tryd.underlying24 hi hz0 hz1 _ _ _ len rfl rfl (by omega) (by rw [hz2]; omega) (by unfold maxLen; omega) (Nat.le_refl _) ?_; intro w0 hown0 hgrow0)
    | (at_builtin; refine wpList_append_fits_any _ rfl (.tmp 5) (.tmp 6) 24 rfl w.heap.size 5 i0 1 Tryd.underlying24 hi hz1 w.heap.size 0 len _ rfl hown0 _ len _ (bs.map (Value.int .u8)) rfl (by simp [hL.hlen]) hL.hnone (fun ad had t u hu => hgrow0.cell (hL.hcells ad had t u hu) (by simp)) (ints_oneCell _ _) (by omega) ?_; intro w1 hown1 hgrow1; simp only [Nat.zero_add, List.nil_append] at hown1))
  go_ret
  have hlt : w.heap.size < w1.heap.size := (hown1.lt _ rfl).2
  have hb1 : Below w.heap.size w w1 := ((Below.refl _ _).grown hgrow0 (Nat.le_refl _) (fun k h => by cases h)).grown hgrow1 hgrow0.size (fun k hk => by cases hk; exact Nat.le_refl _)
  obtain ⟨cs, hcs⟩ := own_kind hown1 (b := w.heap.size) rfl
  refine ⟨⟨w1.heap.size, w.heap.size, len, bs⟩, rfl, ⟨⟨heap_alloc_new _ _, (Lies.own hown1).grown (World.grownBy_alloc _ _ none) (fun _ _ => by simp), by simp; omega, by simp; omega⟩, cs, ?_⟩, rfl, rfl, by simp; omega, Nat.le_refl _, hb1.alloc hb1.size _⟩
  exact (Below.heap_alloc w1 _ _ hlt).trans hcs
end Go.Proofs.YtjpaooejkbkliaaDoor
