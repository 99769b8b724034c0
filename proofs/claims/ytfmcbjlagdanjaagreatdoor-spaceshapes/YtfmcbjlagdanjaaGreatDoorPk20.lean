/- A layout that Plan does not answer: the calls by their contracts. -/
import Derived.Test.YtfmcbjlagdanjaaGreatDoorPk12
import Derived.BigQuiet
import Derived.Test.YtfmcbjlagdanjaaGreatDoorPk13
import Derived.Test.YtfmcbjlagdanjaaGreatDoorPk19
import Derived.Deep.RegionHeld3
import Derived.Test.YtfmcbjlagdanjaaGreatDoorPk02
namespace Go.Proofs.YtfmcbjlagdanjaaGreatDoor
open Go.RowKit Go.Maps
set_option maxRecDepth 100000

attribute [local go_sem ↓ 100000] ly_store ly_load bm_store bm_load
attribute [local go_sem] LyStore.new LyStore.drew LyLoad.new LyLoad.drew BmStore.new
set_option maxHeartbeats 4000000 in
theorem read_sh {w : World} (p : Option Addr) (l : Lay) (hok : lyOk l = false) (hB : Bds w) :
    Calls Tryz.prog 42 #[.pointer p, lyV l] w fun e w' => e = .returned (.tuple #[bm0, .int .i64 2]) ∧ Below w.heap.size w w' := by
  obtain ⟨W1, hW1⟩ : ∃ W, w.alloc (.cells #[.int .i64 l.bo, .int .i64 l.jr, .int .i64 l.jl, .int .i64 l.le, .int .i64 l.ll, .int .i64 l.bi, .int .i64 l.bl, .int .i64 l.ta, .int .i64 l.tl, .int .i64 l.dt, .int .i64 l.dl, .int .i64 l.to, .int .i64 l.sh.cl, .int .i64 l.sh.wi, .int .i64 l.sh.pl, .int .i64 l.sh.ca, .int .i64 l.sh.ino, .int .i64 l.sh.qu, .int .i64 l.sh.da, .int .i64 l.sh.jo] 29) = W := ⟨_, rfl⟩
  obtain ⟨W2, hW2⟩ : ∃ W, W1.alloc (.cells #[.pointer none, .int .i64 0, .int .i64 0, .int .i64 0, .int .i64 0, .int .i64 0, .int .i64 0, .int .i64 0, .int .i64 0, .int .i64 0, .int .i64 0, .int .i64 0, .int .i64 0, .int .i64 0, .int .i64 0, .int .i64 0, .int .i64 0, .int .i64 0, .int .i64 0, .int .i64 0, .int .i64 0, .slice none 0 0] 96) = W := ⟨_, rfl⟩
  have s1 : W1.heap.size = w.heap.size + 1 := by rw [← hW1]; simp
  have s2 : W2.heap.size = w.heap.size + 2 := by rw [← hW2]; simp [s1]
  have b1 : Below w.heap.size w W1 := by rw [← hW1]; exact (Below.refl _ w).alloc (Nat.le_refl _) _
  have b2 : Below W1.heap.size W1 W2 := by rw [← hW2]; exact (Below.refl _ W1).alloc (Nat.le_refl _) _
  have L1 : W1.heap[w.heap.size]? = some (.cells #[.int .i64 l.bo, .int .i64 l.jr, .int .i64 l.jl, .int .i64 l.le, .int .i64 l.ll, .int .i64 l.bi, .int .i64 l.bl, .int .i64 l.ta, .int .i64 l.tl, .int .i64 l.dt, .int .i64 l.dl, .int .i64 l.to, .int .i64 l.sh.cl, .int .i64 l.sh.wi, .int .i64 l.sh.pl, .int .i64 l.sh.ca, .int .i64 l.sh.ino, .int .i64 l.sh.qu, .int .i64 l.sh.da, .int .i64 l.sh.jo] 29 (0, 0)) := by rw [← hW1]; exact heap_alloc_last w _
  have L2 := (b2.block _ (heap_lt L1)).trans L1
  have R2 : W2.heap[w.heap.size + 1]? = some (.cells #[.pointer none, .int .i64 0, .int .i64 0, .int .i64 0, .int .i64 0, .int .i64 0, .int .i64 0, .int .i64 0, .int .i64 0, .int .i64 0, .int .i64 0, .int .i64 0, .int .i64 0, .int .i64 0, .int .i64 0, .int .i64 0, .int .i64 0, .int .i64 0, .int .i64 0, .int .i64 0, .int .i64 0, .slice none 0 0] 96 (0, 0)) := by rw [← hW2, ← s1]; exact heap_alloc_last W1 _
  have b02 : Below w.heap.size w W2 := b1.trans (b2.mono b1.size)
  have hld := LyLoad.row L2 rfl
  have hB2 := hB.later b02 (Nat.le_refl _)
  clear b1 b2 L1
  go_enter Tryz.func42, Tryz.ntmps42
  go_wp2_with fail
  try rw [hW1, hW2]
  go_wp2_with fail
  have hp := planned_any l W2 hB2
  rw [hok] at hp
  refine hp.mono ?_
  rintro e w3 ⟨rfl, b3⟩
  have R3 := (b3.block _ (heap_lt R2)).trans R2
  have b03 := b02.trans (b3.mono (by omega))
  have s3 := b3.size
  clear hld hp
  have hst := BmStore.row R3 rfl
  go_wp2_with fail
  refine bodyPost_ret (res2 rfl _ _ (w.heap.size + 1) 96 _ (0, 0) _ rfl (setRow_heap _ _ _ _ _ _ R3) Tryz.underlying96 rfl bm_size) rfl ?_
  exact ⟨rfl, below_setRow b03 (by omega) _⟩
set_option maxHeartbeats 4000000 in
theorem readFor_sh {w : World} (p : Option Addr) (l : Lay) (hok : lyOk l = false) (hB : Bds w) (b : Int) :
    Calls Tryz.prog 45 #[.pointer p, lyV l, .int .i64 b] w fun e w' => e = .returned (.tuple #[bm0, .int .i64 0, .int .i64 2]) ∧ Below w.heap.size w w' := by
  obtain ⟨W1, hW1⟩ : ∃ W, w.alloc (.cells #[.int .i64 l.bo, .int .i64 l.jr, .int .i64 l.jl, .int .i64 l.le, .int .i64 l.ll, .int .i64 l.bi, .int .i64 l.bl, .int .i64 l.ta, .int .i64 l.tl, .int .i64 l.dt, .int .i64 l.dl, .int .i64 l.to, .int .i64 l.sh.cl, .int .i64 l.sh.wi, .int .i64 l.sh.pl, .int .i64 l.sh.ca, .int .i64 l.sh.ino, .int .i64 l.sh.qu, .int .i64 l.sh.da, .int .i64 l.sh.jo] 29) = W := ⟨_, rfl⟩
  obtain ⟨W2, hW2⟩ : ∃ W, W1.alloc (.cells #[.pointer none, .int .i64 0, .int .i64 0, .int .i64 0, .int .i64 0, .int .i64 0, .int .i64 0, .int .i64 0, .int .i64 0, .int .i64 0, .int .i64 0, .int .i64 0, .int .i64 0, .int .i64 0, .int .i64 0, .int .i64 0, .int .i64 0, .int .i64 0, .int .i64 0, .int .i64 0, .int .i64 0, .slice none 0 0] 96) = W := ⟨_, rfl⟩
  have s1 : W1.heap.size = w.heap.size + 1 := by rw [← hW1]; simp
  have s2 : W2.heap.size = w.heap.size + 2 := by rw [← hW2]; simp [s1]
  have b1 : Below w.heap.size w W1 := by rw [← hW1]; exact (Below.refl _ w).alloc (Nat.le_refl _) _
  have b2 : Below W1.heap.size W1 W2 := by rw [← hW2]; exact (Below.refl _ W1).alloc (Nat.le_refl _) _
  have L1 : W1.heap[w.heap.size]? = some (.cells #[.int .i64 l.bo, .int .i64 l.jr, .int .i64 l.jl, .int .i64 l.le, .int .i64 l.ll, .int .i64 l.bi, .int .i64 l.bl, .int .i64 l.ta, .int .i64 l.tl, .int .i64 l.dt, .int .i64 l.dl, .int .i64 l.to, .int .i64 l.sh.cl, .int .i64 l.sh.wi, .int .i64 l.sh.pl, .int .i64 l.sh.ca, .int .i64 l.sh.ino, .int .i64 l.sh.qu, .int .i64 l.sh.da, .int .i64 l.sh.jo] 29 (0, 0)) := by rw [← hW1]; exact heap_alloc_last w _
  have L2 := (b2.block _ (heap_lt L1)).trans L1
  have R2 : W2.heap[w.heap.size + 1]? = some (.cells #[.pointer none, .int .i64 0, .int .i64 0, .int .i64 0, .int .i64 0, .int .i64 0, .int .i64 0, .int .i64 0, .int .i64 0, .int .i64 0, .int .i64 0, .int .i64 0, .int .i64 0, .int .i64 0, .int .i64 0, .int .i64 0, .int .i64 0, .int .i64 0, .int .i64 0, .int .i64 0, .int .i64 0, .slice none 0 0] 96 (0, 0)) := by rw [← hW2, ← s1]; exact heap_alloc_last W1 _
  have b02 : Below w.heap.size w W2 := b1.trans (b2.mono b1.size)
  have hld := LyLoad.row L2 rfl
  have hB2 := hB.later b02 (Nat.le_refl _)
  clear b1 b2 L1
  go_enter Tryz.func45, Tryz.ntmps45
  go_wp2_with fail
  try rw [hW1, hW2]
  go_wp2_with fail
  have hp := planned_any l W2 hB2
  rw [hok] at hp
  refine hp.mono ?_
  rintro e w3 ⟨rfl, b3⟩
  have R3 := (b3.block _ (heap_lt R2)).trans R2
  have b03 := b02.trans (b3.mono (by omega))
  have s3 := b3.size
  clear hld hp
  have hst := BmStore.row R3 rfl
  go_wp2_with fail
  refine bodyPost_ret (res3 rfl _ _ (w.heap.size + 1) 96 _ (0, 0) _ rfl (setRow_heap _ _ _ _ _ _ R3) Tryz.underlying96 rfl bm_size) rfl ?_
  exact ⟨rfl, below_setRow b03 (by omega) _⟩
set_option maxHeartbeats 4000000 in
theorem alloc_sh {w : World} (p : Option Addr) (l : Lay) (hok : lyOk l = false) (hB : Bds w) :
    Calls Tryz.prog 12 #[.pointer p, lyV l] w fun e w' => e = .returned (.tuple #[.int .i64 0, .int .i64 2]) ∧ Below w.heap.size w w' := by
  obtain ⟨W1, hW1⟩ : ∃ W, w.alloc (.cells #[.int .i64 l.bo, .int .i64 l.jr, .int .i64 l.jl, .int .i64 l.le, .int .i64 l.ll, .int .i64 l.bi, .int .i64 l.bl, .int .i64 l.ta, .int .i64 l.tl, .int .i64 l.dt, .int .i64 l.dl, .int .i64 l.to, .int .i64 l.sh.cl, .int .i64 l.sh.wi, .int .i64 l.sh.pl, .int .i64 l.sh.ca, .int .i64 l.sh.ino, .int .i64 l.sh.qu, .int .i64 l.sh.da, .int .i64 l.sh.jo] 29) = W := ⟨_, rfl⟩
  have s1 : W1.heap.size = w.heap.size + 1 := by rw [← hW1]; simp
  have b1 : Below w.heap.size w W1 := by rw [← hW1]; exact (Below.refl _ w).alloc (Nat.le_refl _) _
  have L1 : W1.heap[w.heap.size]? = some (.cells #[.int .i64 l.bo, .int .i64 l.jr, .int .i64 l.jl, .int .i64 l.le, .int .i64 l.ll, .int .i64 l.bi, .int .i64 l.bl, .int .i64 l.ta, .int .i64 l.tl, .int .i64 l.dt, .int .i64 l.dl, .int .i64 l.to, .int .i64 l.sh.cl, .int .i64 l.sh.wi, .int .i64 l.sh.pl, .int .i64 l.sh.ca, .int .i64 l.sh.ino, .int .i64 l.sh.qu, .int .i64 l.sh.da, .int .i64 l.sh.jo] 29 (0, 0)) := by rw [← hW1]; exact heap_alloc_last w _
  have hld := LyLoad.row L1 rfl
  have hB1 := hB.later b1 (Nat.le_refl _)
  go_enter Tryz.func12, Tryz.ntmps12
  go_wp2_with fail
  try rw [hW1]
  go_wp2_with fail
  refine (read_sh p l hok hB1).mono ?_
  rintro e w2 ⟨rfl, b2⟩
  have b02 := b1.trans (b2.mono (by omega))
  have hst := BmStore.new none 0 0 0 0 0 0 0 0 0 0 0 0 0 0 0 0 0 0 0 0 none 0 0
  clear hld
  go_wp2_with fail
  refine bodyPost_ret (results_tmp2 rfl _ _ _) rfl ?_
  exact ⟨rfl, by first | exact b02 | exact b02.alloc (by have := b02.size; omega) _⟩
set_option maxHeartbeats 4000000 in
theorem used_sh {w : World} (p : Option Addr) (l : Lay) (hok : lyOk l = false) (hB : Bds w) :
    Calls Tryz.prog 15 #[.pointer p, lyV l] w fun e w' => e = .returned (.tuple #[.int .i64 0, .int .i64 2]) ∧ Below w.heap.size w w' := by
  obtain ⟨W1, hW1⟩ : ∃ W, w.alloc (.cells #[.int .i64 l.bo, .int .i64 l.jr, .int .i64 l.jl, .int .i64 l.le, .int .i64 l.ll, .int .i64 l.bi, .int .i64 l.bl, .int .i64 l.ta, .int .i64 l.tl, .int .i64 l.dt, .int .i64 l.dl, .int .i64 l.to, .int .i64 l.sh.cl, .int .i64 l.sh.wi, .int .i64 l.sh.pl, .int .i64 l.sh.ca, .int .i64 l.sh.ino, .int .i64 l.sh.qu, .int .i64 l.sh.da, .int .i64 l.sh.jo] 29) = W := ⟨_, rfl⟩
  have s1 : W1.heap.size = w.heap.size + 1 := by rw [← hW1]; simp
  have b1 : Below w.heap.size w W1 := by rw [← hW1]; exact (Below.refl _ w).alloc (Nat.le_refl _) _
  have L1 : W1.heap[w.heap.size]? = some (.cells #[.int .i64 l.bo, .int .i64 l.jr, .int .i64 l.jl, .int .i64 l.le, .int .i64 l.ll, .int .i64 l.bi, .int .i64 l.bl, .int .i64 l.ta, .int .i64 l.tl, .int .i64 l.dt, .int .i64 l.dl, .int .i64 l.to, .int .i64 l.sh.cl, .int .i64 l.sh.wi, .int .i64 l.sh.pl, .int .i64 l.sh.ca, .int .i64 l.sh.ino, .int .i64 l.sh.qu, .int .i64 l.sh.da, .int .i64 l.sh.jo] 29 (0, 0)) := by rw [← hW1]; exact heap_alloc_last w _
  have hld := LyLoad.row L1 rfl
  have hB1 := hB.later b1 (Nat.le_refl _)
  go_enter Tryz.func15, Tryz.ntmps15
  go_wp2_with fail
  try rw [hW1]
  go_wp2_with fail
  refine (read_sh p l hok hB1).mono ?_
  rintro e w2 ⟨rfl, b2⟩
  have b02 := b1.trans (b2.mono (by omega))
  have hst := BmStore.new none 0 0 0 0 0 0 0 0 0 0 0 0 0 0 0 0 0 0 0 0 none 0 0
  clear hld
  go_wp2_with fail
  refine bodyPost_ret (results_tmp2 rfl _ _ _) rfl ?_
  exact ⟨rfl, by first | exact b02 | exact b02.alloc (by have := b02.size; omega) _⟩
set_option maxHeartbeats 4000000 in
theorem free_sh {w : World} (p : Option Addr) (l : Lay) (hok : lyOk l = false) (hB : Bds w) (b : Int) :
    Calls Tryz.prog 14 #[.pointer p, lyV l, .int .i64 b] w fun e w' => e = .returned (.int .i64 2) ∧ Below w.heap.size w w' := by
  obtain ⟨W1, hW1⟩ : ∃ W, w.alloc (.cells #[.int .i64 l.bo, .int .i64 l.jr, .int .i64 l.jl, .int .i64 l.le, .int .i64 l.ll, .int .i64 l.bi, .int .i64 l.bl, .int .i64 l.ta, .int .i64 l.tl, .int .i64 l.dt, .int .i64 l.dl, .int .i64 l.to, .int .i64 l.sh.cl, .int .i64 l.sh.wi, .int .i64 l.sh.pl, .int .i64 l.sh.ca, .int .i64 l.sh.ino, .int .i64 l.sh.qu, .int .i64 l.sh.da, .int .i64 l.sh.jo] 29) = W := ⟨_, rfl⟩
  have s1 : W1.heap.size = w.heap.size + 1 := by rw [← hW1]; simp
  have b1 : Below w.heap.size w W1 := by rw [← hW1]; exact (Below.refl _ w).alloc (Nat.le_refl _) _
  have L1 : W1.heap[w.heap.size]? = some (.cells #[.int .i64 l.bo, .int .i64 l.jr, .int .i64 l.jl, .int .i64 l.le, .int .i64 l.ll, .int .i64 l.bi, .int .i64 l.bl, .int .i64 l.ta, .int .i64 l.tl, .int .i64 l.dt, .int .i64 l.dl, .int .i64 l.to, .int .i64 l.sh.cl, .int .i64 l.sh.wi, .int .i64 l.sh.pl, .int .i64 l.sh.ca, .int .i64 l.sh.ino, .int .i64 l.sh.qu, .int .i64 l.sh.da, .int .i64 l.sh.jo] 29 (0, 0)) := by rw [← hW1]; exact heap_alloc_last w _
  have hld := LyLoad.row L1 rfl
  have hB1 := hB.later b1 (Nat.le_refl _)
  go_enter Tryz.func14, Tryz.ntmps14
  go_wp2_with fail
  try rw [hW1]
  go_wp2_with fail
  refine (readFor_sh p l hok hB1 b).mono ?_
  rintro e w2 ⟨rfl, b2⟩
  have b02 := b1.trans (b2.mono (by omega))
  clear hld
  go_wp2_with fail
  go_ret
  exact ⟨rfl, b02.alloc (by have := b02.size; omega) _⟩
set_option maxHeartbeats 4000000 in
theorem has_sh {w : World} (p : Option Addr) (l : Lay) (hok : lyOk l = false) (hB : Bds w) (b : Int) :
    Calls Tryz.prog 21 #[.pointer p, lyV l, .int .i64 b] w fun e w' => e = .returned (.tuple #[.bool false, .int .i64 2]) ∧ Below w.heap.size w w' := by
  obtain ⟨W1, hW1⟩ : ∃ W, w.alloc (.cells #[.int .i64 l.bo, .int .i64 l.jr, .int .i64 l.jl, .int .i64 l.le, .int .i64 l.ll, .int .i64 l.bi, .int .i64 l.bl, .int .i64 l.ta, .int .i64 l.tl, .int .i64 l.dt, .int .i64 l.dl, .int .i64 l.to, .int .i64 l.sh.cl, .int .i64 l.sh.wi, .int .i64 l.sh.pl, .int .i64 l.sh.ca, .int .i64 l.sh.ino, .int .i64 l.sh.qu, .int .i64 l.sh.da, .int .i64 l.sh.jo] 29) = W := ⟨_, rfl⟩
  have s1 : W1.heap.size = w.heap.size + 1 := by rw [← hW1]; simp
  have b1 : Below w.heap.size w W1 := by rw [← hW1]; exact (Below.refl _ w).alloc (Nat.le_refl _) _
  have L1 : W1.heap[w.heap.size]? = some (.cells #[.int .i64 l.bo, .int .i64 l.jr, .int .i64 l.jl, .int .i64 l.le, .int .i64 l.ll, .int .i64 l.bi, .int .i64 l.bl, .int .i64 l.ta, .int .i64 l.tl, .int .i64 l.dt, .int .i64 l.dl, .int .i64 l.to, .int .i64 l.sh.cl, .int .i64 l.sh.wi, .int .i64 l.sh.pl, .int .i64 l.sh.ca, .int .i64 l.sh.ino, .int .i64 l.sh.qu, .int .i64 l.sh.da, .int .i64 l.sh.jo] 29 (0, 0)) := by rw [← hW1]; exact heap_alloc_last w _
  have hld := LyLoad.row L1 rfl
  have hB1 := hB.later b1 (Nat.le_refl _)
  go_enter Tryz.func21, Tryz.ntmps21
  go_wp2_with fail
  try rw [hW1]
  go_wp2_with fail
  refine (readFor_sh p l hok hB1 b).mono ?_
  rintro e w2 ⟨rfl, b2⟩
  have b02 := b1.trans (b2.mono (by omega))
  clear hld
  go_wp2_with fail
  refine bodyPost_ret (results_tmp2 rfl _ _ _) rfl ?_
  exact ⟨rfl, b02.alloc (by have := b02.size; omega) _⟩
end Go.Proofs.YtfmcbjlagdanjaaGreatDoor

/- What a world gives in numbers; a layout in a block. -/
namespace Go.Proofs.YtfmcbjlagdanjaaGreatDoor
open Go.RowKit Go.Maps
set_option maxRecDepth 100000

theorem Wd.ldE {w0 w : World} {wb : Nat} {c : Tc} {D : Nat} (h : Wd w0 w wb c D) (o : Oper) (a : Act) (next : Act → World → Prop) (Q : Exit → Act → World → Prop) :
    LyLoad (.pointer (some ⟨wb, 0, none⟩)) o a w next Q = next (a.put o.dst (.agg #[.int .i64 1, .int .i64 2, .int .i64 27, .int .i64 29, .int .i64 4, .int .i64 33, .int .i64 1, .int .i64 34, .int .i64 1, .int .i64 35, .int .i64 D, .int .i64 (35 + D : Nat), .int .i64 1, .int .i64 1, .int .i64 1, .int .i64 1, .int .i64 2, .int .i64 0, .int .i64 D, .int .i64 27])) w := h.ld o a next Q
theorem lyEx_row {w : World} {b : Nat} {cs : Array Value} (h : w.heap[b]? = some (.cells cs 29 (0, 0))) (hs : cs.size = 20 := by rfl) : (LyEx (.pointer (some ⟨b, 0, none⟩))).run Tryz.prog w = .ok (.value (.agg cs)) w := by
  unfold LyEx
  simp only [Sem.run_bind, ld_row w b cs hs h, Result.andThen_ok, Sem.run_pure]
theorem not_ok {l : Lay} (h : ¬ (planE l.sh = 0 ∧ l = planL l.sh)) : lyOk l = false := by
  unfold lyOk
  by_cases e : planE l.sh = 0
  · rw [decide_eq_true e, show lyEq (planL l.sh) l = false from decide_eq_false (fun q => h ⟨e, q.symm⟩)]
    rfl
  · rw [decide_eq_false e]
    rfl
end Go.Proofs.YtfmcbjlagdanjaaGreatDoor

/- A shape laid into a box in one step. -/
namespace Go.Proofs.YtfmcbjlagdanjaaGreatDoor
open Go.RowKit
set_option maxRecDepth 100000

theorem sh_size : (Tryz.prog.info? 27).map (·.size) = some 8 := by kernel_rfl
/-- A shape's store, its operands evaluated. -/
def ShStore (p v : Value) (o : Oper) (a : Act) (w : World) (next : Act → World → Prop) (Q : Exit → Act → World → Prop) : Prop :=
  Oper.wp Tryz.prog { o with op := .store 27 (.const p) (.const v) } a w next Q
theorem sh_store (d : Option Tmp) (x y : Operand) (t : TypeId) (p : String) (f : Array Edge) (g : Option (Nat × Bool)) (a : Act) (w : World) (next : Act → World → Prop) (Q : Exit → Act → World → Prop) :
    Oper.wp Tryz.prog ⟨d, .store 27 x y, t, p, f, g⟩ a w next Q = ShStore (a.eval x) (a.eval y) ⟨d, .assign x, t, p, f, g⟩ a w next Q := rfl
theorem ShStore.row {w : World} {b : Nat} {cs : Array Value} (h : w.heap[b]? = some (.cells cs 27 (0, 0))) (hs : cs.size = 8) (x0 x1 x2 x3 x4 x5 x6 x7 : Int) (o : Oper) (a : Act) (next : Act → World → Prop) (Q : Exit → Act → World → Prop) :
    ShStore (.pointer (some ⟨b, 0, none⟩)) (.agg #[.int .i64 x0, .int .i64 x1, .int .i64 x2, .int .i64 x3, .int .i64 x4, .int .i64 x5, .int .i64 x6, .int .i64 x7]) o a w next Q = next (a.put o.dst undef) (w.setRow b #[.int .i64 x0, .int .i64 x1, .int .i64 x2, .int .i64 x3, .int .i64 x4, .int .i64 x5, .int .i64 x6, .int .i64 x7]) := by
  have e : (Instr.storeAt 27 (.pointer (some ⟨b, 0, none⟩)) (.agg #[.int .i64 x0, .int .i64 x1, .int .i64 x2, .int .i64 x3, .int .i64 x4, .int .i64 x5, .int .i64 x6, .int .i64 x7])).run Tryz.prog w = .ok () (w.setRow b #[.int .i64 x0, .int .i64 x1, .int .i64 x2, .int .i64 x3, .int .i64 x4, .int .i64 x5, .int .i64 x6, .int .i64 x7]) := by
    simp only [Instr.storeAt, Instr.sureAddr, Sem.run_bind, Sem.run_pure, Result.andThen]
    exact run_storeVar_row w b 27 27 cs #[.int .i64 x0, .int .i64 x1, .int .i64 x2, .int .i64 x3, .int .i64 x4, .int .i64 x5, .int .i64 x6, .int .i64 x7] h sh_size hs (by simp [Value.oneCell'])
  unfold ShStore Oper.wp execOp
  simp only [Act.eval, Sem.run_bind, e, Result.andThen_ok, Sem.run_pure]
  rfl
theorem ShStore.new (x0 x1 x2 x3 x4 x5 x6 x7 : Int) (o : Oper) (a : Act) (w : World) (next : Act → World → Prop) (Q : Exit → Act → World → Prop) :
    ShStore (.pointer (some ⟨w.heap.size, 0, none⟩)) (.agg #[.int .i64 x0, .int .i64 x1, .int .i64 x2, .int .i64 x3, .int .i64 x4, .int .i64 x5, .int .i64 x6, .int .i64 x7]) o a (w.alloc (.cells #[.int .i64 0, .int .i64 0, .int .i64 0, .int .i64 0, .int .i64 0, .int .i64 0, .int .i64 0, .int .i64 0] 27)) next Q = next (a.put o.dst undef) (w.alloc (.cells #[.int .i64 x0, .int .i64 x1, .int .i64 x2, .int .i64 x3, .int .i64 x4, .int .i64 x5, .int .i64 x6, .int .i64 x7] 27)) := by
  rw [ShStore.row (heap_alloc_last w _) rfl, World.setRow_alloc_new]
end Go.Proofs.YtfmcbjlagdanjaaGreatDoor
