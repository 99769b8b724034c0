/- Free, Has by their contracts. -/
import Derived.Test.YtfmcbjlagdanjaaGreatDoorPk11
import Derived.Test.YtfmcbjlagdanjaaGreatDoorPk09
namespace Go.Proofs.YtfmcbjlagdanjaaGreatDoor
open Go.RowKit Go.Maps
set_option maxRecDepth 100000

attribute [local go_sem ↓ 100000] ly_store ly_load bm_store bm_load
attribute [local go_sem] LyStore.new LyStore.drew LyLoad.new LyLoad.drew BmStore.new
set_option maxHeartbeats 4000000 in
theorem free_end {w : World} {tb : Nat} {c : Tc} {l : Lay} {D dt : Nat} (h : Td w tb) (HL : LyFit l c D dt) (hB : Bds w) (b : Int) (hb1 : (dt : Int) ≤ b) (hb2 : b < dt + D) :
    Calls Tryz.prog 14 #[.pointer (some ⟨tb, 0, none⟩), lyV l, .int .i64 b] w fun e w' => e = .returned (.int .i64 76) ∧ Below w.heap.size w w' := by
  obtain ⟨W1, hW1⟩ : ∃ W, w.alloc (.cells #[.int .i64 l.bo, .int .i64 l.jr, .int .i64 l.jl, .int .i64 l.le, .int .i64 l.ll, .int .i64 l.bi, .int .i64 l.bl, .int .i64 l.ta, .int .i64 l.tl, .int .i64 l.dt, .int .i64 l.dl, .int .i64 l.to, .int .i64 l.sh.cl, .int .i64 l.sh.wi, .int .i64 l.sh.pl, .int .i64 l.sh.ca, .int .i64 l.sh.ino, .int .i64 l.sh.qu, .int .i64 l.sh.da, .int .i64 l.sh.jo] 29) = W := ⟨_, rfl⟩
  have s1 : W1.heap.size = w.heap.size + 1 := by rw [← hW1]; simp
  have b1 : Below w.heap.size w W1 := by rw [← hW1]; exact (Below.refl _ w).alloc (Nat.le_refl _) _
  have L1 : W1.heap[w.heap.size]? = some (.cells #[.int .i64 l.bo, .int .i64 l.jr, .int .i64 l.jl, .int .i64 l.le, .int .i64 l.ll, .int .i64 l.bi, .int .i64 l.bl, .int .i64 l.ta, .int .i64 l.tl, .int .i64 l.dt, .int .i64 l.dl, .int .i64 l.to, .int .i64 l.sh.cl, .int .i64 l.sh.wi, .int .i64 l.sh.pl, .int .i64 l.sh.ca, .int .i64 l.sh.ino, .int .i64 l.sh.qu, .int .i64 l.sh.da, .int .i64 l.sh.jo] 29 (0, 0)) := by rw [← hW1]; exact heap_alloc_last w _
  have hld := LyLoad.row L1 rfl
  have hB1 := hB.later b1 (Nat.le_refl _)
  have h1 : Td W1 tb := (b1.block tb (heap_lt h)).trans h
  go_enter Tryz.func14, Tryz.ntmps14
  go_wp2_with fail
  try rw [hW1]
  go_wp2_with fail
  refine (readFor_end h1 HL hB1 b hb1 hb2).mono ?_
  rintro e w2 ⟨v, rfl, b2⟩
  have b02 := b1.trans (b2.mono (by omega))
  clear hld
  go_wp2_with fail
  go_ret
  exact ⟨rfl, b02.alloc (by have := b02.size; omega) _⟩
set_option maxHeartbeats 4000000 in
theorem free_no {w : World} {tb : Nat} {c : Tc} {l : Lay} {D dt : Nat} (HL : LyFit l c D dt) (hB : Bds w) (b : Int) (hb : b < dt ∨ (dt : Int) + D ≤ b) :
    Calls Tryz.prog 14 #[.pointer (some ⟨tb, 0, none⟩), lyV l, .int .i64 b] w fun e w' => e = .returned (.int .i64 82) ∧ Below w.heap.size w w' := by
  obtain ⟨W1, hW1⟩ : ∃ W, w.alloc (.cells #[.int .i64 l.bo, .int .i64 l.jr, .int .i64 l.jl, .int .i64 l.le, .int .i64 l.ll, .int .i64 l.bi, .int .i64 l.bl, .int .i64 l.ta, .int .i64 l.tl, .int .i64 l.dt, .int .i64 l.dl, .int .i64 l.to, .int .i64 l.sh.cl, .int .i64 l.sh.wi, .int .i64 l.sh.pl, .int .i64 l.sh.ca, .int .i64 l.sh.ino, .int .i64 l.sh.qu, .int .i64 l.sh.da, .int .i64 l.sh.jo] 29) = W := ⟨_, rfl⟩
  have s1 : W1.heap.size = w.heap.size + 1 := by rw [← hW1]; simp
  have b1 : Below w.heap.size w W1 := by rw [← hW1]; exact (Below.refl _ w).alloc (Nat.le_refl _) _
  have L1 : W1.heap[w.heap.size]? = some (.cells #[.int .i64 l.bo, .int .i64 l.jr, .int .i64 l.jl, .int .i64 l.le, .int .i64 l.ll, .int .i64 l.bi, .int .i64 l.bl, .int .i64 l.ta, .int .i64 l.tl, .int .i64 l.dt, .int .i64 l.dl, .int .i64 l.to, .int .i64 l.sh.cl, .int .i64 l.sh.wi, .int .i64 l.sh.pl, .int .i64 l.sh.ca, .int .i64 l.sh.ino, .int .i64 l.sh.qu, .int .i64 l.sh.da, .int .i64 l.sh.jo] 29 (0, 0)) := by rw [← hW1]; exact heap_alloc_last w _
  have hld := LyLoad.row L1 rfl
  have hB1 := hB.later b1 (Nat.le_refl _)
  go_enter Tryz.func14, Tryz.ntmps14
  go_wp2_with fail
  try rw [hW1]
  go_wp2_with fail
  refine (readFor_no HL hB1 b hb).mono ?_
  rintro e w2 ⟨rfl, b2⟩
  have b02 := b1.trans (b2.mono (by omega))
  clear hld
  go_wp2_with fail
  go_ret
  exact ⟨rfl, b02.alloc (by have := b02.size; omega) _⟩
set_option maxHeartbeats 4000000 in
theorem free_ok {w : World} {c : Tc} {n0 : Nat} {m : List (Nat × Nat)} {bs : List Int} {l : Lay} {D dt : Nat} (h : Ts w c n0 m bs) (HL : LyFit l c D dt) (hB : Bds w) (i : Nat) (hi : i < D) (hu : bitB bs i = true) (hn0 : n0 ≤ 1000000) :
    Calls Tryz.prog 14 #[.pointer (some ⟨c.tb, 0, none⟩), lyV l, .int .i64 ((dt : Int) + i)] w fun e w' => ∃ g', e = .returned (.int .i64 0) ∧ Ts w' c (n0 + 1) [(c.b, g')] (flipB bs i) ∧ Turns (fun i => c.G i ∨ i = c.wm) w w' := by
  have HU : Hid (bitB bs i = true) := hu
  have hdm := HL.dm
  clear hu
  obtain ⟨W1, hW1⟩ : ∃ W, w.alloc (.cells #[.int .i64 l.bo, .int .i64 l.jr, .int .i64 l.jl, .int .i64 l.le, .int .i64 l.ll, .int .i64 l.bi, .int .i64 l.bl, .int .i64 l.ta, .int .i64 l.tl, .int .i64 l.dt, .int .i64 l.dl, .int .i64 l.to, .int .i64 l.sh.cl, .int .i64 l.sh.wi, .int .i64 l.sh.pl, .int .i64 l.sh.ca, .int .i64 l.sh.ino, .int .i64 l.sh.qu, .int .i64 l.sh.da, .int .i64 l.sh.jo] 29) = W := ⟨_, rfl⟩
  have s1 : W1.heap.size = w.heap.size + 1 := by rw [← hW1]; simp
  have b1 : Below w.heap.size w W1 := by rw [← hW1]; exact (Below.refl _ w).alloc (Nat.le_refl _) _
  have L1 : W1.heap[w.heap.size]? = some (.cells #[.int .i64 l.bo, .int .i64 l.jr, .int .i64 l.jl, .int .i64 l.le, .int .i64 l.ll, .int .i64 l.bi, .int .i64 l.bl, .int .i64 l.ta, .int .i64 l.tl, .int .i64 l.dt, .int .i64 l.dl, .int .i64 l.to, .int .i64 l.sh.cl, .int .i64 l.sh.wi, .int .i64 l.sh.pl, .int .i64 l.sh.ca, .int .i64 l.sh.ino, .int .i64 l.sh.qu, .int .i64 l.sh.da, .int .i64 l.sh.jo] 29 (0, 0)) := by rw [← hW1]; exact heap_alloc_last w _
  have hld := LyLoad.row L1 rfl
  have hB1 := hB.later b1 (Nat.le_refl _)
  have h1 := h.below b1
  have hF0 := h.dev.lt
  go_enter Tryz.func14, Tryz.ntmps14
  go_wp2_with fail
  try rw [hW1]
  go_wp2_with fail
  refine (readFor_ok h1 HL hB1 i hi).mono ?_
  rintro e w2 ⟨g, cp, tl, rfl, hcp, hgw, hg, T2, t2⟩
  have t02 : Turns c.G w w2 := (Below.turns b1 c.G).trans t2 (fun _ _ h => h)
  have s2 := t2.size
  clear hld
  obtain ⟨W3, hW3⟩ : ∃ W, w2.alloc (.cells #[.pointer none, .int .i64 0, .int .i64 0, .int .i64 0, .int .i64 0, .int .i64 0, .int .i64 0, .int .i64 0, .int .i64 0, .int .i64 0, .int .i64 0, .int .i64 0, .int .i64 0, .int .i64 0, .int .i64 0, .int .i64 0, .int .i64 0, .int .i64 0, .int .i64 0, .int .i64 0, .int .i64 0, .slice none 0 0] 96) = W := ⟨_, rfl⟩
  obtain ⟨W4, hW4⟩ : ∃ W, w2.alloc (.cells (bmA (some ⟨c.tb, 0, none⟩) l (some ⟨g, 0, none⟩) 512 cp) 96) = W := ⟨_, rfl⟩
  have hst := fun o a next Q => BmStore.new (some ⟨c.tb, 0, none⟩) l.bo l.jr l.jl l.le l.ll l.bi l.bl l.ta l.tl l.dt l.dl l.to l.sh.cl l.sh.wi l.sh.pl l.sh.ca l.sh.ino l.sh.qu l.sh.da l.sh.jo (some ⟨g, 0, none⟩) 512 cp o a w2 next Q
  rw [hW3, hW4] at hst
  have b4 : Below w2.heap.size w2 W4 := by rw [← hW4]; exact (Below.refl _ w2).alloc (Nat.le_refl _) _
  have s4 : W4.heap.size = w2.heap.size + 1 := by rw [← hW4]; simp
  have M4 : W4.heap[w2.heap.size]? = some (.cells (bmA (some ⟨c.tb, 0, none⟩) l (some ⟨g, 0, none⟩) 512 cp) 96 (0, 0)) := by rw [← hW4]; exact heap_alloc_last w2 _
  have hg4 := (b4.block _ (heap_lt hg)).trans hg
  have T4 := T2.below b4
  have t04 : Turns c.G w W4 := t02.trans (Below.turns b4 c.G) (fun _ _ h => h)
  obtain ⟨B4, hB4⟩ : ∃ B, w2.heap.size = B := ⟨_, rfl⟩
  have hld := BmLoad.row M4 rfl
  rw [hB4] at hst M4 hld
  clear hW4 L1
  go_wp2_with fail
  try rw [hW3]
  go_wp2_with fail
  have hx := bhas_any (some ⟨c.tb, 0, none⟩) l g 512 cp bs tl W4 hg4 h.len h.byt i (by omega) (by omega)
  rw [HU.out] at hx
  refine hx.mono ?_
  rintro e w5 ⟨rfl, b5⟩
  have M5 := (b5.block _ (heap_lt M4)).trans M4
  have hg5 := (b5.block _ (heap_lt hg4)).trans hg4
  have T5 := T4.below b5
  have s5 := b5.size
  have t05 : Turns c.G w w5 := t04.trans (Below.turns b5 c.G) (fun _ _ h => h)
  have hml := h.mp.lt
  have htl := heap_lt h.tx
  have hjl := heap_lt h.jour
  clear hld hx
  have hld := BmLoad.row M5 rfl
  go_wp2_with fail
  refine (turn_ok T5.dev T5.jour T5.tx T5.mp T5.jG T5.tG T5.mG T5.tm T5.off T5.reg l c.b HL.lb T5.bk T5.out T5.room hn0 g cp bs tl hg5 h.len hcp h.byt (fun hh => by have := hF0 _ hh; omega) (by omega) (by omega) (by omega) i (by omega)).mono ?_
  rintro e w6 ⟨g', rfl, hg', k6, M6, D6, t6⟩
  have t06 : Turns (fun i => c.G i ∨ i = c.wm) w w6 := (t05.mono (fun _ _ h => Or.inl h)).trans t6 (fun i hi q => q.elim Or.inl (fun q => q.elim Or.inr (fun q => by omega)))
  have hT6 := h.wrote (by omega) k6 M6 D6 t06 (by rw [flipB_length]; exact h.len) (flipB_bytes h.byt i (by rw [h.len]; omega))
  clear hld t6
  go_wp2_with fail
  go_ret
  exact ⟨g', rfl, hT6, t06⟩
set_option maxHeartbeats 4000000 in
theorem free_un {w : World} {c : Tc} {n0 : Nat} {m : List (Nat × Nat)} {bs : List Int} {l : Lay} {D dt : Nat} (h : Ts w c n0 m bs) (HL : LyFit l c D dt) (hB : Bds w) (i : Nat) (hi : i < D) (hu : bitB bs i = false) :
    Calls Tryz.prog 14 #[.pointer (some ⟨c.tb, 0, none⟩), lyV l, .int .i64 ((dt : Int) + i)] w fun e w' => e = .returned (.int .i64 83) ∧ Ts w' c n0 m bs ∧ Turns c.G w w' := by
  have HU : Hid (bitB bs i = false) := hu
  have hdm := HL.dm
  clear hu
  obtain ⟨W1, hW1⟩ : ∃ W, w.alloc (.cells #[.int .i64 l.bo, .int .i64 l.jr, .int .i64 l.jl, .int .i64 l.le, .int .i64 l.ll, .int .i64 l.bi, .int .i64 l.bl, .int .i64 l.ta, .int .i64 l.tl, .int .i64 l.dt, .int .i64 l.dl, .int .i64 l.to, .int .i64 l.sh.cl, .int .i64 l.sh.wi, .int .i64 l.sh.pl, .int .i64 l.sh.ca, .int .i64 l.sh.ino, .int .i64 l.sh.qu, .int .i64 l.sh.da, .int .i64 l.sh.jo] 29) = W := ⟨_, rfl⟩
  have s1 : W1.heap.size = w.heap.size + 1 := by rw [← hW1]; simp
  have b1 : Below w.heap.size w W1 := by rw [← hW1]; exact (Below.refl _ w).alloc (Nat.le_refl _) _
  have L1 : W1.heap[w.heap.size]? = some (.cells #[.int .i64 l.bo, .int .i64 l.jr, .int .i64 l.jl, .int .i64 l.le, .int .i64 l.ll, .int .i64 l.bi, .int .i64 l.bl, .int .i64 l.ta, .int .i64 l.tl, .int .i64 l.dt, .int .i64 l.dl, .int .i64 l.to, .int .i64 l.sh.cl, .int .i64 l.sh.wi, .int .i64 l.sh.pl, .int .i64 l.sh.ca, .int .i64 l.sh.ino, .int .i64 l.sh.qu, .int .i64 l.sh.da, .int .i64 l.sh.jo] 29 (0, 0)) := by rw [← hW1]; exact heap_alloc_last w _
  have hld := LyLoad.row L1 rfl
  have hB1 := hB.later b1 (Nat.le_refl _)
  have h1 := h.below b1
  have hF0 := h.dev.lt
  go_enter Tryz.func14, Tryz.ntmps14
  go_wp2_with fail
  try rw [hW1]
  go_wp2_with fail
  refine (readFor_ok h1 HL hB1 i hi).mono ?_
  rintro e w2 ⟨g, cp, tl, rfl, hcp, hgw, hg, T2, t2⟩
  have t02 : Turns c.G w w2 := (Below.turns b1 c.G).trans t2 (fun _ _ h => h)
  have s2 := t2.size
  clear hld
  obtain ⟨W3, hW3⟩ : ∃ W, w2.alloc (.cells #[.pointer none, .int .i64 0, .int .i64 0, .int .i64 0, .int .i64 0, .int .i64 0, .int .i64 0, .int .i64 0, .int .i64 0, .int .i64 0, .int .i64 0, .int .i64 0, .int .i64 0, .int .i64 0, .int .i64 0, .int .i64 0, .int .i64 0, .int .i64 0, .int .i64 0, .int .i64 0, .int .i64 0, .slice none 0 0] 96) = W := ⟨_, rfl⟩
  obtain ⟨W4, hW4⟩ : ∃ W, w2.alloc (.cells (bmA (some ⟨c.tb, 0, none⟩) l (some ⟨g, 0, none⟩) 512 cp) 96) = W := ⟨_, rfl⟩
  have hst := fun o a next Q => BmStore.new (some ⟨c.tb, 0, none⟩) l.bo l.jr l.jl l.le l.ll l.bi l.bl l.ta l.tl l.dt l.dl l.to l.sh.cl l.sh.wi l.sh.pl l.sh.ca l.sh.ino l.sh.qu l.sh.da l.sh.jo (some ⟨g, 0, none⟩) 512 cp o a w2 next Q
  rw [hW3, hW4] at hst
  have b4 : Below w2.heap.size w2 W4 := by rw [← hW4]; exact (Below.refl _ w2).alloc (Nat.le_refl _) _
  have s4 : W4.heap.size = w2.heap.size + 1 := by rw [← hW4]; simp
  have M4 : W4.heap[w2.heap.size]? = some (.cells (bmA (some ⟨c.tb, 0, none⟩) l (some ⟨g, 0, none⟩) 512 cp) 96 (0, 0)) := by rw [← hW4]; exact heap_alloc_last w2 _
  have hg4 := (b4.block _ (heap_lt hg)).trans hg
  have T4 := T2.below b4
  have t04 : Turns c.G w W4 := t02.trans (Below.turns b4 c.G) (fun _ _ h => h)
  obtain ⟨B4, hB4⟩ : ∃ B, w2.heap.size = B := ⟨_, rfl⟩
  have hld := BmLoad.row M4 rfl
  rw [hB4] at hst M4 hld
  clear hW4 L1
  go_wp2_with fail
  try rw [hW3]
  go_wp2_with fail
  have hx := bhas_any (some ⟨c.tb, 0, none⟩) l g 512 cp bs tl W4 hg4 h.len h.byt i (by omega) (by omega)
  rw [HU.out] at hx
  refine hx.mono ?_
  rintro e w5 ⟨rfl, b5⟩
  clear hld hx
  go_wp2_with fail
  go_ret
  exact ⟨rfl, T4.below b5, t04.trans (Below.turns b5 c.G) (fun _ _ h => h)⟩
end Go.Proofs.YtfmcbjlagdanjaaGreatDoor

/- Has by its contracts. -/
namespace Go.Proofs.YtfmcbjlagdanjaaGreatDoor
open Go.RowKit Go.Maps
set_option maxRecDepth 100000

attribute [local go_sem ↓ 100000] ly_store ly_load bm_store bm_load
attribute [local go_sem] LyStore.new LyStore.drew LyLoad.new LyLoad.drew BmStore.new
set_option maxHeartbeats 4000000 in
theorem has_end {w : World} {tb : Nat} {c : Tc} {l : Lay} {D dt : Nat} (h : Td w tb) (HL : LyFit l c D dt) (hB : Bds w) (b : Int) (hb1 : (dt : Int) ≤ b) (hb2 : b < dt + D) :
    Calls Tryz.prog 21 #[.pointer (some ⟨tb, 0, none⟩), lyV l, .int .i64 b] w fun e w' => e = .returned (.tuple #[.bool false, .int .i64 76]) ∧ Below w.heap.size w w' := by
  obtain ⟨W1, hW1⟩ : ∃ W, w.alloc (.cells #[.int .i64 l.bo, .int .i64 l.jr, .int .i64 l.jl, .int .i64 l.le, .int .i64 l.ll, .int .i64 l.bi, .int .i64 l.bl, .int .i64 l.ta, .int .i64 l.tl, .int .i64 l.dt, .int .i64 l.dl, .int .i64 l.to, .int .i64 l.sh.cl, .int .i64 l.sh.wi, .int .i64 l.sh.pl, .int .i64 l.sh.ca, .int .i64 l.sh.ino, .int .i64 l.sh.qu, .int .i64 l.sh.da, .int .i64 l.sh.jo] 29) = W := ⟨_, rfl⟩
  have s1 : W1.heap.size = w.heap.size + 1 := by rw [← hW1]; simp
  have b1 : Below w.heap.size w W1 := by rw [← hW1]; exact (Below.refl _ w).alloc (Nat.le_refl _) _
  have L1 : W1.heap[w.heap.size]? = some (.cells #[.int .i64 l.bo, .int .i64 l.jr, .int .i64 l.jl, .int .i64 l.le, .int .i64 l.ll, .int .i64 l.bi, .int .i64 l.bl, .int .i64 l.ta, .int .i64 l.tl, .int .i64 l.dt, .int .i64 l.dl, .int .i64 l.to, .int .i64 l.sh.cl, .int .i64 l.sh.wi, .int .i64 l.sh.pl, .int .i64 l.sh.ca, .int .i64 l.sh.ino, .int .i64 l.sh.qu, .int .i64 l.sh.da, .int .i64 l.sh.jo] 29 (0, 0)) := by rw [← hW1]; exact heap_alloc_last w _
  have hld := LyLoad.row L1 rfl
  have hB1 := hB.later b1 (Nat.le_refl _)
  have h1 : Td W1 tb := (b1.block tb (heap_lt h)).trans h
  go_enter Tryz.func21, Tryz.ntmps21
  go_wp2_with fail
  try rw [hW1]
  go_wp2_with fail
  refine (readFor_end h1 HL hB1 b hb1 hb2).mono ?_
  rintro e w2 ⟨v, rfl, b2⟩
  have b02 := b1.trans (b2.mono (by omega))
  clear hld
  go_wp2_with fail
  refine bodyPost_ret (results_tmp2 rfl _ _ _) rfl ?_
  exact ⟨rfl, b02.alloc (by have := b02.size; omega) _⟩
set_option maxHeartbeats 4000000 in
theorem has_no {w : World} {tb : Nat} {c : Tc} {l : Lay} {D dt : Nat} (HL : LyFit l c D dt) (hB : Bds w) (b : Int) (hb : b < dt ∨ (dt : Int) + D ≤ b) :
    Calls Tryz.prog 21 #[.pointer (some ⟨tb, 0, none⟩), lyV l, .int .i64 b] w fun e w' => e = .returned (.tuple #[.bool false, .int .i64 82]) ∧ Below w.heap.size w w' := by
  obtain ⟨W1, hW1⟩ : ∃ W, w.alloc (.cells #[.int .i64 l.bo, .int .i64 l.jr, .int .i64 l.jl, .int .i64 l.le, .int .i64 l.ll, .int .i64 l.bi, .int .i64 l.bl, .int .i64 l.ta, .int .i64 l.tl, .int .i64 l.dt, .int .i64 l.dl, .int .i64 l.to, .int .i64 l.sh.cl, .int .i64 l.sh.wi, .int .i64 l.sh.pl, .int .i64 l.sh.ca, .int .i64 l.sh.ino, .int .i64 l.sh.qu, .int .i64 l.sh.da, .int .i64 l.sh.jo] 29) = W := ⟨_, rfl⟩
  have s1 : W1.heap.size = w.heap.size + 1 := by rw [← hW1]; simp
  have b1 : Below w.heap.size w W1 := by rw [← hW1]; exact (Below.refl _ w).alloc (Nat.le_refl _) _
  have L1 : W1.heap[w.heap.size]? = some (.cells #[.int .i64 l.bo, .int .i64 l.jr, .int .i64 l.jl, .int .i64 l.le, .int .i64 l.ll, .int .i64 l.bi, .int .i64 l.bl, .int .i64 l.ta, .int .i64 l.tl, .int .i64 l.dt, .int .i64 l.dl, .int .i64 l.to, .int .i64 l.sh.cl, .int .i64 l.sh.wi, .int .i64 l.sh.pl, .int .i64 l.sh.ca, .int .i64 l.sh.ino, .int .i64 l.sh.qu, .int .i64 l.sh.da, .int .i64 l.sh.jo] 29 (0, 0)) := by rw [← hW1]; exact heap_alloc_last w _
  have hld := LyLoad.row L1 rfl
  have hB1 := hB.later b1 (Nat.le_refl _)
  go_enter Tryz.func21, Tryz.ntmps21
  go_wp2_with fail
  try rw [hW1]
  go_wp2_with fail
  refine (readFor_no HL hB1 b hb).mono ?_
  rintro e w2 ⟨rfl, b2⟩
  have b02 := b1.trans (b2.mono (by omega))
  clear hld
  go_wp2_with fail
  refine bodyPost_ret (results_tmp2 rfl _ _ _) rfl ?_
  exact ⟨rfl, b02.alloc (by have := b02.size; omega) _⟩
set_option maxHeartbeats 4000000 in
theorem has_ok {w : World} {c : Tc} {n0 : Nat} {m : List (Nat × Nat)} {bs : List Int} {l : Lay} {D dt : Nat} (h : Ts w c n0 m bs) (HL : LyFit l c D dt) (hB : Bds w) (i : Nat) (hi : i < D) :
    Calls Tryz.prog 21 #[.pointer (some ⟨c.tb, 0, none⟩), lyV l, .int .i64 ((dt : Int) + i)] w fun e w' => e = .returned (.tuple #[.bool (bitB bs i), .int .i64 0]) ∧ Ts w' c n0 m bs ∧ Turns c.G w w' := by
  have hdm := HL.dm
  obtain ⟨W1, hW1⟩ : ∃ W, w.alloc (.cells #[.int .i64 l.bo, .int .i64 l.jr, .int .i64 l.jl, .int .i64 l.le, .int .i64 l.ll, .int .i64 l.bi, .int .i64 l.bl, .int .i64 l.ta, .int .i64 l.tl, .int .i64 l.dt, .int .i64 l.dl, .int .i64 l.to, .int .i64 l.sh.cl, .int .i64 l.sh.wi, .int .i64 l.sh.pl, .int .i64 l.sh.ca, .int .i64 l.sh.ino, .int .i64 l.sh.qu, .int .i64 l.sh.da, .int .i64 l.sh.jo] 29) = W := ⟨_, rfl⟩
  have s1 : W1.heap.size = w.heap.size + 1 := by rw [← hW1]; simp
  have b1 : Below w.heap.size w W1 := by rw [← hW1]; exact (Below.refl _ w).alloc (Nat.le_refl _) _
  have L1 : W1.heap[w.heap.size]? = some (.cells #[.int .i64 l.bo, .int .i64 l.jr, .int .i64 l.jl, .int .i64 l.le, .int .i64 l.ll, .int .i64 l.bi, .int .i64 l.bl, .int .i64 l.ta, .int .i64 l.tl, .int .i64 l.dt, .int .i64 l.dl, .int .i64 l.to, .int .i64 l.sh.cl, .int .i64 l.sh.wi, .int .i64 l.sh.pl, .int .i64 l.sh.ca, .int .i64 l.sh.ino, .int .i64 l.sh.qu, .int .i64 l.sh.da, .int .i64 l.sh.jo] 29 (0, 0)) := by rw [← hW1]; exact heap_alloc_last w _
  have hld := LyLoad.row L1 rfl
  have hB1 := hB.later b1 (Nat.le_refl _)
  have h1 := h.below b1
  have hF0 := h.dev.lt
  go_enter Tryz.func21, Tryz.ntmps21
  go_wp2_with fail
  try rw [hW1]
  go_wp2_with fail
  refine (readFor_ok h1 HL hB1 i hi).mono ?_
  rintro e w2 ⟨g, cp, tl, rfl, hcp, hgw, hg, T2, t2⟩
  have t02 : Turns c.G w w2 := (Below.turns b1 c.G).trans t2 (fun _ _ h => h)
  have s2 := t2.size
  clear hld
  obtain ⟨W3, hW3⟩ : ∃ W, w2.alloc (.cells #[.pointer none, .int .i64 0, .int .i64 0, .int .i64 0, .int .i64 0, .int .i64 0, .int .i64 0, .int .i64 0, .int .i64 0, .int .i64 0, .int .i64 0, .int .i64 0, .int .i64 0, .int .i64 0, .int .i64 0, .int .i64 0, .int .i64 0, .int .i64 0, .int .i64 0, .int .i64 0, .int .i64 0, .slice none 0 0] 96) = W := ⟨_, rfl⟩
  obtain ⟨W4, hW4⟩ : ∃ W, w2.alloc (.cells (bmA (some ⟨c.tb, 0, none⟩) l (some ⟨g, 0, none⟩) 512 cp) 96) = W := ⟨_, rfl⟩
  have hst := fun o a next Q => BmStore.new (some ⟨c.tb, 0, none⟩) l.bo l.jr l.jl l.le l.ll l.bi l.bl l.ta l.tl l.dt l.dl l.to l.sh.cl l.sh.wi l.sh.pl l.sh.ca l.sh.ino l.sh.qu l.sh.da l.sh.jo (some ⟨g, 0, none⟩) 512 cp o a w2 next Q
  rw [hW3, hW4] at hst
  have b4 : Below w2.heap.size w2 W4 := by rw [← hW4]; exact (Below.refl _ w2).alloc (Nat.le_refl _) _
  have s4 : W4.heap.size = w2.heap.size + 1 := by rw [← hW4]; simp
  have M4 : W4.heap[w2.heap.size]? = some (.cells (bmA (some ⟨c.tb, 0, none⟩) l (some ⟨g, 0, none⟩) 512 cp) 96 (0, 0)) := by rw [← hW4]; exact heap_alloc_last w2 _
  have hg4 := (b4.block _ (heap_lt hg)).trans hg
  have T4 := T2.below b4
  have t04 : Turns c.G w W4 := t02.trans (Below.turns b4 c.G) (fun _ _ h => h)
  obtain ⟨B4, hB4⟩ : ∃ B, w2.heap.size = B := ⟨_, rfl⟩
  have hld := BmLoad.row M4 rfl
  rw [hB4] at hst M4 hld
  clear hW4 L1
  go_wp2_with fail
  try rw [hW3]
  go_wp2_with fail
  refine (bhas_any (some ⟨c.tb, 0, none⟩) l g 512 cp bs tl W4 hg4 h.len h.byt i (by omega) (by omega)).mono ?_
  rintro e w5 ⟨rfl, b5⟩
  clear hld
  go_wp2_with fail
  refine bodyPost_ret (results_tmp2 rfl _ _ _) rfl ?_
  exact ⟨rfl, T4.below b5, t04.trans (Below.turns b5 c.G) (fun _ _ h => h)⟩
end Go.Proofs.YtfmcbjlagdanjaaGreatDoor

/- Plain mathematics: what is read of a device behind writes and flushes; a head is read back. -/
namespace Go.Proofs.YtfmcbjlagdanjaaGreatDoor
open Go.RowKit
set_option maxRecDepth 100000

/-- A block of a list of bytes. -/
abbrev blk (l : List Int) (b : Nat) : List Int := (l.drop (512 * b)).take 512
theorem blk_at (l : List Int) (b t : Nat) : (blk l b)[t]? = if t < 512 then l[512 * b + t]? else none := by
  rw [List.getElem?_take]
  by_cases h : t < 512
  · rw [if_pos h, if_pos h, List.getElem?_drop]
  · rw [if_neg h, if_neg h]
theorem splice_at (l d : List Int) (o i : Nat) (h : o + d.length ≤ l.length) : (splice l o d)[i]? = if i < o then l[i]? else if i < o + d.length then d[i - o]? else l[i]? := by
  unfold splice
  have e1 : (l.take o).length = o := by simp; omega
  by_cases h1 : i < o
  · rw [if_pos h1, List.getElem?_append_left (by omega), List.getElem?_take, if_pos h1]
  · rw [if_neg h1, List.getElem?_append_right (by omega), e1]
    by_cases h2 : i < o + d.length
    · rw [if_pos h2, List.getElem?_append_left (by omega)]
    · rw [if_neg h2, List.getElem?_append_right (by omega), List.getElem?_drop]
      congr 1
      omega
theorem blk_lay (l : List Int) (k b : Nat) (d : List Int) (x : Nat) (hl : l.length = 512 * k) (hb : b < k) (hd : d.length = 512) : blk (layB l (b, d)) x = if b = x then d else blk l x := by
  apply List.ext_getElem?
  intro t
  rw [blk_at]
  unfold layB
  rw [splice_at _ _ _ _ (by simp only; omega)]
  simp only
  by_cases ht : t < 512
  · rw [if_pos ht]
    by_cases e : b = x
    · subst e
      rw [if_pos rfl, if_neg (by omega), if_pos (by omega)]
      congr 1
      omega
    · rw [if_neg e, blk_at, if_pos ht]
      by_cases h1 : 512 * x + t < 512 * b
      · rw [if_pos h1]
      · rw [if_neg h1, if_neg (by omega)]
  · rw [if_neg ht]
    by_cases e : b = x
    · rw [if_pos e, List.getElem?_eq_none (by omega)]
    · rw [if_neg e, blk_at, if_neg ht]
theorem rdB_wrote (S : DevS) (b : Nat) (d : List Int) (x : Nat) : rdB (wrote S b d) x = if b = x then d else rdB S x := by
  unfold rdB
  have e1 : newest (wrote S b d).pend x = if b = x then some d else newest S.pend x := newest_snoc S.pend b d x
  rw [e1]
  by_cases e : b = x
  · rw [if_pos e, if_pos e]; rfl
  · rw [if_neg e, if_neg e]; rfl
theorem snoc_ind {α : Type} {P : List α → Prop} (h0 : P []) (h1 : ∀ l a, P l → P (l ++ [a])) : ∀ l, P l := fun l => by
  have q : ∀ l : List α, P l.reverse := fun l => by
    induction l with
    | nil => exact h0
    | cons a l ih => rw [List.reverse_cons]; exact h1 _ _ ih
  simpa using q l.reverse
/-- What is read, is what all writes that pend, laid over, leave. -/
theorem blk_layAll (l : List Int) (k : Nat) (hl : l.length = 512 * k) (hy : ∀ x ∈ l, 0 ≤ x ∧ x ≤ 255) (ps : List (Nat × List Int)) (hp : ∀ p ∈ ps, p.1 < k ∧ p.2.length = 512 ∧ ∀ x ∈ p.2, 0 ≤ x ∧ x ≤ 255) (x : Nat) : blk (layAll l ps) x = (newest ps x).getD (blk l x) := by
  induction ps using snoc_ind with
  | h0 => rfl
  | h1 ps p ih =>
    obtain ⟨b, d⟩ := p
    have ih := ih (fun p hm => hp p (List.mem_append_left _ hm))
    have hq := hp (b, d) (by simp)
    have hg := (layAll_good ps l hl hy (fun p hm => hp p (List.mem_append_left _ hm))).1
    have e1 : layAll l (ps ++ [(b, d)]) = layB (layAll l ps) (b, d) := by unfold layAll; rw [List.foldl_append]; rfl
    rw [e1, blk_lay _ k b d x hg hq.1 hq.2.1, newest_snoc, ih]
    by_cases e : b = x
    · rw [if_pos e, if_pos e]; rfl
    · rw [if_neg e, if_neg e]
theorem rdB_flushed {S : DevS} {k : Nat} (h : Good S k) (x : Nat) : rdB (flushed S) x = rdB S x := blk_layAll S.last k h.len h.by_ S.pend h.pend x
theorem fold_val : ∀ (l : List Int) (a : Int), l.foldl (fun x c => x * 256 + c) a = a * 256 ^ l.length + val l
  | [], a => by simp [val]
  | c :: l, a => by
    have h1 := fold_val l (a * 256 + c)
    have h2 := fold_val l (0 * 256 + c)
    simp only [List.foldl_cons, val, List.length_cons] at *
    rw [h1, h2, Int.pow_succ]
    have : (a * 256 + c) * 256 ^ l.length = a * (256 ^ l.length * 256) + (0 * 256 + c) * 256 ^ l.length := by
      rw [Int.add_mul, Int.mul_assoc, Int.mul_comm 256 (256 ^ l.length)]; simp
    omega
theorem val_cons (c : Int) (l : List Int) : val (c :: l) = c * 256 ^ l.length + val l := by
  have := fold_val l (0 * 256 + c)
  simp only [val, List.foldl_cons] at *
  rw [this]; simp

theorem p256 (k : Nat) : (256 : Int) ^ k = 2 ^ (8 * k) := by
  rw [Int.pow_mul]; rfl

theorem be_add (c : Int) (m : Nat) (X : Int) : ∀ k, k ≤ m → be (X + c * 2 ^ (8 * m)) k = be X k
  | 0, _ => rfl
  | k + 1, h => by
    simp only [be]
    rw [be_add c m X k (by omega)]
    congr 1
    have hp : (2 : Int) ^ (8 * k) ≠ 0 := Int.ne_of_gt (Int.pow_pos (by decide))
    have e : c * 2 ^ (8 * m) = (c * 2 ^ (8 * (m - k - 1)) * 256) * 2 ^ (8 * k) := by
      rw [Int.mul_assoc, Int.mul_assoc]
      congr 1
      rw [show (256 : Int) = 2 ^ 8 by rfl, ← Int.pow_add, ← Int.pow_add]
      congr 1
      omega
    rw [e, Int.add_mul_ediv_right _ _ hp, Int.add_mul_emod_self_right]

theorem be_val : ∀ (l : List Int), (∀ x ∈ l, 0 ≤ x ∧ x ≤ 255) → be (val l) l.length = l
  | [], _ => rfl
  | c :: l, h => by
    have hc := h c (by simp)
    have hl : ∀ x ∈ l, 0 ≤ x ∧ x ≤ 255 := fun x hx => h x (by simp [hx])
    have hb := val_bd l hl
    rw [val_cons, p256, List.length_cons, be]
    rw [p256] at hb
    have hp : (2 : Int) ^ (8 * l.length) ≠ 0 := Int.ne_of_gt (Int.pow_pos (by decide))
    congr 1
    · rw [Int.add_comm, Int.add_mul_ediv_right _ _ hp, Int.ediv_eq_zero_of_lt hb.1 hb.2]
      omega
    · rw [Int.add_comm, be_add c l.length (val l) l.length (Nat.le_refl _)]
      exact be_val l hl

theorem be_mod (X : Int) (k : Nat) : be X k = be (X % 2 ^ (8 * k)) k := by
  have h := be_add (X / 2 ^ (8 * k)) k (X % 2 ^ (8 * k)) k (Nat.le_refl _)
  rw [Int.mul_comm, Int.emod_add_mul_ediv] at h
  exact h
theorem val_be : ∀ (k : Nat) (X : Int), 0 ≤ X → X < 2 ^ (8 * k) → val (be X k) = X
  | 0, X, h0, h1 => by simp at h1; simp [be, val]; omega
  | k + 1, X, h0, h1 => by
    have hp : (0 : Int) < 2 ^ (8 * k) := Int.pow_pos (by decide)
    rw [be, val_cons, be_length, p256, be_mod X k, val_be k _ (Int.emod_nonneg _ (Int.ne_of_gt hp)) (Int.emod_lt_of_pos _ hp)]
    have hq0 : 0 ≤ X / 2 ^ (8 * k) := Int.ediv_nonneg h0 (Int.le_of_lt hp)
    have hq1 : X / 2 ^ (8 * k) < 256 := by
      rw [Int.ediv_lt_iff_lt_mul hp]
      rw [show 8 * (k + 1) = 8 * k + 8 by omega, Int.pow_add] at h1
      rw [Int.mul_comm]; exact h1
    rw [Int.emod_eq_of_lt hq0 hq1]
    have := Int.emod_add_mul_ediv X (2 ^ (8 * k))
    rw [Int.mul_comm] at this
    omega



theorem jsum_u (l : List Int) : 0 ≤ jsum l ∧ jsum l ≤ 18446744073709551615 := S2.U.fwd (h := 14695981039346656037) l ⟨by decide, by decide⟩
theorem u64_same (x : Int) (h0 : 0 ≤ x) (h1 : x ≤ 4611686018427387905) : IntKind.u64.wrap x = x := Go.IntWalk.u64_in x ⟨h0, by omega⟩
/-- The twenty bytes of a head behind its mark and zeros. -/
theorem head_cut (seq place : Int) : (((jheadB seq place).drop 8).take 20) = be (IntKind.u64.wrap seq) 8 ++ be (IntKind.u64.wrap place) 4 ++ be (jsum (hdB seq place)) 8 := by
  have h : jheadB seq place = ([65, 78, 88, 72] ++ be 0 4) ++ ((be (IntKind.u64.wrap seq) 8 ++ be (IntKind.u64.wrap place) 4 ++ be (jsum (hdB seq place)) 8) ++ List.replicate 484 0) := by
    unfold jheadB fillB
    rw [List.length_append, hdB_len, be_length]
    simp [hdB]
  rw [h, List.drop_left' (by simp [be_length]), List.take_left' (by simp [be_length])]
theorem head_front (seq place : Int) : (jheadB seq place).take 20 = hdB seq place := by
  unfold jheadB fillB
  rw [List.append_assoc, List.take_left' (hdB_len seq place)]
theorem head_back (seq place : Nat) (places : Int) (h0 : 1 ≤ seq) (h1 : seq ≤ 4611686018427387905) (hp : (place : Int) < places) (hq : places ≤ 4096) : (hdR (jheadB seq place) places).1.1 = seq ∧ (hdR (jheadB seq place) places).2.1.1 = place ∧ hdOk (jheadB seq place) places = true := by
  have hs := jsum_u (hdB seq place)
  have e1 := u64_same (seq : Int) (by omega) (by omega)
  have e2 := u64_same (place : Int) (by omega) (by omega)
  have hc := head_cut seq place
  rw [e1, e2] at hc
  have d1 : ((be (seq : Int) 8 ++ be (place : Int) 4 ++ be (jsum (hdB seq place)) 8).drop 0).take 8 = be (seq : Int) 8 := by
    rw [List.drop_zero, List.append_assoc, List.take_left' (be_length _ _)]
  have d2 : ((be (seq : Int) 8 ++ be (place : Int) 4 ++ be (jsum (hdB seq place)) 8).drop 8).take 4 = be (place : Int) 4 := by
    rw [List.append_assoc, List.drop_left' (be_length _ _), List.take_left' (be_length _ _)]
  have d3 : ((be (seq : Int) 8 ++ be (place : Int) 4 ++ be (jsum (hdB seq place)) 8).drop 12).take 8 = be (jsum (hdB seq place)) 8 := by
    rw [List.drop_left' (by simp [be_length]), List.take_of_length_le (by simp [be_length])]
  have a1 : rdNum 8 20 (be (seq : Int) 8 ++ be (place : Int) 4 ++ be (jsum (hdB seq place)) 8) 0 0 4611686018427387905 = ((seq : Int), 8, 0) := by
    unfold rdNum
    rw [if_neg (by simp), if_neg (by omega), d1, val_be 8 _ (by omega) (Int.lt_of_le_of_lt (show (seq : Int) ≤ 4611686018427387905 by omega) (by decide)), if_neg (by omega)]
  have a2 : rdNum 4 20 (be (seq : Int) 8 ++ be (place : Int) 4 ++ be (jsum (hdB seq place)) 8) 8 0 (places - 1) = ((place : Int), 12, 0) := by
    unfold rdNum
    rw [if_neg (by simp), if_neg (by omega), d2, val_be 4 _ (by omega) (Int.lt_of_le_of_lt (show (place : Int) ≤ 4096 by omega) (by decide)), if_neg (by omega)]
  have a3 : rdSum 20 (be (seq : Int) 8 ++ be (place : Int) 4 ++ be (jsum (hdB seq place)) 8) 12 0 = (jsum (hdB seq place), 20, 0) := by
    unfold rdSum
    rw [if_neg (by simp), if_neg (by omega), d3, val_be 8 _ hs.1 (Int.lt_of_le_of_lt hs.2 (by decide))]
  have hR : hdR (jheadB seq place) places = (((seq : Int), 8, 0), ((place : Int), 12, 0), (jsum (hdB seq place), 20, 0)) := by
    unfold hdR
    simp only [hc, a1, a2, a3]
  refine ⟨by rw [hR], by rw [hR], ?_⟩
  unfold hdOk
  rw [hR, head_front]
  have hb : begs (jheadB seq place) [65, 78, 88, 72] = true := by
    unfold begs
    refine decide_eq_true ?_
    have h : jheadB seq place = [65, 78, 88, 72] ++ ((be 0 4 ++ be (IntKind.u64.wrap seq) 8 ++ be (IntKind.u64.wrap place) 4 ++ be (jsum (hdB seq place)) 8) ++ List.replicate 484 0) := by
      unfold jheadB fillB
      rw [List.length_append, hdB_len, be_length]
      simp [hdB]
    rw [h]
    rfl
  rw [hb]
  simp
  omega
theorem rdB_burnt (S : DevS) (x : Nat) : rdB (burnt S) x = rdB S x := by
  unfold burnt
  split <;> rfl
theorem zB_len : zB.length = 512 := by simp [zB]
theorem Good.zrs {S : DevS} {k st : Nat} (h : Good S k) : ∀ p, st + 1 + p ≤ k → Good (zrs S st p) k
  | 0, _ => h
  | p + 1, hp => (Good.zrs h p (by omega)).burnt.wrote (by omega) zB_len zB_by
theorem rdB_zrs {S : DevS} {st x : Nat} : ∀ p, rdB (zrs S st p) x = if st + 1 ≤ x ∧ x < st + 1 + p then zB else rdB S x
  | 0 => by rw [if_neg (by omega)]; rfl
  | p + 1 => by
    show rdB (wrote (burnt (zrs S st p)) (st + 1 + p) zB) x = _
    rw [rdB_wrote, rdB_burnt, rdB_zrs p]
    by_cases e : st + 1 + p = x
    · rw [if_pos e, if_pos (by omega)]
    · rw [if_neg e]
      by_cases c : st + 1 ≤ x ∧ x < st + 1 + p
      · rw [if_pos c, if_pos (by omega)]
      · rw [if_neg c, if_neg (by omega)]
theorem Good.fmt {S : DevS} {k st sz : Nat} (h : Good S k) (h1 : 1 ≤ sz) (h2 : st + sz ≤ k) : Good (fmtS S st sz) k := by
  have g1 := (Good.zrs (st := st) h (sz - 1) (by omega)).burnt.flushed
  exact (g1.burnt.wrote (by omega) (jheadB_len 1 0) (jheadB_by 1 0)).burnt.flushed
/-- What is read behind Format. -/
theorem rdB_fmt {S : DevS} {k st sz : Nat} (h : Good S k) (h1 : 1 ≤ sz) (h2 : st + sz ≤ k) (x : Nat) : rdB (fmtS S st sz) x = if st = x then jheadB 1 0 else if st + 1 ≤ x ∧ x < st + sz then zB else rdB S x := by
  have g0 := (Good.zrs (st := st) h (sz - 1) (by omega)).burnt
  have g1 := g0.flushed
  have g2 := (g1.burnt.wrote (b := st) (by omega) (jheadB_len 1 0) (jheadB_by 1 0)).burnt
  show rdB (flushed (burnt (wrote (burnt (flushed (burnt (zrs S st (sz - 1))))) st (jheadB 1 0)))) x = _
  rw [rdB_flushed g2, rdB_burnt, rdB_wrote, rdB_burnt, rdB_flushed g0, rdB_burnt, rdB_zrs]
  by_cases e : st = x
  · rw [if_pos e, if_pos e]
  · rw [if_neg e, if_neg e]
    by_cases c : st + 1 ≤ x ∧ x < st + sz
    · rw [if_pos c, if_pos (by omega)]
    · rw [if_neg c, if_neg (by omega)]
theorem zB_begs : begs zB [65, 78, 88, 68] = false := by decide
end Go.Proofs.YtfmcbjlagdanjaaGreatDoor

/- The statements' small shape and its layout; shape, num, Plan of it by their contracts. -/
namespace Go.Proofs.YtfmcbjlagdanjaaGreatDoor
open Go.RowKit Go.Maps
set_option maxRecDepth 100000

/-- The shape with so many data blocks. -/
def shp8 (D : Nat) : Shp := ⟨1, 1, 1, 1, 2, 0, D, 27⟩
/-- Its layout. -/
def lay8 (D : Nat) : Lay := ⟨1, 2, 27, 29, 4, 33, 1, 34, 1, 35, D, 35 + D, shp8 D⟩
theorem plan8_e {D : Nat} (h1 : 8 ≤ D) (h2 : D ≤ 500) : planE (shp8 D) = 0 := by
  have hi : InB (shp8 D) := by constructor <;> simp [shp8] <;> omega
  unfold planE
  rw [if_neg (by simpa using hi), if_neg]
  simp [shp8, leastD, layOf]
  omega
theorem plan8_l {D : Nat} (h1 : 8 ≤ D) (h2 : D ≤ 500) : planL (shp8 D) = lay8 D := by
  unfold planL
  rw [if_pos (plan8_e h1 h2)]
  simp [layOf, shp8, lay8]
theorem lay8_ok {D : Nat} (h1 : 8 ≤ D) (h2 : D ≤ 500) : lyOk (lay8 D) = true := by
  have e1 : planE (lay8 D).sh = 0 := plan8_e h1 h2
  have e2 : planL (lay8 D).sh = lay8 D := plan8_l h1 h2
  unfold lyOk
  rw [e1, e2, show lyEq (lay8 D) (lay8 D) = true from decide_eq_true rfl]
  rfl
theorem num8_any (x : Int) (w : World) : Calls Tryz.prog 13 #[.int .i64 x] w fun e w' => e = .returned (.int .i64 x) ∧ w' = w := by
  go_enter Tryz.func13, Tryz.ntmps13
  go_wp2
  go_ret
  exact ⟨rfl, rfl⟩
theorem shape8_any (D : Nat) (w : World) : Calls Tryz.prog 40 #[.int .i64 D] w fun e w' => e = .returned (shV (shp8 D)) ∧ Below w.heap.size w w' := by
  go_enter Tryz.func40, Tryz.ntmps40
  go_wp2
  refine bodyPost_ret (results_cell_row rfl _ _ w.heap.size 27 _ (0, 0) _ rfl (heap_alloc_new w _) Tryz.underlying27 rfl (by kernel_rfl)) rfl ?_
  exact ⟨rfl, (Below.refl _ w).alloc (Nat.le_refl _) _⟩
/-- May a layout have so many? -/
def fitsB (x : Int) : Bool := decide (8 ≤ x ∧ x ≤ 500)
theorem fits8_any (x : Int) (w : World) : Calls Tryz.prog 10 #[.int .i64 x] w fun e w' => e = .returned (.bool (fitsB x)) ∧ w' = w := by
  by_cases h1 : 8 ≤ x
  · by_cases h2 : x ≤ 500
    · have HE : Hid (fitsB x = true) := decide_eq_true (And.intro h1 h2)
      go_enter Tryz.func10, Tryz.ntmps10
      go_wp2
      go_ret
      exact ⟨by rw [HE.out]; rfl, rfl⟩
    · have HE : Hid (fitsB x = false) := decide_eq_false (fun h => h2 h.2)
      go_enter Tryz.func10, Tryz.ntmps10
      go_wp2
      go_ret
      exact ⟨by rw [HE.out]; rfl, rfl⟩
  · have HE : Hid (fitsB x = false) := decide_eq_false (fun h => h1 h.1)
    go_enter Tryz.func10, Tryz.ntmps10
    go_wp2
    go_ret
    exact ⟨by rw [HE.out]; rfl, rfl⟩
set_option maxHeartbeats 1000000 in
/-- Plan of the small shape. -/
theorem plan8_ok {D K : Nat} (h1 : 8 ≤ D) (h2 : D ≤ 500) (hK : 35 + D = K) (w : World) (hB : Bds w) :
    Calls Tryz.prog 39 #[shV (shp8 D)] w fun e w' => e = .returned (.tuple #[.agg #[.int .i64 1, .int .i64 2, .int .i64 27, .int .i64 29, .int .i64 4, .int .i64 33, .int .i64 1, .int .i64 34, .int .i64 1, .int .i64 35, .int .i64 D, .int .i64 K, .int .i64 1, .int .i64 1, .int .i64 1, .int .i64 1, .int .i64 2, .int .i64 0, .int .i64 D, .int .i64 27], .int .i64 0]) ∧ Below w.heap.size w w' := by
  refine (plan_any (shp8 D) w hB).mono ?_
  rintro e w' ⟨rfl, b⟩
  refine ⟨?_, b⟩
  rw [plan8_l h1 h2, plan8_e h1 h2, ← hK]
  rfl
/-- Every block that can be read. -/
theorem Good.reads {S : DevS} {k : Nat} (h : Good S k) (b : Nat) (hb : b < k) : (rdB S b).length = 512 ∧ ∀ x ∈ rdB S b, 0 ≤ x ∧ x ≤ 255 := by
  unfold rdB
  cases hn : newest S.pend b with
  | none =>
    refine ⟨?_, fun x hx => h.by_ x ?_⟩
    · show ((S.last.drop (512 * b)).take 512).length = 512
      have := h.len
      simp
      omega
    · exact List.mem_of_mem_drop (List.mem_of_mem_take (show x ∈ (S.last.drop (512 * b)).take 512 from hx))
  | some d =>
    unfold newest at hn
    rw [Option.map_eq_some_iff] at hn
    obtain ⟨p, hp, rfl⟩ := hn
    have hm := List.mem_of_find?_eq_some hp
    exact (h.pend p (List.mem_reverse.1 hm)).2
theorem rd_zero8 (k b : Nat) (hb : b < k) : rdB (fresh (List.replicate (512 * k) 0)) b = List.replicate 512 0 := by
  show ((List.replicate (512 * k) (0 : Int)).drop (512 * b)).take 512 = _
  rw [List.drop_replicate, List.take_replicate]
  congr 1
  omega
theorem fmtS_off {S : DevS} {st sz : Nat} (h : Lasts S (sz + 2)) (h1 : 1 ≤ sz) : (fmtS S st sz).off = false :=
  ((((zrs_lasts (st := st) (m := 3) (sz - 1) (h.mono (by omega))).burnt.flushed).burnt.wrote st (jheadB 1 0)).burnt.flushed).on
end Go.Proofs.YtfmcbjlagdanjaaGreatDoor

/- A world of the statements, just begun. -/
namespace Go.Proofs.YtfmcbjlagdanjaaGreatDoor
open Go.RowKit Go.Maps
set_option maxRecDepth 100000

theorem Mp.ne {w : World} {bm n b : Nat} {m : List (Nat × Nat)} {cs : Array Value} {t : TypeId} {fr : Nat × Nat} (h : Mp w bm n m) (hc : w.heap[b]? = some (.cells cs t fr)) : b ≠ bm := by
  rintro rfl
  obtain ⟨es, ck, h1, _⟩ := h.own
  rw [hc] at h1
  cases h1
/-- A world of the statements: its block, its transaction. -/
structure Wd (w0 w : World) (wb : Nat) (c : Tc) (D : Nat) : Prop where
  box : w.heap[wb]? = some (.cells #[.int .i64 1, .int .i64 2, .int .i64 27, .int .i64 29, .int .i64 4, .int .i64 33, .int .i64 1, .int .i64 34, .int .i64 1, .int .i64 35, .int .i64 D, .int .i64 (35 + D : Nat), .int .i64 1, .int .i64 1, .int .i64 1, .int .i64 1, .int .i64 2, .int .i64 0, .int .i64 D, .int .i64 27, .pointer (some ⟨c.d, 0, none⟩), .pointer (some ⟨c.jb, 0, none⟩), .pointer (some ⟨c.tb, 0, none⟩), .slice none 0 0] 35 (0, 0))
  fit : LyFit (lay8 D) c D 35
  new : w0.heap.size ≤ wb
  gnew : ∀ i, c.G i → w0.heap.size ≤ i
  jnew : w0.heap.size ≤ c.jb
  tnew : w0.heap.size ≤ c.tb
  mnew : w0.heap.size ≤ c.wm
  nG : ¬ c.G wb
  nm : wb ≠ c.wm
  nt : wb ≠ c.tb
  nj : wb ≠ c.jb
theorem ly8_cells {w : World} {b D K : Nat} (h : w.heap[b]? = some (.cells #[.int .i64 1, .int .i64 2, .int .i64 27, .int .i64 29, .int .i64 4, .int .i64 33, .int .i64 1, .int .i64 34, .int .i64 1, .int .i64 35, .int .i64 D, .int .i64 K, .int .i64 1, .int .i64 1, .int .i64 1, .int .i64 1, .int .i64 2, .int .i64 0, .int .i64 D, .int .i64 27] 29 (0, 0))) : w.cell? ⟨b, 0, none⟩ = some (.int .i64 1) ∧ w.cell? ⟨b, 1, none⟩ = some (.int .i64 2) ∧ w.cell? ⟨b, 2, none⟩ = some (.int .i64 27) ∧ w.cell? ⟨b, 3, none⟩ = some (.int .i64 29) ∧ w.cell? ⟨b, 4, none⟩ = some (.int .i64 4) ∧ w.cell? ⟨b, 5, none⟩ = some (.int .i64 33) ∧ w.cell? ⟨b, 6, none⟩ = some (.int .i64 1) ∧ w.cell? ⟨b, 7, none⟩ = some (.int .i64 34) ∧ w.cell? ⟨b, 8, none⟩ = some (.int .i64 1) ∧ w.cell? ⟨b, 9, none⟩ = some (.int .i64 35) ∧ w.cell? ⟨b, 10, none⟩ = some (.int .i64 (D : Int)) ∧ w.cell? ⟨b, 11, none⟩ = some (.int .i64 (K : Int)) ∧ w.cell? ⟨b, 12, none⟩ = some (.int .i64 1) ∧ w.cell? ⟨b, 13, none⟩ = some (.int .i64 1) ∧ w.cell? ⟨b, 14, none⟩ = some (.int .i64 1) ∧ w.cell? ⟨b, 15, none⟩ = some (.int .i64 1) ∧ w.cell? ⟨b, 16, none⟩ = some (.int .i64 2) ∧ w.cell? ⟨b, 17, none⟩ = some (.int .i64 0) ∧ w.cell? ⟨b, 18, none⟩ = some (.int .i64 (D : Int)) ∧ w.cell? ⟨b, 19, none⟩ = some (.int .i64 27) := by
  refine ⟨?_, ?_, ?_, ?_, ?_, ?_, ?_, ?_, ?_, ?_, ?_, ?_, ?_, ?_, ?_, ?_, ?_, ?_, ?_, ?_⟩ <;> simp [World.cell?, h]
/-- The device behind Format. -/
theorem fmt8 {K M : Nat} (h1 : 43 ≤ K) (hM : 512 * K = M) (hG : Good (fresh (List.replicate M 0)) K) : ∃ S, fmtS (fresh (List.replicate M 0)) 2 27 = S ∧ S.off = false ∧ zB = rdB S 33 ∧ rdB S 2 = jheadB 1 0 ∧ rdB S (2 + 1 + 0 % (27 - 1)) = zB := by
  refine ⟨_, rfl, fmtS_off (S := fresh (List.replicate M 0)) (st := 2) (sz := 27) ⟨rfl, Or.inl rfl⟩ (by omega), ?_, ?_, ?_⟩
  · rw [rdB_fmt hG (by omega) (by omega), if_neg (by omega), if_neg (by omega), ← hM, rd_zero8 K 33 (by omega)]
    rfl
  · rw [rdB_fmt hG (by omega) (by omega), if_pos rfl]
  · rw [rdB_fmt hG (by omega) (by omega), if_neg (by omega), if_pos (by omega)]
/-- A world that was just begun: its journal is new. -/
structure Nw8 (c : Tc) (S : DevS) (K N : Nat) (free : Int) (B : Nat) : Prop where
  bn : B ≤ c.bm
  S : c.S = S
  k : c.k = K
  N : c.N = N
  st : c.st = 2
  sz : c.sz = 27
  seq : c.seq = (1 : Nat)
  place : c.place = (0 : Nat)
  free : c.free = free
  last : c.last = 0
  sv : c.sv = .slice none 0 0
  nd : c.nd = 0
  a : c.a = []
  b : c.b = 33
  am : c.jb ≠ c.bm
  wb : c.tb ≠ c.bm
/-- What a world is made of. -/
theorem stood_end {w wa : World} {D K db jb bm tb wm N : Nat} {free : Int} {G : Nat → Prop} {S : DevS} (hK : 35 + D = K) (h1 : 8 ≤ D) (h2 : D ≤ 500) (hoff : S.off = false) (hsee : zB = rdB S 33)
    (Ja : Jb wa jb db 2 27 (1 : Nat) (0 : Nat) free bm (some tb)) (Ta : Tb wa tb jb wm (.slice none 0 0) 0) (Ma : Mp wa wm 0 []) (Aa : Mp wa bm 0 []) (Da : Dev wa db 0 S K N G)
    (njG : ¬ G jb) (ntG : ¬ G tb) (nmG : ¬ G wm) (nbG : ¬ G bm) (htj : tb ≠ jb) (hjm : jb ≠ wm) (hbm : bm ≠ wm) (F9 : ∀ i, G i → w.heap.size ≤ i) (hj : w.heap.size ≤ jb) (ht : w.heap.size ≤ tb) (hm : w.heap.size ≤ wm) (b0a : Below w.heap.size w wa) (hbn : w.heap.size ≤ bm) :
    ∃ wb c, (Ending.returned (.pointer (some ⟨wa.heap.size, 0, none⟩)) : Ending) = .returned (.pointer (some ⟨wb, 0, none⟩)) ∧ Wd w (wa.alloc (.cells #[.int .i64 1, .int .i64 2, .int .i64 27, .int .i64 29, .int .i64 4, .int .i64 33, .int .i64 1, .int .i64 34, .int .i64 1, .int .i64 35, .int .i64 D, .int .i64 K, .int .i64 1, .int .i64 1, .int .i64 1, .int .i64 1, .int .i64 2, .int .i64 0, .int .i64 D, .int .i64 27, .pointer (some ⟨db, 0, none⟩), .pointer (some ⟨jb, 0, none⟩), .pointer (some ⟨tb, 0, none⟩), .slice none 0 0] 35)) wb c D ∧ Ts (wa.alloc (.cells #[.int .i64 1, .int .i64 2, .int .i64 27, .int .i64 29, .int .i64 4, .int .i64 33, .int .i64 1, .int .i64 34, .int .i64 1, .int .i64 35, .int .i64 D, .int .i64 K, .int .i64 1, .int .i64 1, .int .i64 1, .int .i64 1, .int .i64 2, .int .i64 0, .int .i64 D, .int .i64 27, .pointer (some ⟨db, 0, none⟩), .pointer (some ⟨jb, 0, none⟩), .pointer (some ⟨tb, 0, none⟩), .slice none 0 0] 35)) c 0 [] zB ∧ Below w.heap.size w (wa.alloc (.cells #[.int .i64 1, .int .i64 2, .int .i64 27, .int .i64 29, .int .i64 4, .int .i64 33, .int .i64 1, .int .i64 34, .int .i64 1, .int .i64 35, .int .i64 D, .int .i64 K, .int .i64 1, .int .i64 1, .int .i64 1, .int .i64 1, .int .i64 2, .int .i64 0, .int .i64 D, .int .i64 27, .pointer (some ⟨db, 0, none⟩), .pointer (some ⟨jb, 0, none⟩), .pointer (some ⟨tb, 0, none⟩), .slice none 0 0] 35)) ∧ Nw8 c S K N free w.heap.size := by
  obtain ⟨o, ho⟩ : ∃ o : Obj, o = .cells #[.int .i64 1, .int .i64 2, .int .i64 27, .int .i64 29, .int .i64 4, .int .i64 33, .int .i64 1, .int .i64 34, .int .i64 1, .int .i64 35, .int .i64 D, .int .i64 K, .int .i64 1, .int .i64 1, .int .i64 1, .int .i64 1, .int .i64 2, .int .i64 0, .int .i64 D, .int .i64 27, .pointer (some ⟨db, 0, none⟩), .pointer (some ⟨jb, 0, none⟩), .pointer (some ⟨tb, 0, none⟩), .slice none 0 0] 35 := ⟨_, rfl⟩
  rw [← ho]
  have bo : Below wa.heap.size wa (wa.alloc o) := (Below.refl _ wa).alloc (Nat.le_refl _) o
  have to := Below.turns bo (fun _ => False)
  have hbox := heap_alloc_last wa o
  have Jo := (to.block jb (heap_lt Ja) id).trans Ja
  have To := (to.block tb (heap_lt Ta) id).trans Ta
  have Mo := Ma.turns to id
  have Ao := Aa.turns to id
  have Do := Da.below bo
  have hFl := Da.lt
  have hjl := heap_lt Ja
  have htl := heap_lt Ta
  have hml := Ma.lt
  have hsa := b0a.size
  have htm : tb ≠ wm := Ma.ne Ta
  refine ⟨wa.heap.size, ⟨db, S, K, N, G, jb, 2, 27, tb, wm, bm, 33, (1 : Nat), (0 : Nat), free, 0, .slice none 0 0, 0, [], fun _ => []⟩, rfl, ?_, ?_, ?_, ⟨hbn, rfl, rfl, rfl, rfl, rfl, rfl, rfl, rfl, rfl, rfl, rfl, rfl, rfl, Aa.ne Ja, Aa.ne Ta⟩⟩
  · refine ⟨?_, ⟨rfl, rfl, lay8_ok h1 h2, rfl, by omega, rfl, by omega⟩, hsa, F9, hj, ht, hm, ?_, ?_, ?_, ?_⟩
    · rw [hbox, ho, hK]
    · intro h; have := hFl _ h; omega
    · show wa.heap.size ≠ wm; omega
    · show wa.heap.size ≠ tb; omega
    · show wa.heap.size ≠ jb; omega
  · exact ⟨Do, Jo, To, Mo, Ao, (fun p hp => by cases hp), (fun p hp => by cases hp), njG, ntG, nmG, nbG, htm, htj, hjm, hbm, hoff, by show 2 + 27 ≤ K; omega, by show 33 < K; omega, Or.inr (by show 2 + 27 ≤ 33; omega), Or.inl rfl, Or.inr ⟨rfl, Or.inr ⟨rfl, hsee⟩⟩, zB_len, zB_by⟩
  · exact b0a.trans (bo.mono hsa)
end Go.Proofs.YtfmcbjlagdanjaaGreatDoor
