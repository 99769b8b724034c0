/- seen behind the end; read by its contract. -/
import Derived.Test.YtfmcbjlagdanjaaGreatDoorPk10
namespace Go.Proofs.YtfmcbjlagdanjaaGreatDoor
open Go.RowKit Go.Maps
set_option maxRecDepth 100000

/-- No bitmap. -/
abbrev bm0 : Value := .agg #[.pointer none, .int .i64 0, .int .i64 0, .int .i64 0, .int .i64 0, .int .i64 0, .int .i64 0, .int .i64 0, .int .i64 0, .int .i64 0, .int .i64 0, .int .i64 0, .int .i64 0, .int .i64 0, .int .i64 0, .int .i64 0, .int .i64 0, .int .i64 0, .int .i64 0, .int .i64 0, .int .i64 0, .slice none 0 0]
attribute [local go_sem ↓ 100000] ly_store ly_load bm_store bm_load
attribute [local go_sem] LyStore.new LyStore.drew LyLoad.new LyLoad.drew BmStore.new
set_option maxHeartbeats 4000000 in
theorem seen_end {w : World} {tb : Nat} (h : Td w tb) (l : Lay) (hl1 : l.bl = 1) :
    Calls Tryz.prog 101 #[.pointer (some ⟨tb, 0, none⟩), lyV l] w fun e w' => e = .returned (.tuple #[bm0, .int .i64 76]) ∧ Below w.heap.size w w' := by
  have H1 : Hid (l.bl = 1) := hl1
  clear hl1
  obtain ⟨W1, hW1⟩ : ∃ W, w.alloc (.cells #[.int .i64 l.bo, .int .i64 l.jr, .int .i64 l.jl, .int .i64 l.le, .int .i64 l.ll, .int .i64 l.bi, .int .i64 l.bl, .int .i64 l.ta, .int .i64 l.tl, .int .i64 l.dt, .int .i64 l.dl, .int .i64 l.to, .int .i64 l.sh.cl, .int .i64 l.sh.wi, .int .i64 l.sh.pl, .int .i64 l.sh.ca, .int .i64 l.sh.ino, .int .i64 l.sh.qu, .int .i64 l.sh.da, .int .i64 l.sh.jo] 29) = W := ⟨_, rfl⟩
  obtain ⟨W2, hW2⟩ : ∃ W, W1.alloc (.cells #[.pointer none, .int .i64 0, .int .i64 0, .int .i64 0, .int .i64 0, .int .i64 0, .int .i64 0, .int .i64 0, .int .i64 0, .int .i64 0, .int .i64 0, .int .i64 0, .int .i64 0, .int .i64 0, .int .i64 0, .int .i64 0, .int .i64 0, .int .i64 0, .int .i64 0, .int .i64 0, .int .i64 0, .slice none 0 0] 96) = W := ⟨_, rfl⟩
  have s1 : W1.heap.size = w.heap.size + 1 := by rw [← hW1]; simp
  have s2 : W2.heap.size = w.heap.size + 2 := by rw [← hW2]; simp [s1]
  have b1 : Below w.heap.size w W1 := by rw [← hW1]; exact (Below.refl _ w).alloc (Nat.le_refl _) _
  have b2 : Below W1.heap.size W1 W2 := by rw [← hW2]; exact (Below.refl _ W1).alloc (Nat.le_refl _) _
  have L1 : W1.heap[w.heap.size]? = some (.cells #[.int .i64 l.bo, .int .i64 l.jr, .int .i64 l.jl, .int .i64 l.le, .int .i64 l.ll, .int .i64 l.bi, .int .i64 l.bl, .int .i64 l.ta, .int .i64 l.tl, .int .i64 l.dt, .int .i64 l.dl, .int .i64 l.to, .int .i64 l.sh.cl, .int .i64 l.sh.wi, .int .i64 l.sh.pl, .int .i64 l.sh.ca, .int .i64 l.sh.ino, .int .i64 l.sh.qu, .int .i64 l.sh.da, .int .i64 l.sh.jo] 29 (0, 0)) := by rw [← hW1]; exact heap_alloc_last w _
  have L2 := (b2.block _ (heap_lt L1)).trans L1
  have R2 : W2.heap[w.heap.size + 1]? = some (.cells #[.pointer none, .int .i64 0, .int .i64 0, .int .i64 0, .int .i64 0, .int .i64 0, .int .i64 0, .int .i64 0, .int .i64 0, .int .i64 0, .int .i64 0, .int .i64 0, .int .i64 0, .int .i64 0, .int .i64 0, .int .i64 0, .int .i64 0, .int .i64 0, .int .i64 0, .int .i64 0, .int .i64 0, .slice none 0 0] 96 (0, 0)) := by rw [← hW2, ← s1]; exact heap_alloc_last W1 _
  have hld := LyLoad.row L2 rfl
  have hn4 := BmStore.new (some ⟨tb, 0, none⟩) l.bo l.jr l.jl l.le l.ll l.bi l.bl l.ta l.tl l.dt l.dl l.to l.sh.cl l.sh.wi l.sh.pl l.sh.ca l.sh.ino l.sh.qu l.sh.da l.sh.jo none 0 0
  obtain ⟨W3, hW3⟩ : ∃ W, W2.alloc (.cells #[.pointer none, .int .i64 0, .int .i64 0, .int .i64 0, .int .i64 0, .int .i64 0, .int .i64 0, .int .i64 0, .int .i64 0, .int .i64 0, .int .i64 0, .int .i64 0, .int .i64 0, .int .i64 0, .int .i64 0, .int .i64 0, .int .i64 0, .int .i64 0, .int .i64 0, .int .i64 0, .int .i64 0, .slice none 0 0] 96) = W := ⟨_, rfl⟩
  obtain ⟨W4, hW4⟩ : ∃ W, W2.alloc (.cells #[.pointer (some ⟨tb, 0, none⟩), .int .i64 l.bo, .int .i64 l.jr, .int .i64 l.jl, .int .i64 l.le, .int .i64 l.ll, .int .i64 l.bi, .int .i64 l.bl, .int .i64 l.ta, .int .i64 l.tl, .int .i64 l.dt, .int .i64 l.dl, .int .i64 l.to, .int .i64 l.sh.cl, .int .i64 l.sh.wi, .int .i64 l.sh.pl, .int .i64 l.sh.ca, .int .i64 l.sh.ino, .int .i64 l.sh.qu, .int .i64 l.sh.da, .int .i64 l.sh.jo, .slice none 0 0] 96) = W := ⟨_, rfl⟩
  have hst := fun o a next Q => hn4 o a W2 next Q
  rw [hW3, hW4, s2] at hst
  clear hn4
  have b4 : Below W2.heap.size W2 W4 := by rw [← hW4]; exact (Below.refl _ W2).alloc (Nat.le_refl _) _
  have s4 : W4.heap.size = w.heap.size + 3 := by rw [← hW4]; simp [s2]
  have L4 := (b4.block _ (heap_lt L2)).trans L2
  have R4 := (b4.block _ (heap_lt R2)).trans R2
  have M4 : W4.heap[w.heap.size + 2]? = some (.cells #[.pointer (some ⟨tb, 0, none⟩), .int .i64 l.bo, .int .i64 l.jr, .int .i64 l.jl, .int .i64 l.le, .int .i64 l.ll, .int .i64 l.bi, .int .i64 l.bl, .int .i64 l.ta, .int .i64 l.tl, .int .i64 l.dt, .int .i64 l.dl, .int .i64 l.to, .int .i64 l.sh.cl, .int .i64 l.sh.wi, .int .i64 l.sh.pl, .int .i64 l.sh.ca, .int .i64 l.sh.ino, .int .i64 l.sh.qu, .int .i64 l.sh.da, .int .i64 l.sh.jo, .slice none 0 0] 96 (0, 0)) := by rw [← hW4, ← s2]; exact heap_alloc_last W2 _
  have b04 : Below w.heap.size w W4 := (b1.trans (b2.mono b1.size)).trans (b4.mono (by omega))
  have hb5 : W4.cell? ⟨w.heap.size, 5, none⟩ = some (.int .i64 l.bi) := by simp [World.cell?, L4]
  have hb6 : W4.cell? ⟨w.heap.size, 6, none⟩ = some (.int .i64 1) := by rw [← H1.out]; simp [World.cell?, L4]
  have h4 : Td W4 tb := (b04.block tb (heap_lt h)).trans h
  clear b1 b2 b4 L1 L2 R2
  go_enter Tryz.func101, Tryz.ntmps101
  go_wp2_with fail
  try rw [hW1, hW2]
  go_wp2_with fail
  try rw [hW3]
  go_wp2_with fail
  clear hW1 hW2 hW3 hW4 hst hld s1 s2 L4 M4
  go_loopw [18] (fun i wr => i = .int .i64 0 ∧ wr = W4) (fun i _ => 1 - (intOf i).toNat)
  case atStart => exact ⟨rfl, rfl⟩
  case round =>
    obtain ⟨rfl, rfl⟩ := hrel
    have hst := BmStore.row R4 rfl
    go_wp2_with fail
    refine (txRead_end h4 _).mono ?_
    rintro e w5 ⟨rfl, hw5⟩
    subst hw5
    go_wp2_with fail
    refine bodyPost_ret (res2 rfl _ _ (w.heap.size + 1) 96 _ (0, 0) _ rfl (setRow_heap _ _ _ _ _ _ R4) Tryz.underlying96 rfl bm_size) rfl ?_
    exact ⟨rfl, below_setRow b04 (by omega) _⟩
set_option maxHeartbeats 4000000 in
theorem read_ok {w : World} {c : Tc} {n0 : Nat} {m : List (Nat × Nat)} {bs : List Int} (h : Ts w c n0 m bs) (l : Lay) (hlb : l.bi = c.b) (hl1 : l.bl = 1) (hok : lyOk l = true) (hB : Bds w) :
    Calls Tryz.prog 42 #[.pointer (some ⟨c.tb, 0, none⟩), lyV l] w fun e w' => ∃ g cp tl, e = .returned (.tuple #[bmV (some ⟨c.tb, 0, none⟩) l (some ⟨g, 0, none⟩) 512 cp, .int .i64 0]) ∧ 512 ≤ cp ∧ w.heap.size ≤ g ∧ w'.heap[g]? = some (bt bs tl) ∧ Ts w' c n0 m bs ∧ Turns c.G w w' := by
  have HB : Hid (l.bi = c.b) := hlb
  have H1 : Hid (l.bl = 1) := hl1
  clear hlb hl1
  obtain ⟨W1, hW1⟩ : ∃ W, w.alloc (.cells #[.int .i64 l.bo, .int .i64 l.jr, .int .i64 l.jl, .int .i64 l.le, .int .i64 l.ll, .int .i64 l.bi, .int .i64 l.bl, .int .i64 l.ta, .int .i64 l.tl, .int .i64 l.dt, .int .i64 l.dl, .int .i64 l.to, .int .i64 l.sh.cl, .int .i64 l.sh.wi, .int .i64 l.sh.pl, .int .i64 l.sh.ca, .int .i64 l.sh.ino, .int .i64 l.sh.qu, .int .i64 l.sh.da, .int .i64 l.sh.jo] 29) = W := ⟨_, rfl⟩
  obtain ⟨W2, hW2⟩ : ∃ W, W1.alloc (.cells #[.pointer none, .int .i64 0, .int .i64 0, .int .i64 0, .int .i64 0, .int .i64 0, .int .i64 0, .int .i64 0, .int .i64 0, .int .i64 0, .int .i64 0, .int .i64 0, .int .i64 0, .int .i64 0, .int .i64 0, .int .i64 0, .int .i64 0, .int .i64 0, .int .i64 0, .int .i64 0, .int .i64 0, .slice none 0 0] 96) = W := ⟨_, rfl⟩
  have s1 : W1.heap.size = w.heap.size + 1 := by rw [← hW1]; simp
  have s2 : W2.heap.size = w.heap.size + 2 := by rw [← hW2]; simp [s1]
  have b1 : Below w.heap.size w W1 := by rw [← hW1]; exact (Below.refl _ w).alloc (Nat.le_refl _) _
  have b2 : Below W1.heap.size W1 W2 := by rw [← hW2]; exact (Below.refl _ W1).alloc (Nat.le_refl _) _
  have L1 : W1.heap[w.heap.size]? = some (.cells #[.int .i64 l.bo, .int .i64 l.jr, .int .i64 l.jl, .int .i64 l.le, .int .i64 l.ll, .int .i64 l.bi, .int .i64 l.bl, .int .i64 l.ta, .int .i64 l.tl, .int .i64 l.dt, .int .i64 l.dl, .int .i64 l.to, .int .i64 l.sh.cl, .int .i64 l.sh.wi, .int .i64 l.sh.pl, .int .i64 l.sh.ca, .int .i64 l.sh.ino, .int .i64 l.sh.qu, .int .i64 l.sh.da, .int .i64 l.sh.jo] 29 (0, 0)) := by rw [← hW1]; exact heap_alloc_last w _
  have L2 := (b2.block _ (heap_lt L1)).trans L1
  have R2 : W2.heap[w.heap.size + 1]? = some (.cells #[.pointer none, .int .i64 0, .int .i64 0, .int .i64 0, .int .i64 0, .int .i64 0, .int .i64 0, .int .i64 0, .int .i64 0, .int .i64 0, .int .i64 0, .int .i64 0, .int .i64 0, .int .i64 0, .int .i64 0, .int .i64 0, .int .i64 0, .int .i64 0, .int .i64 0, .int .i64 0, .int .i64 0, .slice none 0 0] 96 (0, 0)) := by rw [← hW2, ← s1]; exact heap_alloc_last W1 _
  have b02 : Below w.heap.size w W2 := b1.trans (b2.mono b1.size)
  have hld := LyLoad.row L2 rfl
  have hB2 := hB.later b02 (Nat.le_refl _)
  clear b1 b2 L1
  go_enter Tryz.func42, Tryz.ntmps42
  go_wp2_with fail
  try rw [hW1, hW2]
  go_wp2_with fail
  have hp := planned_any l W2 hB2
  rw [hok] at hp
  refine hp.mono ?_
  rintro e w3 ⟨rfl, b3⟩
  have L3 := (b3.block _ (heap_lt L2)).trans L2
  have R3 := (b3.block _ (heap_lt R2)).trans R2
  have b03 := b02.trans (b3.mono (by omega))
  have s3 := b3.size
  clear hld hp
  have hld := LyLoad.row L3 rfl
  have h3 := h.below b03
  have hF0 := h.dev.lt
  go_wp2_with fail
  refine (seen_ok h3 l HB.out H1.out).mono ?_
  rintro e w4 ⟨g, cp, tl, rfl, hcp, hgw, hg, hTs, hTu⟩
  have n1 : ¬ c.G (w.heap.size + 1) := fun h => by have := hF0 _ h; omega
  have R4 := (hTu.block _ (heap_lt R3) n1).trans R3
  have hst := BmStore.row R4 rfl
  have tV := Turns.row w4 (w.heap.size + 1) (bmA (some ⟨c.tb, 0, none⟩) l (some ⟨g, 0, none⟩) 512 cp)
  have tG : Turns c.G w (w4.setRow (w.heap.size + 1) (bmA (some ⟨c.tb, 0, none⟩) l (some ⟨g, 0, none⟩) 512 cp)) := ((Below.turns b03 c.G).trans hTu (fun _ _ h => h)).trans tV (fun i hi e => by omega)
  have dV := hTs.dev.turns tV (fun i hi e => by have := hF0 _ hi; omega)
  have hgV := (tV.block g (heap_lt hg) (by omega)).trans hg
  have hTV := h.turns tG dV
  clear hld b3 hTs hTu tV
  go_wp2_with fail
  refine bodyPost_ret (res2 rfl _ _ (w.heap.size + 1) 96 _ (0, 0) _ rfl (setRow_heap _ _ _ _ _ _ R4) Tryz.underlying96 rfl bm_size) rfl ?_
  exact ⟨g, cp, tl, rfl, hcp, by omega, hgV, hTV, tG⟩
set_option maxHeartbeats 4000000 in
theorem read_end {w : World} {tb : Nat} (h : Td w tb) (l : Lay) (hl1 : l.bl = 1) (hok : lyOk l = true) (hB : Bds w) :
    Calls Tryz.prog 42 #[.pointer (some ⟨tb, 0, none⟩), lyV l] w fun e w' => e = .returned (.tuple #[bm0, .int .i64 76]) ∧ Below w.heap.size w w' := by
  have H1 : Hid (l.bl = 1) := hl1
  clear hl1
  obtain ⟨W1, hW1⟩ : ∃ W, w.alloc (.cells #[.int .i64 l.bo, .int .i64 l.jr, .int .i64 l.jl, .int .i64 l.le, .int .i64 l.ll, .int .i64 l.bi, .int .i64 l.bl, .int .i64 l.ta, .int .i64 l.tl, .int .i64 l.dt, .int .i64 l.dl, .int .i64 l.to, .int .i64 l.sh.cl, .int .i64 l.sh.wi, .int .i64 l.sh.pl, .int .i64 l.sh.ca, .int .i64 l.sh.ino, .int .i64 l.sh.qu, .int .i64 l.sh.da, .int .i64 l.sh.jo] 29) = W := ⟨_, rfl⟩
  obtain ⟨W2, hW2⟩ : ∃ W, W1.alloc (.cells #[.pointer none, .int .i64 0, .int .i64 0, .int .i64 0, .int .i64 0, .int .i64 0, .int .i64 0, .int .i64 0, .int .i64 0, .int .i64 0, .int .i64 0, .int .i64 0, .int .i64 0, .int .i64 0, .int .i64 0, .int .i64 0, .int .i64 0, .int .i64 0, .int .i64 0, .int .i64 0, .int .i64 0, .slice none 0 0] 96) = W := ⟨_, rfl⟩
  have s1 : W1.heap.size = w.heap.size + 1 := by rw [← hW1]; simp
  have s2 : W2.heap.size = w.heap.size + 2 := by rw [← hW2]; simp [s1]
  have b1 : Below w.heap.size w W1 := by rw [← hW1]; exact (Below.refl _ w).alloc (Nat.le_refl _) _
  have b2 : Below W1.heap.size W1 W2 := by rw [← hW2]; exact (Below.refl _ W1).alloc (Nat.le_refl _) _
  have L1 : W1.heap[w.heap.size]? = some (.cells #[.int .i64 l.bo, .int .i64 l.jr, .int .i64 l.jl, .int .i64 l.le, .int .i64 l.ll, .int .i64 l.bi, .int .i64 l.bl, .int .i64 l.ta, .int .i64 l.tl, .int .i64 l.dt, .int .i64 l.dl, .int .i64 l.to, .int .i64 l.sh.cl, .int .i64 l.sh.wi, .int .i64 l.sh.pl, .int .i64 l.sh.ca, .int .i64 l.sh.ino, .int .i64 l.sh.qu, .int .i64 l.sh.da, .int .i64 l.sh.jo] 29 (0, 0)) := by rw [← hW1]; exact heap_alloc_last w _
  have L2 := (b2.block _ (heap_lt L1)).trans L1
  have R2 : W2.heap[w.heap.size + 1]? = some (.cells #[.pointer none, .int .i64 0, .int .i64 0, .int .i64 0, .int .i64 0, .int .i64 0, .int .i64 0, .int .i64 0, .int .i64 0, .int .i64 0, .int .i64 0, .int .i64 0, .int .i64 0, .int .i64 0, .int .i64 0, .int .i64 0, .int .i64 0, .int .i64 0, .int .i64 0, .int .i64 0, .int .i64 0, .slice none 0 0] 96 (0, 0)) := by rw [← hW2, ← s1]; exact heap_alloc_last W1 _
  have b02 : Below w.heap.size w W2 := b1.trans (b2.mono b1.size)
  have hld := LyLoad.row L2 rfl
  have hB2 := hB.later b02 (Nat.le_refl _)
  clear b1 b2 L1
  go_enter Tryz.func42, Tryz.ntmps42
  go_wp2_with fail
  try rw [hW1, hW2]
  go_wp2_with fail
  have hp := planned_any l W2 hB2
  rw [hok] at hp
  refine hp.mono ?_
  rintro e w3 ⟨rfl, b3⟩
  have L3 := (b3.block _ (heap_lt L2)).trans L2
  have R3 := (b3.block _ (heap_lt R2)).trans R2
  have b03 := b02.trans (b3.mono (by omega))
  have s3 := b3.size
  clear hld hp
  have hld := LyLoad.row L3 rfl
  have h3 : Td w3 tb := (b03.block tb (heap_lt h)).trans h
  go_wp2_with fail
  refine (seen_end h3 l H1.out).mono ?_
  rintro e w4 ⟨rfl, b4⟩
  have R4 := (b4.block _ (heap_lt R3)).trans R3
  have hst := BmStore.row R4 rfl
  have b04 := b03.trans (b4.mono (by omega))
  clear hld b3 b4
  go_wp2_with fail
  refine bodyPost_ret (res2 rfl _ _ (w.heap.size + 1) 96 _ (0, 0) _ rfl (setRow_heap _ _ _ _ _ _ R4) Tryz.underlying96 rfl bm_size) rfl ?_
  exact ⟨rfl, below_setRow b04 (by omega) _⟩
end Go.Proofs.YtfmcbjlagdanjaaGreatDoor

/- Used, Alloc by their contracts. -/
namespace Go.Proofs.YtfmcbjlagdanjaaGreatDoor
open Go.RowKit Go.Maps
set_option maxRecDepth 100000

/-- Behind a write of the bitmap's block. -/
theorem Ts.wrote {w w' : World} {c : Tc} {n : Nat} {m : List (Nat × Nat)} {bs bs' : List Int} (h : Ts w c n m bs) {g : Nat} (hg : w.heap.size ≤ g) (hb : w'.heap[g]? = some (bl bs')) (hM : Mp w' c.wm (n + 1) (mput m c.b g)) (hD : Dev w' c.d 0 c.S c.k c.N c.G) (t : Turns (fun i => c.G i ∨ i = c.wm) w w') (hl : bs'.length = 512) (hy : ∀ x ∈ bs', 0 ≤ x ∧ x ≤ 255) : Ts w' c (n + 1) [(c.b, g)] bs' := by
  have e : mput m c.b g = [(c.b, g)] := by
    rcases h.one with rfl | ⟨g0, rfl, _⟩ <;> simp [mput]
  rw [e] at hM
  have hgG : ¬ c.G g := fun hh => by have := h.dev.lt _ hh; omega
  have hgw : g ≠ c.wm := fun e => by have := h.mp.lt; omega
  exact { h with dev := hD, jour := (t.block _ (heap_lt h.jour) (fun q => q.elim h.jG h.jm)).trans h.jour, tx := (t.block _ (heap_lt h.tx) (fun q => q.elim h.tG h.tm)).trans h.tx, mp := hM, am := h.am.turns t (fun q => q.elim h.aG h.bw), va := fun p hp => ⟨(t.block _ (heap_lt (h.va p hp).1) (fun q => q.elim (h.vG p hp) (mp_not h.mp (h.va p hp).1))).trans (h.va p hp).1, (h.va p hp).2⟩, one := Or.inr ⟨g, rfl, hgG, hgw⟩, see := Or.inl ⟨g, by simp [lk], hb⟩, len := hl, byt := hy }
theorem Ts.room {w : World} {c : Tc} {n : Nat} {m : List (Nat × Nat)} {bs : List Int} (h : Ts w c n m bs) : (lk m c.b).isSome = true ∨ m.length < 24 := by
  rcases h.one with rfl | ⟨g0, rfl, _⟩ <;> simp
/-- What a layout must be here. -/
structure LyFit (l : Lay) (c : Tc) (D T : Nat) : Prop where
  lb : l.bi = c.b
  l1 : l.bl = 1
  ok : lyOk l = true
  dl : l.dl = D
  dm : D ≤ 4096
  dt : l.dt = T
  dk : T ≤ 4096

attribute [local go_sem ↓ 100000] ly_store ly_load bm_store bm_load
attribute [local go_sem] LyStore.new LyStore.drew LyLoad.new LyLoad.drew BmStore.new
set_option maxHeartbeats 4000000 in
theorem used_ok {w : World} {c : Tc} {n0 : Nat} {m : List (Nat × Nat)} {bs : List Int} {l : Lay} {D dt : Nat} (h : Ts w c n0 m bs) (HL : LyFit l c D dt) (hB : Bds w) :
    Calls Tryz.prog 15 #[.pointer (some ⟨c.tb, 0, none⟩), lyV l] w fun e w' => e = .returned (.tuple #[.int .i64 (cntB bs D), .int .i64 0]) ∧ Ts w' c n0 m bs ∧ Turns c.G w w' := by
  obtain ⟨W1, hW1⟩ : ∃ W, w.alloc (.cells #[.int .i64 l.bo, .int .i64 l.jr, .int .i64 l.jl, .int .i64 l.le, .int .i64 l.ll, .int .i64 l.bi, .int .i64 l.bl, .int .i64 l.ta, .int .i64 l.tl, .int .i64 l.dt, .int .i64 l.dl, .int .i64 l.to, .int .i64 l.sh.cl, .int .i64 l.sh.wi, .int .i64 l.sh.pl, .int .i64 l.sh.ca, .int .i64 l.sh.ino, .int .i64 l.sh.qu, .int .i64 l.sh.da, .int .i64 l.sh.jo] 29) = W := ⟨_, rfl⟩
  have s1 : W1.heap.size = w.heap.size + 1 := by rw [← hW1]; simp
  have b1 : Below w.heap.size w W1 := by rw [← hW1]; exact (Below.refl _ w).alloc (Nat.le_refl _) _
  have L1 : W1.heap[w.heap.size]? = some (.cells #[.int .i64 l.bo, .int .i64 l.jr, .int .i64 l.jl, .int .i64 l.le, .int .i64 l.ll, .int .i64 l.bi, .int .i64 l.bl, .int .i64 l.ta, .int .i64 l.tl, .int .i64 l.dt, .int .i64 l.dl, .int .i64 l.to, .int .i64 l.sh.cl, .int .i64 l.sh.wi, .int .i64 l.sh.pl, .int .i64 l.sh.ca, .int .i64 l.sh.ino, .int .i64 l.sh.qu, .int .i64 l.sh.da, .int .i64 l.sh.jo] 29 (0, 0)) := by rw [← hW1]; exact heap_alloc_last w _
  have hld := LyLoad.row L1 rfl
  have hB1 := hB.later b1 (Nat.le_refl _)
  have h1 := h.below b1
  have hF0 := h.dev.lt
  go_enter Tryz.func15, Tryz.ntmps15
  go_wp2_with fail
  try rw [hW1]
  go_wp2_with fail
  refine (read_ok h1 l HL.lb HL.l1 HL.ok hB1).mono ?_
  rintro e w2 ⟨g, cp, tl, rfl, hcp, hgw, hg, T2, t2⟩
  have t02 : Turns c.G w w2 := (Below.turns b1 c.G).trans t2 (fun _ _ h => h)
  have s2 := t2.size
  have nl : ¬ c.G w.heap.size := fun h => by have := hF0 _ h; omega
  have L2 := (t2.block _ (heap_lt L1) nl).trans L1
  clear hld
  obtain ⟨W3, hW3⟩ : ∃ W, w2.alloc (.cells #[.pointer none, .int .i64 0, .int .i64 0, .int .i64 0, .int .i64 0, .int .i64 0, .int .i64 0, .int .i64 0, .int .i64 0, .int .i64 0, .int .i64 0, .int .i64 0, .int .i64 0, .int .i64 0, .int .i64 0, .int .i64 0, .int .i64 0, .int .i64 0, .int .i64 0, .int .i64 0, .int .i64 0, .slice none 0 0] 96) = W := ⟨_, rfl⟩
  obtain ⟨W4, hW4⟩ : ∃ W, w2.alloc (.cells (bmA (some ⟨c.tb, 0, none⟩) l (some ⟨g, 0, none⟩) 512 cp) 96) = W := ⟨_, rfl⟩
  have hst := fun o a next Q => BmStore.new (some ⟨c.tb, 0, none⟩) l.bo l.jr l.jl l.le l.ll l.bi l.bl l.ta l.tl l.dt l.dl l.to l.sh.cl l.sh.wi l.sh.pl l.sh.ca l.sh.ino l.sh.qu l.sh.da l.sh.jo (some ⟨g, 0, none⟩) 512 cp o a w2 next Q
  rw [hW3, hW4] at hst
  have b4 : Below w2.heap.size w2 W4 := by rw [← hW4]; exact (Below.refl _ w2).alloc (Nat.le_refl _) _
  have s4 : W4.heap.size = w2.heap.size + 1 := by rw [← hW4]; simp
  have M4 : W4.heap[w2.heap.size]? = some (.cells (bmA (some ⟨c.tb, 0, none⟩) l (some ⟨g, 0, none⟩) 512 cp) 96 (0, 0)) := by rw [← hW4]; exact heap_alloc_last w2 _
  have L4 := (b4.block _ (heap_lt L2)).trans L2
  have hg4 := (b4.block _ (heap_lt hg)).trans hg
  have T4 := T2.below b4
  have t04 : Turns c.G w W4 := t02.trans (Below.turns b4 c.G) (fun _ _ h => h)
  have hb9 : W4.cell? ⟨w.heap.size, 9, none⟩ = some (.int .i64 (dt : Int)) := by rw [← HL.dt]; simp [World.cell?, L4]
  obtain ⟨B4, hB4⟩ : ∃ B, w2.heap.size = B := ⟨_, rfl⟩
  have hld := BmLoad.row M4 rfl
  rw [hB4] at hst M4 hld
  clear hW4 L2 L1
  go_wp2_with fail
  try rw [hW3]
  go_wp2_with fail
  refine (used_any _ l g 512 cp bs tl W4 hg4 h.len h.byt D HL.dl HL.dm (by have := HL.dm; omega)).mono ?_
  rintro e w5 ⟨rfl, b5⟩
  clear hld
  go_wp2_with fail
  refine bodyPost_ret (results_tmp2 rfl _ _ _) rfl ?_
  exact ⟨rfl, T4.below b5, t04.trans (Below.turns b5 c.G) (fun _ _ h => h)⟩
set_option maxHeartbeats 4000000 in
theorem used_end {w : World} {tb : Nat} {c : Tc} {l : Lay} {D dt : Nat} (h : Td w tb) (HL : LyFit l c D dt) (hB : Bds w) :
    Calls Tryz.prog 15 #[.pointer (some ⟨tb, 0, none⟩), lyV l] w fun e w' => ∃ v, e = .returned (.tuple #[v, .int .i64 76]) ∧ Below w.heap.size w w' := by
  obtain ⟨W1, hW1⟩ : ∃ W, w.alloc (.cells #[.int .i64 l.bo, .int .i64 l.jr, .int .i64 l.jl, .int .i64 l.le, .int .i64 l.ll, .int .i64 l.bi, .int .i64 l.bl, .int .i64 l.ta, .int .i64 l.tl, .int .i64 l.dt, .int .i64 l.dl, .int .i64 l.to, .int .i64 l.sh.cl, .int .i64 l.sh.wi, .int .i64 l.sh.pl, .int .i64 l.sh.ca, .int .i64 l.sh.ino, .int .i64 l.sh.qu, .int .i64 l.sh.da, .int .i64 l.sh.jo] 29) = W := ⟨_, rfl⟩
  have s1 : W1.heap.size = w.heap.size + 1 := by rw [← hW1]; simp
  have b1 : Below w.heap.size w W1 := by rw [← hW1]; exact (Below.refl _ w).alloc (Nat.le_refl _) _
  have L1 : W1.heap[w.heap.size]? = some (.cells #[.int .i64 l.bo, .int .i64 l.jr, .int .i64 l.jl, .int .i64 l.le, .int .i64 l.ll, .int .i64 l.bi, .int .i64 l.bl, .int .i64 l.ta, .int .i64 l.tl, .int .i64 l.dt, .int .i64 l.dl, .int .i64 l.to, .int .i64 l.sh.cl, .int .i64 l.sh.wi, .int .i64 l.sh.pl, .int .i64 l.sh.ca, .int .i64 l.sh.ino, .int .i64 l.sh.qu, .int .i64 l.sh.da, .int .i64 l.sh.jo] 29 (0, 0)) := by rw [← hW1]; exact heap_alloc_last w _
  have hld := LyLoad.row L1 rfl
  have hB1 := hB.later b1 (Nat.le_refl _)
  have h1 : Td W1 tb := (b1.block tb (heap_lt h)).trans h
  go_enter Tryz.func15, Tryz.ntmps15
  go_wp2_with fail
  try rw [hW1]
  go_wp2_with fail
  refine (read_end h1 l HL.l1 HL.ok hB1).mono ?_
  rintro e w2 ⟨rfl, b2⟩
  have b02 := b1.trans (b2.mono (by omega))
  have hst := BmStore.new none 0 0 0 0 0 0 0 0 0 0 0 0 0 0 0 0 0 0 0 0 none 0 0
  clear hld
  go_wp2_with fail
  refine bodyPost_ret (results_tmp2 rfl _ _ _) rfl ?_
  exact ⟨_, rfl, by first | exact b02 | exact b02.alloc (by have := b02.size; omega) _⟩
set_option maxHeartbeats 4000000 in
theorem alloc_ok {w : World} {c : Tc} {n0 : Nat} {m : List (Nat × Nat)} {bs : List Int} {l : Lay} {D dt : Nat} (h : Ts w c n0 m bs) (HL : LyFit l c D dt) (hB : Bds w) (i : Nat) (hi : i < D) (hlow : lowZ bs D = i) (hn0 : n0 ≤ 1000000) :
    Calls Tryz.prog 12 #[.pointer (some ⟨c.tb, 0, none⟩), lyV l] w fun e w' => ∃ g', e = .returned (.tuple #[.int .i64 (dt + i : Nat), .int .i64 0]) ∧ Ts w' c (n0 + 1) [(c.b, g')] (flipB bs i) ∧ Turns (fun i => c.G i ∨ i = c.wm) w w' := by
  have HI : Hid (lowZ bs D = (i : Int)) := hlow
  have hdm := HL.dm
  have hdk := HL.dk
  have hni : ¬ (i : Int) = -1 := by omega
  have hsum : (dt : Int) + i < 10000 := by omega
  clear hlow
  obtain ⟨W1, hW1⟩ : ∃ W, w.alloc (.cells #[.int .i64 l.bo, .int .i64 l.jr, .int .i64 l.jl, .int .i64 l.le, .int .i64 l.ll, .int .i64 l.bi, .int .i64 l.bl, .int .i64 l.ta, .int .i64 l.tl, .int .i64 l.dt, .int .i64 l.dl, .int .i64 l.to, .int .i64 l.sh.cl, .int .i64 l.sh.wi, .int .i64 l.sh.pl, .int .i64 l.sh.ca, .int .i64 l.sh.ino, .int .i64 l.sh.qu, .int .i64 l.sh.da, .int .i64 l.sh.jo] 29) = W := ⟨_, rfl⟩
  have s1 : W1.heap.size = w.heap.size + 1 := by rw [← hW1]; simp
  have b1 : Below w.heap.size w W1 := by rw [← hW1]; exact (Below.refl _ w).alloc (Nat.le_refl _) _
  have L1 : W1.heap[w.heap.size]? = some (.cells #[.int .i64 l.bo, .int .i64 l.jr, .int .i64 l.jl, .int .i64 l.le, .int .i64 l.ll, .int .i64 l.bi, .int .i64 l.bl, .int .i64 l.ta, .int .i64 l.tl, .int .i64 l.dt, .int .i64 l.dl, .int .i64 l.to, .int .i64 l.sh.cl, .int .i64 l.sh.wi, .int .i64 l.sh.pl, .int .i64 l.sh.ca, .int .i64 l.sh.ino, .int .i64 l.sh.qu, .int .i64 l.sh.da, .int .i64 l.sh.jo] 29 (0, 0)) := by rw [← hW1]; exact heap_alloc_last w _
  have hld := LyLoad.row L1 rfl
  have hB1 := hB.later b1 (Nat.le_refl _)
  have h1 := h.below b1
  have hF0 := h.dev.lt
  go_enter Tryz.func12, Tryz.ntmps12
  go_wp2_with fail
  try rw [hW1]
  go_wp2_with fail
  refine (read_ok h1 l HL.lb HL.l1 HL.ok hB1).mono ?_
  rintro e w2 ⟨g, cp, tl, rfl, hcp, hgw, hg, T2, t2⟩
  have t02 : Turns c.G w w2 := (Below.turns b1 c.G).trans t2 (fun _ _ h => h)
  have s2 := t2.size
  have nl : ¬ c.G w.heap.size := fun h => by have := hF0 _ h; omega
  have L2 := (t2.block _ (heap_lt L1) nl).trans L1
  clear hld
  obtain ⟨W3, hW3⟩ : ∃ W, w2.alloc (.cells #[.pointer none, .int .i64 0, .int .i64 0, .int .i64 0, .int .i64 0, .int .i64 0, .int .i64 0, .int .i64 0, .int .i64 0, .int .i64 0, .int .i64 0, .int .i64 0, .int .i64 0, .int .i64 0, .int .i64 0, .int .i64 0, .int .i64 0, .int .i64 0, .int .i64 0, .int .i64 0, .int .i64 0, .slice none 0 0] 96) = W := ⟨_, rfl⟩
  obtain ⟨W4, hW4⟩ : ∃ W, w2.alloc (.cells (bmA (some ⟨c.tb, 0, none⟩) l (some ⟨g, 0, none⟩) 512 cp) 96) = W := ⟨_, rfl⟩
  have hst := fun o a next Q => BmStore.new (some ⟨c.tb, 0, none⟩) l.bo l.jr l.jl l.le l.ll l.bi l.bl l.ta l.tl l.dt l.dl l.to l.sh.cl l.sh.wi l.sh.pl l.sh.ca l.sh.ino l.sh.qu l.sh.da l.sh.jo (some ⟨g, 0, none⟩) 512 cp o a w2 next Q
  rw [hW3, hW4] at hst
  have b4 : Below w2.heap.size w2 W4 := by rw [← hW4]; exact (Below.refl _ w2).alloc (Nat.le_refl _) _
  have s4 : W4.heap.size = w2.heap.size + 1 := by rw [← hW4]; simp
  have M4 : W4.heap[w2.heap.size]? = some (.cells (bmA (some ⟨c.tb, 0, none⟩) l (some ⟨g, 0, none⟩) 512 cp) 96 (0, 0)) := by rw [← hW4]; exact heap_alloc_last w2 _
  have L4 := (b4.block _ (heap_lt L2)).trans L2
  have hg4 := (b4.block _ (heap_lt hg)).trans hg
  have T4 := T2.below b4
  have t04 : Turns c.G w W4 := t02.trans (Below.turns b4 c.G) (fun _ _ h => h)
  have hb9 : W4.cell? ⟨w.heap.size, 9, none⟩ = some (.int .i64 (dt : Int)) := by rw [← HL.dt]; simp [World.cell?, L4]
  obtain ⟨B4, hB4⟩ : ∃ B, w2.heap.size = B := ⟨_, rfl⟩
  have hld := BmLoad.row M4 rfl
  rw [hB4] at hst M4 hld
  clear hW4 L2 L1
  go_wp2_with fail
  try rw [hW3]
  go_wp2_with fail
  have hl := lowest_any (some ⟨c.tb, 0, none⟩) l g 512 cp bs tl W4 hg4 h.len h.byt D HL.dl HL.dm (by omega)
  rw [HI.out] at hl
  refine hl.mono ?_
  rintro e w5 ⟨rfl, b5⟩
  have M5 := (b5.block _ (heap_lt M4)).trans M4
  have L5 := (b5.block _ (heap_lt L4)).trans L4
  have hg5 := (b5.block _ (heap_lt hg4)).trans hg4
  have T5 := T4.below b5
  have s5 := b5.size
  have t05 : Turns c.G w w5 := t04.trans (Below.turns b5 c.G) (fun _ _ h => h)
  have hml := h.mp.lt
  have htl := heap_lt h.tx
  have hjl := heap_lt h.jour
  clear hld hl
  have hld := BmLoad.row M5 rfl
  go_wp2_with fail
  refine (turn_ok T5.dev T5.jour T5.tx T5.mp T5.jG T5.tG T5.mG T5.tm T5.off T5.reg l c.b HL.lb T5.bk T5.out T5.room hn0 g cp bs tl hg5 h.len hcp h.byt (fun hh => by have := hF0 _ hh; omega) (by omega) (by omega) (by omega) i (by omega)).mono ?_
  rintro e w6 ⟨g', rfl, hg', k6, M6, D6, t6⟩
  have t06 : Turns (fun i => c.G i ∨ i = c.wm) w w6 := (t05.mono (fun _ _ h => Or.inl h)).trans t6 (fun i hi q => q.elim Or.inl (fun q => q.elim Or.inr (fun q => by omega)))
  have L6 := (t6.block _ (heap_lt L5) (fun q => q.elim nl (fun q => q.elim (fun q => by omega) (fun q => by omega)))).trans L5
  have hb9' : w6.cell? ⟨w.heap.size, 9, none⟩ = some (.int .i64 (dt : Int)) := by rw [← HL.dt]; simp [World.cell?, L6]
  have hT6 := h.wrote (by omega) k6 M6 D6 t06 (by rw [flipB_length]; exact h.len) (flipB_bytes h.byt i (by rw [h.len]; omega))
  clear hld hb9 t6
  go_wp2_with fail
  refine bodyPost_ret (results_tmp2 rfl _ _ _) rfl ?_
  exact ⟨g', by rw [Int.natCast_add]; rfl, hT6, t06⟩
set_option maxHeartbeats 4000000 in
theorem alloc_full {w : World} {c : Tc} {n0 : Nat} {m : List (Nat × Nat)} {bs : List Int} {l : Lay} {D dt : Nat} (h : Ts w c n0 m bs) (HL : LyFit l c D dt) (hB : Bds w) (hlow : lowZ bs D = -1) :
    Calls Tryz.prog 12 #[.pointer (some ⟨c.tb, 0, none⟩), lyV l] w fun e w' => e = .returned (.tuple #[.int .i64 0, .int .i64 81]) ∧ Ts w' c n0 m bs ∧ Turns c.G w w' := by
  have HI : Hid (lowZ bs D = -1) := hlow
  have hdm := HL.dm
  clear hlow
  obtain ⟨W1, hW1⟩ : ∃ W, w.alloc (.cells #[.int .i64 l.bo, .int .i64 l.jr, .int .i64 l.jl, .int .i64 l.le, .int .i64 l.ll, .int .i64 l.bi, .int .i64 l.bl, .int .i64 l.ta, .int .i64 l.tl, .int .i64 l.dt, .int .i64 l.dl, .int .i64 l.to, .int .i64 l.sh.cl, .int .i64 l.sh.wi, .int .i64 l.sh.pl, .int .i64 l.sh.ca, .int .i64 l.sh.ino, .int .i64 l.sh.qu, .int .i64 l.sh.da, .int .i64 l.sh.jo] 29) = W := ⟨_, rfl⟩
  have s1 : W1.heap.size = w.heap.size + 1 := by rw [← hW1]; simp
  have b1 : Below w.heap.size w W1 := by rw [← hW1]; exact (Below.refl _ w).alloc (Nat.le_refl _) _
  have L1 : W1.heap[w.heap.size]? = some (.cells #[.int .i64 l.bo, .int .i64 l.jr, .int .i64 l.jl, .int .i64 l.le, .int .i64 l.ll, .int .i64 l.bi, .int .i64 l.bl, .int .i64 l.ta, .int .i64 l.tl, .int .i64 l.dt, .int .i64 l.dl, .int .i64 l.to, .int .i64 l.sh.cl, .int .i64 l.sh.wi, .int .i64 l.sh.pl, .int .i64 l.sh.ca, .int .i64 l.sh.ino, .int .i64 l.sh.qu, .int .i64 l.sh.da, .int .i64 l.sh.jo] 29 (0, 0)) := by rw [← hW1]; exact heap_alloc_last w _
  have hld := LyLoad.row L1 rfl
  have hB1 := hB.later b1 (Nat.le_refl _)
  have h1 := h.below b1
  have hF0 := h.dev.lt
  go_enter Tryz.func12, Tryz.ntmps12
  go_wp2_with fail
  try rw [hW1]
  go_wp2_with fail
  refine (read_ok h1 l HL.lb HL.l1 HL.ok hB1).mono ?_
  rintro e w2 ⟨g, cp, tl, rfl, hcp, hgw, hg, T2, t2⟩
  have t02 : Turns c.G w w2 := (Below.turns b1 c.G).trans t2 (fun _ _ h => h)
  have s2 := t2.size
  have nl : ¬ c.G w.heap.size := fun h => by have := hF0 _ h; omega
  have L2 := (t2.block _ (heap_lt L1) nl).trans L1
  clear hld
  obtain ⟨W3, hW3⟩ : ∃ W, w2.alloc (.cells #[.pointer none, .int .i64 0, .int .i64 0, .int .i64 0, .int .i64 0, .int .i64 0, .int .i64 0, .int .i64 0, .int .i64 0, .int .i64 0, .int .i64 0, .int .i64 0, .int .i64 0, .int .i64 0, .int .i64 0, .int .i64 0, .int .i64 0, .int .i64 0, .int .i64 0, .int .i64 0, .int .i64 0, .slice none 0 0] 96) = W := ⟨_, rfl⟩
  obtain ⟨W4, hW4⟩ : ∃ W, w2.alloc (.cells (bmA (some ⟨c.tb, 0, none⟩) l (some ⟨g, 0, none⟩) 512 cp) 96) = W := ⟨_, rfl⟩
  have hst := fun o a next Q => BmStore.new (some ⟨c.tb, 0, none⟩) l.bo l.jr l.jl l.le l.ll l.bi l.bl l.ta l.tl l.dt l.dl l.to l.sh.cl l.sh.wi l.sh.pl l.sh.ca l.sh.ino l.sh.qu l.sh.da l.sh.jo (some ⟨g, 0, none⟩) 512 cp o a w2 next Q
  rw [hW3, hW4] at hst
  have b4 : Below w2.heap.size w2 W4 := by rw [← hW4]; exact (Below.refl _ w2).alloc (Nat.le_refl _) _
  have s4 : W4.heap.size = w2.heap.size + 1 := by rw [← hW4]; simp
  have M4 : W4.heap[w2.heap.size]? = some (.cells (bmA (some ⟨c.tb, 0, none⟩) l (some ⟨g, 0, none⟩) 512 cp) 96 (0, 0)) := by rw [← hW4]; exact heap_alloc_last w2 _
  have L4 := (b4.block _ (heap_lt L2)).trans L2
  have hg4 := (b4.block _ (heap_lt hg)).trans hg
  have T4 := T2.below b4
  have t04 : Turns c.G w W4 := t02.trans (Below.turns b4 c.G) (fun _ _ h => h)
  have hb9 : W4.cell? ⟨w.heap.size, 9, none⟩ = some (.int .i64 (dt : Int)) := by rw [← HL.dt]; simp [World.cell?, L4]
  obtain ⟨B4, hB4⟩ : ∃ B, w2.heap.size = B := ⟨_, rfl⟩
  have hld := BmLoad.row M4 rfl
  rw [hB4] at hst M4 hld
  clear hW4 L2 L1
  go_wp2_with fail
  try rw [hW3]
  go_wp2_with fail
  have hl := lowest_any (some ⟨c.tb, 0, none⟩) l g 512 cp bs tl W4 hg4 h.len h.byt D HL.dl HL.dm (by omega)
  rw [HI.out] at hl
  refine hl.mono ?_
  rintro e w5 ⟨rfl, b5⟩
  clear hld hl
  go_wp2_with fail
  refine bodyPost_ret (results_tmp2 rfl _ _ _) rfl ?_
  exact ⟨rfl, T4.below b5, t04.trans (Below.turns b5 c.G) (fun _ _ h => h)⟩
set_option maxHeartbeats 4000000 in
theorem alloc_end {w : World} {tb : Nat} {c : Tc} {l : Lay} {D dt : Nat} (h : Td w tb) (HL : LyFit l c D dt) (hB : Bds w) :
    Calls Tryz.prog 12 #[.pointer (some ⟨tb, 0, none⟩), lyV l] w fun e w' => ∃ v, e = .returned (.tuple #[v, .int .i64 76]) ∧ Below w.heap.size w w' := by
  obtain ⟨W1, hW1⟩ : ∃ W, w.alloc (.cells #[.int .i64 l.bo, .int .i64 l.jr, .int .i64 l.jl, .int .i64 l.le, .int .i64 l.ll, .int .i64 l.bi, .int .i64 l.bl, .int .i64 l.ta, .int .i64 l.tl, .int .i64 l.dt, .int .i64 l.dl, .int .i64 l.to, .int .i64 l.sh.cl, .int .i64 l.sh.wi, .int .i64 l.sh.pl, .int .i64 l.sh.ca, .int .i64 l.sh.ino, .int .i64 l.sh.qu, .int .i64 l.sh.da, .int .i64 l.sh.jo] 29) = W := ⟨_, rfl⟩
  have s1 : W1.heap.size = w.heap.size + 1 := by rw [← hW1]; simp
  have b1 : Below w.heap.size w W1 := by rw [← hW1]; exact (Below.refl _ w).alloc (Nat.le_refl _) _
  have L1 : W1.heap[w.heap.size]? = some (.cells #[.int .i64 l.bo, .int .i64 l.jr, .int .i64 l.jl, .int .i64 l.le, .int .i64 l.ll, .int .i64 l.bi, .int .i64 l.bl, .int .i64 l.ta, .int .i64 l.tl, .int .i64 l.dt, .int .i64 l.dl, .int .i64 l.to, .int .i64 l.sh.cl, .int .i64 l.sh.wi, .int .i64 l.sh.pl, .int .i64 l.sh.ca, .int .i64 l.sh.ino, .int .i64 l.sh.qu, .int .i64 l.sh.da, .int .i64 l.sh.jo] 29 (0, 0)) := by rw [← hW1]; exact heap_alloc_last w _
  have hld := LyLoad.row L1 rfl
  have hB1 := hB.later b1 (Nat.le_refl _)
  have h1 : Td W1 tb := (b1.block tb (heap_lt h)).trans h
  go_enter Tryz.func12, Tryz.ntmps12
  go_wp2_with fail
  try rw [hW1]
  go_wp2_with fail
  refine (read_end h1 l HL.l1 HL.ok hB1).mono ?_
  rintro e w2 ⟨rfl, b2⟩
  have b02 := b1.trans (b2.mono (by omega))
  have hst := BmStore.new none 0 0 0 0 0 0 0 0 0 0 0 0 0 0 0 0 0 0 0 0 none 0 0
  clear hld
  go_wp2_with fail
  refine bodyPost_ret (results_tmp2 rfl _ _ _) rfl ?_
  exact ⟨_, rfl, by first | exact b02 | exact b02.alloc (by have := b02.size; omega) _⟩
end Go.Proofs.YtfmcbjlagdanjaaGreatDoor

/- readFor by its contract. -/
namespace Go.Proofs.YtfmcbjlagdanjaaGreatDoor
open Go.RowKit Go.Maps
set_option maxRecDepth 100000

theorem results_ctt {fn : Func} {p u v : Tmp} {ty : TypeId} (h : fn.results = #[.cell p ty, .tmp u, .tmp v]) (tmps : Array Value) (P : Program) (w : World) :
    (results fn tmps).run P w =
      ((asAddr (tmps.getD p undef)).run P w).andThen fun a w₁ => ((loadVar ty a).run P w₁).andThen fun x w₂ => .ok (.tuple #[x, tmps.getD u undef, tmps.getD v undef]) w₂ := by
  simp only [results, h]
  simp [Sem.run_bind, Result.andThen]
theorem res3 {P : Program} {fn : Func} {p u v : Tmp} {ty : TypeId} (h : fn.results = #[.cell p ty, .tmp u, .tmp v]) (tmps : Array Value) (w : World) (g : Nat) (t : TypeId) (cs : Array Value) (fr : Nat × Nat) (d : TypeDesc)
    (hp : tmps.getD p undef = .pointer (some ⟨g, 0, none⟩)) (hg : w.heap[g]? = some (.cells cs t fr))
    (hu : P.underlying ty = some d) (hd : (match d with | .struct _ | .array _ _ => true | _ => false) = true) (hi : (P.info? ty).map (·.size) = some cs.size) :
    (results fn tmps).run P w = .ok (.tuple #[.agg cs, tmps.getD u undef, tmps.getD v undef]) w := by
  rw [results_ctt h, hp]
  simp [asAddr, run_loadVar_row w g t ty cs fr d hg hu hd hi, Result.andThen]
attribute [local go_sem ↓ 100000] ly_store ly_load bm_store bm_load
attribute [local go_sem] LyStore.new LyStore.drew LyLoad.new LyLoad.drew BmStore.new
set_option maxHeartbeats 4000000 in
theorem readFor_no {w : World} {tb : Nat} {c : Tc} {l : Lay} {D dt : Nat} (HL : LyFit l c D dt) (hB : Bds w) (b : Int) (hb : b < dt ∨ (dt : Int) + D ≤ b) :
    Calls Tryz.prog 45 #[.pointer (some ⟨tb, 0, none⟩), lyV l, .int .i64 b] w fun e w' => e = .returned (.tuple #[bm0, .int .i64 0, .int .i64 82]) ∧ Below w.heap.size w w' := by
  obtain ⟨W1, hW1⟩ : ∃ W, w.alloc (.cells #[.int .i64 l.bo, .int .i64 l.jr, .int .i64 l.jl, .int .i64 l.le, .int .i64 l.ll, .int .i64 l.bi, .int .i64 l.bl, .int .i64 l.ta, .int .i64 l.tl, .int .i64 l.dt, .int .i64 l.dl, .int .i64 l.to, .int .i64 l.sh.cl, .int .i64 l.sh.wi, .int .i64 l.sh.pl, .int .i64 l.sh.ca, .int .i64 l.sh.ino, .int .i64 l.sh.qu, .int .i64 l.sh.da, .int .i64 l.sh.jo] 29) = W := ⟨_, rfl⟩
  obtain ⟨W2, hW2⟩ : ∃ W, W1.alloc (.cells #[.pointer none, .int .i64 0, .int .i64 0, .int .i64 0, .int .i64 0, .int .i64 0, .int .i64 0, .int .i64 0, .int .i64 0, .int .i64 0, .int .i64 0, .int .i64 0, .int .i64 0, .int .i64 0, .int .i64 0, .int .i64 0, .int .i64 0, .int .i64 0, .int .i64 0, .int .i64 0, .int .i64 0, .slice none 0 0] 96) = W := ⟨_, rfl⟩
  have s1 : W1.heap.size = w.heap.size + 1 := by rw [← hW1]; simp
  have s2 : W2.heap.size = w.heap.size + 2 := by rw [← hW2]; simp [s1]
  have b1 : Below w.heap.size w W1 := by rw [← hW1]; exact (Below.refl _ w).alloc (Nat.le_refl _) _
  have b2 : Below W1.heap.size W1 W2 := by rw [← hW2]; exact (Below.refl _ W1).alloc (Nat.le_refl _) _
  have L1 : W1.heap[w.heap.size]? = some (.cells #[.int .i64 l.bo, .int .i64 l.jr, .int .i64 l.jl, .int .i64 l.le, .int .i64 l.ll, .int .i64 l.bi, .int .i64 l.bl, .int .i64 l.ta, .int .i64 l.tl, .int .i64 l.dt, .int .i64 l.dl, .int .i64 l.to, .int .i64 l.sh.cl, .int .i64 l.sh.wi, .int .i64 l.sh.pl, .int .i64 l.sh.ca, .int .i64 l.sh.ino, .int .i64 l.sh.qu, .int .i64 l.sh.da, .int .i64 l.sh.jo] 29 (0, 0)) := by rw [← hW1]; exact heap_alloc_last w _
  have L2 := (b2.block _ (heap_lt L1)).trans L1
  have R2 : W2.heap[w.heap.size + 1]? = some (.cells #[.pointer none, .int .i64 0, .int .i64 0, .int .i64 0, .int .i64 0, .int .i64 0, .int .i64 0, .int .i64 0, .int .i64 0, .int .i64 0, .int .i64 0, .int .i64 0, .int .i64 0, .int .i64 0, .int .i64 0, .int .i64 0, .int .i64 0, .int .i64 0, .int .i64 0, .int .i64 0, .int .i64 0, .slice none 0 0] 96 (0, 0)) := by rw [← hW2, ← s1]; exact heap_alloc_last W1 _
  have b02 : Below w.heap.size w W2 := b1.trans (b2.mono b1.size)
  have hld := LyLoad.row L2 rfl
  have hB2 := hB.later b02 (Nat.le_refl _)
  have hdm := HL.dm
  have hdk := HL.dk
  clear b1 b2 L1
  go_enter Tryz.func45, Tryz.ntmps45
  go_wp2_with fail
  try rw [hW1, hW2]
  go_wp2_with fail
  have hp := planned_any l W2 hB2
  rw [HL.ok] at hp
  refine hp.mono ?_
  rintro e w3 ⟨rfl, b3⟩
  have L3 := (b3.block _ (heap_lt L2)).trans L2
  have R3 := (b3.block _ (heap_lt R2)).trans R2
  have b03 := b02.trans (b3.mono (by omega))
  have s3 := b3.size
  have hb9 : w3.cell? ⟨w.heap.size, 9, none⟩ = some (.int .i64 (dt : Int)) := by rw [← HL.dt]; simp [World.cell?, L3]
  have hb10 : w3.cell? ⟨w.heap.size, 10, none⟩ = some (.int .i64 (D : Int)) := by rw [← HL.dl]; simp [World.cell?, L3]
  clear hld hp
  have hld := LyLoad.row L3 rfl
  have hst := BmStore.row R3 rfl
  by_cases hlt : b < dt
  · go_wp2_with fail
    refine bodyPost_ret (res3 rfl _ _ (w.heap.size + 1) 96 _ (0, 0) _ rfl (setRow_heap _ _ _ _ _ _ R3) Tryz.underlying96 rfl bm_size) rfl ?_
    exact ⟨rfl, below_setRow b03 (by omega) _⟩
  · have hge : (dt : Int) + D ≤ b := hb.resolve_left hlt
    go_wp2_with fail
    refine bodyPost_ret (res3 rfl _ _ (w.heap.size + 1) 96 _ (0, 0) _ rfl (setRow_heap _ _ _ _ _ _ R3) Tryz.underlying96 rfl bm_size) rfl ?_
    exact ⟨rfl, below_setRow b03 (by omega) _⟩
set_option maxHeartbeats 4000000 in
theorem readFor_ok {w : World} {c : Tc} {n0 : Nat} {m : List (Nat × Nat)} {bs : List Int} {l : Lay} {D dt : Nat} (h : Ts w c n0 m bs) (HL : LyFit l c D dt) (hB : Bds w) (i : Nat) (hi : i < D) :
    Calls Tryz.prog 45 #[.pointer (some ⟨c.tb, 0, none⟩), lyV l, .int .i64 ((dt : Int) + i)] w fun e w' => ∃ g cp tl, e = .returned (.tuple #[bmV (some ⟨c.tb, 0, none⟩) l (some ⟨g, 0, none⟩) 512 cp, .int .i64 i, .int .i64 0]) ∧ 512 ≤ cp ∧ w.heap.size ≤ g ∧ w'.heap[g]? = some (bt bs tl) ∧ Ts w' c n0 m bs ∧ Turns c.G w w' := by
  obtain ⟨W1, hW1⟩ : ∃ W, w.alloc (.cells #[.int .i64 l.bo, .int .i64 l.jr, .int .i64 l.jl, .int .i64 l.le, .int .i64 l.ll, .int .i64 l.bi, .int .i64 l.bl, .int .i64 l.ta, .int .i64 l.tl, .int .i64 l.dt, .int .i64 l.dl, .int .i64 l.to, .int .i64 l.sh.cl, .int .i64 l.sh.wi, .int .i64 l.sh.pl, .int .i64 l.sh.ca, .int .i64 l.sh.ino, .int .i64 l.sh.qu, .int .i64 l.sh.da, .int .i64 l.sh.jo] 29) = W := ⟨_, rfl⟩
  obtain ⟨W2, hW2⟩ : ∃ W, W1.alloc (.cells #[.pointer none, .int .i64 0, .int .i64 0, .int .i64 0, .int .i64 0, .int .i64 0, .int .i64 0, .int .i64 0, .int .i64 0, .int .i64 0, .int .i64 0, .int .i64 0, .int .i64 0, .int .i64 0, .int .i64 0, .int .i64 0, .int .i64 0, .int .i64 0, .int .i64 0, .int .i64 0, .int .i64 0, .slice none 0 0] 96) = W := ⟨_, rfl⟩
  have s1 : W1.heap.size = w.heap.size + 1 := by rw [← hW1]; simp
  have s2 : W2.heap.size = w.heap.size + 2 := by rw [← hW2]; simp [s1]
  have b1 : Below w.heap.size w W1 := by rw [← hW1]; exact (Below.refl _ w).alloc (Nat.le_refl _) _
  have b2 : Below W1.heap.size W1 W2 := by rw [← hW2]; exact (Below.refl _ W1).alloc (Nat.le_refl _) _
  have L1 : W1.heap[w.heap.size]? = some (.cells #[.int .i64 l.bo, .int .i64 l.jr, .int .i64 l.jl, .int .i64 l.le, .int .i64 l.ll, .int .i64 l.bi, .int .i64 l.bl, .int .i64 l.ta, .int .i64 l.tl, .int .i64 l.dt, .int .i64 l.dl, .int .i64 l.to, .int .i64 l.sh.cl, .int .i64 l.sh.wi, .int .i64 l.sh.pl, .int .i64 l.sh.ca, .int .i64 l.sh.ino, .int .i64 l.sh.qu, .int .i64 l.sh.da, .int .i64 l.sh.jo] 29 (0, 0)) := by rw [← hW1]; exact heap_alloc_last w _
  have L2 := (b2.block _ (heap_lt L1)).trans L1
  have R2 : W2.heap[w.heap.size + 1]? = some (.cells #[.pointer none, .int .i64 0, .int .i64 0, .int .i64 0, .int .i64 0, .int .i64 0, .int .i64 0, .int .i64 0, .int .i64 0, .int .i64 0, .int .i64 0, .int .i64 0, .int .i64 0, .int .i64 0, .int .i64 0, .int .i64 0, .int .i64 0, .int .i64 0, .int .i64 0, .int .i64 0, .int .i64 0, .slice none 0 0] 96 (0, 0)) := by rw [← hW2, ← s1]; exact heap_alloc_last W1 _
  have b02 : Below w.heap.size w W2 := b1.trans (b2.mono b1.size)
  have hld := LyLoad.row L2 rfl
  have hB2 := hB.later b02 (Nat.le_refl _)
  have hdm := HL.dm
  have hdk := HL.dk
  clear b1 b2 L1
  go_enter Tryz.func45, Tryz.ntmps45
  go_wp2_with fail
  try rw [hW1, hW2]
  go_wp2_with fail
  have hp := planned_any l W2 hB2
  rw [HL.ok] at hp
  refine hp.mono ?_
  rintro e w3 ⟨rfl, b3⟩
  have L3 := (b3.block _ (heap_lt L2)).trans L2
  have R3 := (b3.block _ (heap_lt R2)).trans R2
  have b03 := b02.trans (b3.mono (by omega))
  have s3 := b3.size
  have hb9 : w3.cell? ⟨w.heap.size, 9, none⟩ = some (.int .i64 (dt : Int)) := by rw [← HL.dt]; simp [World.cell?, L3]
  have hb10 : w3.cell? ⟨w.heap.size, 10, none⟩ = some (.int .i64 (D : Int)) := by rw [← HL.dl]; simp [World.cell?, L3]
  clear hld hp
  have hld := LyLoad.row L3 rfl
  have h3 := h.below b03
  have hF0 := h.dev.lt
  have hlt : ¬ (dt : Int) + i < dt := by omega
  have hge : ¬ (dt : Int) + D ≤ dt + i := by omega
  go_wp2_with fail
  refine (seen_ok h3 l HL.lb HL.l1).mono ?_
  rintro e w4 ⟨g, cp, tl, rfl, hcp, hgw, hg, hTs, hTu⟩
  have n1 : ¬ c.G (w.heap.size + 1) := fun h => by have := hF0 _ h; omega
  have n0' : ¬ c.G w.heap.size := fun h => by have := hF0 _ h; omega
  have R4 := (hTu.block _ (heap_lt R3) n1).trans R3
  have L4 := (hTu.block _ (heap_lt L3) n0').trans L3
  have s4 := hTu.size
  obtain ⟨W5, hW5⟩ : ∃ W, w4.alloc (.cells #[.pointer none, .int .i64 0, .int .i64 0, .int .i64 0, .int .i64 0, .int .i64 0, .int .i64 0, .int .i64 0, .int .i64 0, .int .i64 0, .int .i64 0, .int .i64 0, .int .i64 0, .int .i64 0, .int .i64 0, .int .i64 0, .int .i64 0, .int .i64 0, .int .i64 0, .int .i64 0, .int .i64 0, .slice none 0 0] 96) = W := ⟨_, rfl⟩
  obtain ⟨W6, hW6⟩ : ∃ W, w4.alloc (.cells (bmA (some ⟨c.tb, 0, none⟩) l (some ⟨g, 0, none⟩) 512 cp) 96) = W := ⟨_, rfl⟩
  have hst := fun o a next Q => BmStore.new (some ⟨c.tb, 0, none⟩) l.bo l.jr l.jl l.le l.ll l.bi l.bl l.ta l.tl l.dt l.dl l.to l.sh.cl l.sh.wi l.sh.pl l.sh.ca l.sh.ino l.sh.qu l.sh.da l.sh.jo (some ⟨g, 0, none⟩) 512 cp o a w4 next Q
  rw [hW5, hW6] at hst
  have b6 : Below w4.heap.size w4 W6 := by rw [← hW6]; exact (Below.refl _ w4).alloc (Nat.le_refl _) _
  have M6 : W6.heap[w4.heap.size]? = some (.cells (bmA (some ⟨c.tb, 0, none⟩) l (some ⟨g, 0, none⟩) 512 cp) 96 (0, 0)) := by rw [← hW6]; exact heap_alloc_last w4 _
  have R6 := (b6.block _ (heap_lt R4)).trans R4
  have L6 := (b6.block _ (heap_lt L4)).trans L4
  have y9 : W6.cell? ⟨w.heap.size, 9, none⟩ = some (.int .i64 (dt : Int)) := by rw [← HL.dt]; simp [World.cell?, L6]
  obtain ⟨B4, hB4⟩ : ∃ B, w4.heap.size = B := ⟨_, rfl⟩
  have hld6 := BmLoad.row (w := W6.drew) M6 rfl
  have hst6 := BmStore.row (w := W6.drew) R6 rfl
  have y9d : W6.drew.cell? ⟨w.heap.size, 9, none⟩ = some (.int .i64 (dt : Int)) := y9
  have L7 := (setRow_other W6.drew (w.heap.size + 1) w.heap.size (bmA (some ⟨c.tb, 0, none⟩) l (some ⟨g, 0, none⟩) 512 cp) (by omega)).trans L6
  have y9s : (W6.drew.setRow (w.heap.size + 1) (bmA (some ⟨c.tb, 0, none⟩) l (some ⟨g, 0, none⟩) 512 cp)).cell? ⟨w.heap.size, 9, none⟩ = some (.int .i64 (dt : Int)) := by rw [← HL.dt]; simp [World.cell?, L7]
  have hwr : IntKind.i64.wrap ((dt : Int) + i - dt) = i := by rw [Go.IntWalk.i64_in _ ⟨by omega, by omega⟩]; omega
  rw [hB4] at hst M6 hld6
  have tV := Turns.row W6.drew (w.heap.size + 1) (bmA (some ⟨c.tb, 0, none⟩) l (some ⟨g, 0, none⟩) 512 cp)
  have tG : Turns c.G w (W6.drew.setRow (w.heap.size + 1) (bmA (some ⟨c.tb, 0, none⟩) l (some ⟨g, 0, none⟩) 512 cp)) := (((Below.turns b03 c.G).trans hTu (fun _ _ h => h)).trans (Below.turns (Below.drew b6) c.G) (fun _ _ h => h)).trans tV (fun i hi e => by omega)
  have dV := (hTs.dev.below (Below.drew b6)).turns tV (fun i hi e => by have := hF0 _ hi; omega)
  have hg6 := (b6.block _ (heap_lt hg)).trans hg
  have hgV := (tV.block g (heap_lt hg6) (by omega)).trans hg6
  have hTV := h.turns tG dV
  clear hld b3 hTs hTu tV hb9 hb10 hW6
  go_wp2_with fail
  try rw [hW5]
  go_wp2_with fail
  go_region
  go_wp2_with fail
  refine bodyPost_ret (res3 rfl _ _ (w.heap.size + 1) 96 _ (0, 0) _ rfl (setRow_heap W6.drew _ _ _ _ _ R6) Tryz.underlying96 rfl bm_size) rfl ?_
  exact ⟨g, cp, tl, by first | rfl | (show Ending.returned (Value.tuple #[_, Value.int .i64 _, _]) = Ending.returned (Value.tuple #[_, Value.int .i64 _, _]); congr 4; omega), hcp, by omega, hgV, hTV, tG⟩
set_option maxHeartbeats 4000000 in
theorem readFor_end {w : World} {tb : Nat} {c : Tc} {l : Lay} {D dt : Nat} (h : Td w tb) (HL : LyFit l c D dt) (hB : Bds w) (b : Int) (hb1 : (dt : Int) ≤ b) (hb2 : b < dt + D) :
    Calls Tryz.prog 45 #[.pointer (some ⟨tb, 0, none⟩), lyV l, .int .i64 b] w fun e w' => ∃ v, e = .returned (.tuple #[bm0, .int .i64 v, .int .i64 76]) ∧ Below w.heap.size w w' := by
  obtain ⟨W1, hW1⟩ : ∃ W, w.alloc (.cells #[.int .i64 l.bo, .int .i64 l.jr, .int .i64 l.jl, .int .i64 l.le, .int .i64 l.ll, .int .i64 l.bi, .int .i64 l.bl, .int .i64 l.ta, .int .i64 l.tl, .int .i64 l.dt, .int .i64 l.dl, .int .i64 l.to, .int .i64 l.sh.cl, .int .i64 l.sh.wi, .int .i64 l.sh.pl, .int .i64 l.sh.ca, .int .i64 l.sh.ino, .int .i64 l.sh.qu, .int .i64 l.sh.da, .int .i64 l.sh.jo] 29) = W := ⟨_, rfl⟩
  obtain ⟨W2, hW2⟩ : ∃ W, W1.alloc (.cells #[.pointer none, .int .i64 0, .int .i64 0, .int .i64 0, .int .i64 0, .int .i64 0, .int .i64 0, .int .i64 0, .int .i64 0, .int .i64 0, .int .i64 0, .int .i64 0, .int .i64 0, .int .i64 0, .int .i64 0, .int .i64 0, .int .i64 0, .int .i64 0, .int .i64 0, .int .i64 0, .int .i64 0, .slice none 0 0] 96) = W := ⟨_, rfl⟩
  have s1 : W1.heap.size = w.heap.size + 1 := by rw [← hW1]; simp
  have s2 : W2.heap.size = w.heap.size + 2 := by rw [← hW2]; simp [s1]
  have b1 : Below w.heap.size w W1 := by rw [← hW1]; exact (Below.refl _ w).alloc (Nat.le_refl _) _
  have b2 : Below W1.heap.size W1 W2 := by rw [← hW2]; exact (Below.refl _ W1).alloc (Nat.le_refl _) _
  have L1 : W1.heap[w.heap.size]? = some (.cells #[.int .i64 l.bo, .int .i64 l.jr, .int .i64 l.jl, .int .i64 l.le, .int .i64 l.ll, .int .i64 l.bi, .int .i64 l.bl, .int .i64 l.ta, .int .i64 l.tl, .int .i64 l.dt, .int .i64 l.dl, .int .i64 l.to, .int .i64 l.sh.cl, .int .i64 l.sh.wi, .int .i64 l.sh.pl, .int .i64 l.sh.ca, .int .i64 l.sh.ino, .int .i64 l.sh.qu, .int .i64 l.sh.da, .int .i64 l.sh.jo] 29 (0, 0)) := by rw [← hW1]; exact heap_alloc_last w _
  have L2 := (b2.block _ (heap_lt L1)).trans L1
  have R2 : W2.heap[w.heap.size + 1]? = some (.cells #[.pointer none, .int .i64 0, .int .i64 0, .int .i64 0, .int .i64 0, .int .i64 0, .int .i64 0, .int .i64 0, .int .i64 0, .int .i64 0, .int .i64 0, .int .i64 0, .int .i64 0, .int .i64 0, .int .i64 0, .int .i64 0, .int .i64 0, .int .i64 0, .int .i64 0, .int .i64 0, .int .i64 0, .slice none 0 0] 96 (0, 0)) := by rw [← hW2, ← s1]; exact heap_alloc_last W1 _
  have b02 : Below w.heap.size w W2 := b1.trans (b2.mono b1.size)
  have hld := LyLoad.row L2 rfl
  have hB2 := hB.later b02 (Nat.le_refl _)
  have hdm := HL.dm
  have hdk := HL.dk
  clear b1 b2 L1
  go_enter Tryz.func45, Tryz.ntmps45
  go_wp2_with fail
  try rw [hW1, hW2]
  go_wp2_with fail
  have hp := planned_any l W2 hB2
  rw [HL.ok] at hp
  refine hp.mono ?_
  rintro e w3 ⟨rfl, b3⟩
  have L3 := (b3.block _ (heap_lt L2)).trans L2
  have R3 := (b3.block _ (heap_lt R2)).trans R2
  have b03 := b02.trans (b3.mono (by omega))
  have s3 := b3.size
  have hb9 : w3.cell? ⟨w.heap.size, 9, none⟩ = some (.int .i64 (dt : Int)) := by rw [← HL.dt]; simp [World.cell?, L3]
  have hb10 : w3.cell? ⟨w.heap.size, 10, none⟩ = some (.int .i64 (D : Int)) := by rw [← HL.dl]; simp [World.cell?, L3]
  clear hld hp
  have hld := LyLoad.row L3 rfl
  have h3 : Td w3 tb := (b03.block tb (heap_lt h)).trans h
  have hlt : ¬ b < dt := by omega
  have hge : ¬ (dt : Int) + D ≤ b := by omega
  go_wp2_with fail
  refine (seen_end h3 l HL.l1).mono ?_
  rintro e w4 ⟨rfl, b4⟩
  have R4 := (b4.block _ (heap_lt R3)).trans R3
  have L4 := (b4.block _ (heap_lt L3)).trans L3
  have s4 := b4.size
  obtain ⟨W5, hW5⟩ : ∃ W, w4.alloc (.cells #[.pointer none, .int .i64 0, .int .i64 0, .int .i64 0, .int .i64 0, .int .i64 0, .int .i64 0, .int .i64 0, .int .i64 0, .int .i64 0, .int .i64 0, .int .i64 0, .int .i64 0, .int .i64 0, .int .i64 0, .int .i64 0, .int .i64 0, .int .i64 0, .int .i64 0, .int .i64 0, .int .i64 0, .slice none 0 0] 96) = W := ⟨_, rfl⟩
  have hst := fun o a next Q => BmStore.new none 0 0 0 0 0 0 0 0 0 0 0 0 0 0 0 0 0 0 0 0 none 0 0 o a w4 next Q
  rw [hW5] at hst
  have b5 : Below w4.heap.size w4 W5 := by rw [← hW5]; exact (Below.refl _ w4).alloc (Nat.le_refl _) _
  have M5 : W5.heap[w4.heap.size]? = some (.cells #[.pointer none, .int .i64 0, .int .i64 0, .int .i64 0, .int .i64 0, .int .i64 0, .int .i64 0, .int .i64 0, .int .i64 0, .int .i64 0, .int .i64 0, .int .i64 0, .int .i64 0, .int .i64 0, .int .i64 0, .int .i64 0, .int .i64 0, .int .i64 0, .int .i64 0, .int .i64 0, .int .i64 0, .slice none 0 0] 96 (0, 0)) := by rw [← hW5]; exact heap_alloc_last w4 _
  have R5 := (b5.block _ (heap_lt R4)).trans R4
  have L5 := (b5.block _ (heap_lt L4)).trans L4
  have y9 : W5.cell? ⟨w.heap.size, 9, none⟩ = some (.int .i64 (dt : Int)) := by rw [← HL.dt]; simp [World.cell?, L5]
  obtain ⟨B4, hB4⟩ : ∃ B, w4.heap.size = B := ⟨_, rfl⟩
  have hld5 := BmLoad.row (w := W5.drew) M5 rfl
  have hst5 := BmStore.row (w := W5.drew) R5 rfl
  have y9d : W5.drew.cell? ⟨w.heap.size, 9, none⟩ = some (.int .i64 (dt : Int)) := y9
  have L7 := (setRow_other W5.drew (w.heap.size + 1) w.heap.size #[.pointer none, .int .i64 0, .int .i64 0, .int .i64 0, .int .i64 0, .int .i64 0, .int .i64 0, .int .i64 0, .int .i64 0, .int .i64 0, .int .i64 0, .int .i64 0, .int .i64 0, .int .i64 0, .int .i64 0, .int .i64 0, .int .i64 0, .int .i64 0, .int .i64 0, .int .i64 0, .int .i64 0, .slice none 0 0] (by omega)).trans L5
  have y9s : (W5.drew.setRow (w.heap.size + 1) #[.pointer none, .int .i64 0, .int .i64 0, .int .i64 0, .int .i64 0, .int .i64 0, .int .i64 0, .int .i64 0, .int .i64 0, .int .i64 0, .int .i64 0, .int .i64 0, .int .i64 0, .int .i64 0, .int .i64 0, .int .i64 0, .int .i64 0, .int .i64 0, .int .i64 0, .int .i64 0, .int .i64 0, .slice none 0 0]).cell? ⟨w.heap.size, 9, none⟩ = some (.int .i64 (dt : Int)) := by rw [← HL.dt]; simp [World.cell?, L7]
  have hwr : IntKind.i64.wrap (b - dt) = b - dt := by rw [Go.IntWalk.i64_in _ ⟨by omega, by omega⟩]
  rw [hB4] at hst M5 hld5
  have b05 := (b03.trans (b4.mono (by omega))).trans (b5.mono (by omega))
  clear hld b3 b4 hb9 hb10
  go_wp2_with fail
  try rw [hW5]
  go_wp2_with fail
  go_region
  go_wp2_with fail
  refine bodyPost_ret (res3 rfl _ _ (w.heap.size + 1) 96 _ (0, 0) _ rfl (setRow_heap W5.drew _ _ _ _ _ R5) Tryz.underlying96 rfl bm_size) rfl ?_
  exact ⟨_, rfl, below_setRow (Below.drew b05) (by omega) _⟩
end Go.Proofs.YtfmcbjlagdanjaaGreatDoor
