/- annexlaw8.known by its contract. -/
import Derived.Test.YtfmcbjlagdanjaaGreatDoorPk13
import Derived.BigQuiet
import Derived.Test.YtfmcbjlagdanjaaGreatDoorPk08
import Derived.Test.YtfmcbjlagdanjaaGreatDoorShelf
import Derived.Sort.OwnSortedInts
import Derived.Test.YtfmcbjlagdanjaaGreatDoorPk10
import Derived.Test.YtfmcbjlagdanjaaGreatDoorShelf2
namespace Go.Proofs.YtfmcbjlagdanjaaGreatDoor
open Go.RowKit Go.Maps
set_option maxRecDepth 100000

attribute [local go_sem ↓ 100000] ly_store ly_load ex_load
set_option maxHeartbeats 4000000 in
theorem known_ok (w : World) (hB : Bds w) {er : Nat → Addr} (hE : Errs w er) :
    Calls Tryz.prog 9 #[] w fun e w' => e = .returned (.bool true) ∧ Below w.heap.size w w' := by
  go_enter Tryz.func9, Tryz.ntmps9
  go_wp2_with fail
  refine (stood_ok (D := 20) (by omega) (by omega) w hB hE).mono ?_
  rintro e w1 ⟨wb, c, rfl, A1, T1, b1, _⟩
  have s1 := b1.size
  have x1 := A1.t
  have q1 := A1.drew.s
  go_wp2_with fail
  have B1 : Bds w1.drew := (hB.later b1 (Nat.le_refl _)).drew
  go_region_held3 (fun w' => w'.cell? ⟨wb, 22, none⟩ = some (.pointer (some ⟨c.tb, 0, none⟩)) ∧ (LyEx (.pointer (some ⟨wb, 0, none⟩))).run Tryz.prog w' = .ok (.value (lyV (lay8 20))) w')
    (first | with_reducible exact q1 | with_reducible exact q2)
    (first
      | (go_at_call 12; refine (alloc_ok T1.drew A1.fit B1 0 (by omega) low_k0 (by omega)).mono ?_; rintro e w2 ⟨g2, rfl, T2, t2⟩; have t2 := t2.fromDrew; have A2 := A1.later t2; have q2 := A2.s))
  have b2 := b1.trans (A1.turned t2 s1)
  have s2 := b2.size
  have x2 := A2.t
  have q2 := A2.drew.s
  clear x1 q1 A1 T1 b1 t2 B1 s1
  go_wp2_with fail
  have B2 : Bds w2.drew := (hB.later b2 (Nat.le_refl _)).drew
  go_region_held3 (fun w' => w'.cell? ⟨wb, 22, none⟩ = some (.pointer (some ⟨c.tb, 0, none⟩)) ∧ (LyEx (.pointer (some ⟨wb, 0, none⟩))).run Tryz.prog w' = .ok (.value (lyV (lay8 20))) w')
    (first | with_reducible exact q2 | with_reducible exact q3)
    (first
      | (go_at_call 12; refine (alloc_ok T2.drew A2.fit B2 1 (by omega) low_k1 (by omega)).mono ?_; rintro e w3 ⟨g3, rfl, T3, t3⟩; have t3 := t3.fromDrew; have A3 := A2.later t3; have q3 := A3.s))
  have b3 := b2.trans (A2.turned t3 s2)
  have s3 := b3.size
  have x3 := A3.t
  have q3 := A3.drew.s
  clear x2 q2 A2 T2 b2 t3 B2 s2
  go_wp2_with fail
  have B3 : Bds w3.drew := (hB.later b3 (Nat.le_refl _)).drew
  go_region_held3 (fun w' => w'.cell? ⟨wb, 22, none⟩ = some (.pointer (some ⟨c.tb, 0, none⟩)) ∧ (LyEx (.pointer (some ⟨wb, 0, none⟩))).run Tryz.prog w' = .ok (.value (lyV (lay8 20))) w')
    (first | with_reducible exact q3 | with_reducible exact q4)
    (first
      | (go_at_call 14; refine (free_ok T3.drew A3.fit B3 0 (by omega) bit_k2 (by omega)).mono ?_; rintro e w4 ⟨g4, rfl, T4, t4⟩; have t4 := t4.fromDrew; have A4 := A3.later t4; have q4 := A4.s))
  have b4 := b3.trans (A3.turned t4 s3)
  have s4 := b4.size
  have x4 := A4.t
  have q4 := A4.drew.s
  clear x3 q3 A3 T3 b3 t4 B3 s3
  go_wp2_with fail
  have B4 : Bds w4.drew := (hB.later b4 (Nat.le_refl _)).drew
  go_region_held3 (fun w' => w'.cell? ⟨wb, 22, none⟩ = some (.pointer (some ⟨c.tb, 0, none⟩)) ∧ (LyEx (.pointer (some ⟨wb, 0, none⟩))).run Tryz.prog w' = .ok (.value (lyV (lay8 20))) w')
    (first | with_reducible exact q4 | with_reducible exact q5)
    (first
      | (go_at_call 12; refine (alloc_ok T4.drew A4.fit B4 0 (by omega) low_k3 (by omega)).mono ?_; rintro e w5 ⟨g5, rfl, T5, t5⟩; have t5 := t5.fromDrew; have A5 := A4.later t5; have q5 := A5.s))
  have b5 := b4.trans (A4.turned t5 s4)
  have s5 := b5.size
  have x5 := A5.t
  have q5 := A5.drew.s
  clear x4 q4 A4 T4 b4 t5 B4 s4
  go_wp2_with fail
  have B5 : Bds w5.drew := (hB.later b5 (Nat.le_refl _)).drew
  have U5 := used_ok T5.drew A5.fit B5
  rw [cnt_k4] at U5
  go_region_held3 (fun w' => w'.cell? ⟨wb, 22, none⟩ = some (.pointer (some ⟨c.tb, 0, none⟩)) ∧ (LyEx (.pointer (some ⟨wb, 0, none⟩))).run Tryz.prog w' = .ok (.value (lyV (lay8 20))) w')
    (first | with_reducible exact q5 | with_reducible exact q6)
    (first
      | (go_at_call 15; refine (U5).mono ?_; rintro e w6 ⟨rfl, T6, t6⟩; have t6 := (t6.fromDrew).mono (G := fun i => c.G i ∨ i = c.wm) (fun _ _ => Or.inl); have A6 := A5.later t6; have q6 := A6.s))
  have b6 := b5.trans (A5.turned t6 s5)
  have s6 := b6.size
  have x6 := A6.t
  have q6 := A6.drew.s
  clear x5 q5 A5 T5 b5 t6 B5 s5 U5
  have x7 := A6.dt
  go_wp2_with fail
  refine (num8_any _ _).mono ?_
  rintro e wz ⟨rfl, hwz⟩
  subst wz
  go_wp2_with fail
  refine (num8_any _ _).mono ?_
  rintro e wz ⟨rfl, hwz⟩
  subst wz
  go_wp2_with fail
  refine (num8_any _ _).mono ?_
  rintro e wz ⟨rfl, hwz⟩
  subst wz
  go_wp2_with fail
  refine (num8_any _ _).mono ?_
  rintro e wz ⟨rfl, hwz⟩
  subst wz
  go_wp2_with fail
  refine (num8_any _ _).mono ?_
  rintro e wz ⟨rfl, hwz⟩
  subst wz
  go_wp2_with fail
  go_ret
  exact ⟨rfl, b6⟩
end Go.Proofs.YtfmcbjlagdanjaaGreatDoor

/- How the bits turn (of SpaceFills). -/
namespace Go.Proofs.YtfmcbjlagdanjaaGreatDoor
open Go.RowKit Go.Maps
set_option maxRecDepth 100000

/-- Which block is given back. -/
def backN (b : Int) (k : Nat) : Nat := ((b.tmod k + k).tmod k).toNat
theorem backN_bd (b : Int) (k : Nat) (h0 : 1 ≤ k) : backN b k < k ∧ (b.tmod k + k).tmod k = ((backN b k : Nat) : Int) := by
  have h1 : (b.tmod k).natAbs < k := by
    rw [Int.natAbs_tmod]
    exact Nat.mod_lt _ (by omega)
  have h2 : (b.tmod k + k).tmod k = (b.tmod k + k) % k := Int.tmod_eq_emod_of_nonneg (by omega)
  have h3 := Int.emod_nonneg (b.tmod k + k) (show (k : Int) ≠ 0 by omega)
  have h4 := Int.emod_lt_of_pos (b.tmod k + k) (show (0 : Int) < k by omega)
  unfold backN
  rw [h2]
  omega
theorem zero_bits (D : Nat) : Hid (∀ j, j < D → bitB zB j = decide (j < 0)) := by
  intro j _
  unfold bitB
  rw [show zB.getD (j / 8) 0 = 0 by unfold zB; rw [List.getD_eq_getElem?_getD, List.getElem?_replicate]; split <;> rfl]
  simp
theorem flip_next {bs : List Int} {D n : Nat} (hl : bs.length = 512) (hD : D ≤ 500) (hn : n < D) (h : ∀ j, j < D → bitB bs j = decide (j < n)) : ∀ j, j < D → bitB (flipB bs n) j = decide (j < n + 1) := by
  intro j hj
  rw [bitB_flip bs n j (by omega)]
  by_cases e : j = n
  · subst e
    simp [h j hj]
  · rw [if_neg e, h j hj]
    simp only [decide_eq_decide]
    omega
theorem flip_back {bs : List Int} {D r : Nat} (hl : bs.length = 512) (hD : D ≤ 500) (hr : r < D) (h : ∀ j, j < D → bitB bs j = true) : ∀ j, j < D → bitB (flipB bs r) j = decide (j ≠ r) := by
  intro j hj
  rw [bitB_flip bs r j (by omega)]
  by_cases e : j = r
  · subst e
    simp [h j hj]
  · rw [if_neg e, h j hj]
    simp [e]
theorem flip_again {bs : List Int} {D r : Nat} (hl : bs.length = 512) (hD : D ≤ 500) (hr : r < D) (h : ∀ j, j < D → bitB bs j = decide (j ≠ r)) : ∀ j, j < D → bitB (flipB bs r) j = true := by
  intro j hj
  rw [bitB_flip bs r j (by omega)]
  by_cases e : j = r
  · subst e
    simp [h j hj]
  · rw [if_neg e, h j hj]
    simp [e]
end Go.Proofs.YtfmcbjlagdanjaaGreatDoor

/- annexlaw8.does by its contract: one is given back. -/
namespace Go.Proofs.YtfmcbjlagdanjaaGreatDoor
open Go.RowKit Go.Maps
set_option maxRecDepth 100000
variable {zs : List Value} {cp : Nat}

attribute [local go_sem ↓ 100000] ly_store ly_load ex_load
set_option maxHeartbeats 2000000 in
theorem does_none {w0 w : World} {wb ub n D : Nat} {c : Tc} {m : List (Nat × Nat)} {bs : List Int} {us : List Bool} (A0 : Wd w0 w wb c D) (T0 : Ts w c n m bs) (hu : w.heap[ub]? = some (bb zs us)) (hlu : us.length = D) (h2 : D ≤ 500) (hT : Tells bs us) (hb0 : Below w0.heap.size w0 w) (hB : Bds w0) (K : Int) (hc : us.count true = 0) :
    Calls Tryz.prog 16 #[.pointer (some ⟨wb, 0, none⟩), .slice (some ⟨ub, 0, none⟩) D cp, .agg #[.bool true, .int .i64 K]] w fun e w' => ∃ n' m' bs' us', e = .returned (.bool true) ∧ n' ≤ n + 2 ∧ Wd w0 w' wb c D ∧ Ts w' c n' m' bs' ∧ w'.heap[ub]? = some (bb zs us') ∧ us'.length = D ∧ Tells bs' us' ∧ Below w0.heap.size w w' ∧ Turns (fun i => c.G i ∨ i = c.wm ∨ i = ub) w w' := by
  have HC : Hid (us.count true = 0) := hc
  have HT : Hid (Tells bs us) := hT
  clear hc hT
  have hs := hb0.size
  obtain ⟨W1, hW1⟩ : ∃ W, w.alloc (.cells #[.bool true, .int .i64 K] 46) = W := ⟨_, rfl⟩
  have p1 : Below w.heap.size w W1 := by rw [← hW1]; exact (Below.refl _ w).alloc (Nat.le_refl _) _
  have d1 : W1.heap[w.heap.size]? = some (.cells #[.bool true, .int .i64 K] 46 (0, 0)) := by rw [← hW1]; exact heap_alloc_last w _
  have df : W1.cell? ⟨w.heap.size, 0, none⟩ = some (.bool true) := by simp [World.cell?, d1]
  have dk : W1.cell? ⟨w.heap.size, 1, none⟩ = some (.int .i64 K) := by simp [World.cell?, d1]
  have A1 := A0.below p1
  have T1 := T0.below p1
  have u1 := (p1.block ub (heap_lt hu)).trans hu
  have b1 : Below w0.heap.size w W1 := p1.mono hs
  have r1 : Turns (fun i => c.G i ∨ i = c.wm ∨ i = ub) w W1 := Below.turns p1 _
  have B0 := hB.later (hb0.trans b1) (Nat.le_refl _)
  have s1 : w0.heap.size ≤ W1.heap.size := Nat.le_trans hs p1.size
  have hbl := T0.len
  have hD5 : (D : Int) ≤ 500 := by omega
  go_enter Tryz.func16, Tryz.ntmps16
  go_wp2_with fail
  try rw [hW1]
  clear hW1
  go_wp2_with fail
  have L1 := count_any (cp := cp) ub D us W1 u1 hlu h2
  rw [HC.out] at L1
  refine L1.mono ?_
  rintro e wz ⟨rfl, hwz⟩
  subst wz
  clear L1
  go_wp2_with fail
  go_ret
  exact ⟨_, _, _, _, rfl, by omega, A1, T1, u1, hlu, HT.out, b1, r1⟩
set_option maxHeartbeats 4000000 in
theorem does_free {w0 w : World} {wb ub n D : Nat} {c : Tc} {m : List (Nat × Nat)} {bs : List Int} {us : List Bool} (A0 : Wd w0 w wb c D) (T0 : Ts w c n m bs) (hu : w.heap[ub]? = some (bb zs us)) (hG : ¬ c.G ub) (hlu : us.length = D) (h2 : D ≤ 500) (hT : Tells bs us) (hn : n ≤ 2100) (hsu : w0.heap.size ≤ ub) (hb0 : Below w0.heap.size w0 w) (hB : Bds w0) (K : Int) (C : Nat) (hc : us.count true = C) (hC1 : 1 ≤ C) :
    Calls Tryz.prog 16 #[.pointer (some ⟨wb, 0, none⟩), .slice (some ⟨ub, 0, none⟩) D cp, .agg #[.bool true, .int .i64 K]] w fun e w' => ∃ n' m' bs' us', e = .returned (.bool true) ∧ n' ≤ n + 2 ∧ Wd w0 w' wb c D ∧ Ts w' c n' m' bs' ∧ w'.heap[ub]? = some (bb zs us') ∧ us'.length = D ∧ Tells bs' us' ∧ Below w0.heap.size w w' ∧ Turns (fun i => c.G i ∨ i = c.wm ∨ i = ub) w w' := by
  have HC : Hid (us.count true = C) := hc
  have HT : Hid (Tells bs us) := hT
  have hCD : C ≤ D := by rw [← hc, ← hlu]; exact List.count_le_length
  have hw1 : IntKind.i64.wrap (K.tmod C + C) = K.tmod C + C := by
    have h1 : (K.tmod C).natAbs < C := by
      rw [Int.natAbs_tmod]
      exact Nat.mod_lt _ (by omega)
    exact Go.IntWalk.i64_in _ ⟨by omega, by omega⟩
  obtain ⟨hr0, hw2⟩ := backN_bd K C hC1
  obtain ⟨r, hr⟩ : ∃ r, backN K C = r := ⟨_, rfl⟩
  rw [hr] at hr0 hw2
  have hCn : ¬ (C : Int) = 0 := by omega
  clear hc hT hr
  have hs := hb0.size
  obtain ⟨W1, hW1⟩ : ∃ W, w.alloc (.cells #[.bool true, .int .i64 K] 46) = W := ⟨_, rfl⟩
  have p1 : Below w.heap.size w W1 := by rw [← hW1]; exact (Below.refl _ w).alloc (Nat.le_refl _) _
  have d1 : W1.heap[w.heap.size]? = some (.cells #[.bool true, .int .i64 K] 46 (0, 0)) := by rw [← hW1]; exact heap_alloc_last w _
  have df : W1.cell? ⟨w.heap.size, 0, none⟩ = some (.bool true) := by simp [World.cell?, d1]
  have dk : W1.cell? ⟨w.heap.size, 1, none⟩ = some (.int .i64 K) := by simp [World.cell?, d1]
  have A1 := A0.below p1
  have T1 := T0.below p1
  have u1 := (p1.block ub (heap_lt hu)).trans hu
  have b1 : Below w0.heap.size w W1 := p1.mono hs
  have r1 : Turns (fun i => c.G i ∨ i = c.wm ∨ i = ub) w W1 := Below.turns p1 _
  have B0 := hB.later (hb0.trans b1) (Nat.le_refl _)
  have s1 : w0.heap.size ≤ W1.heap.size := Nat.le_trans hs p1.size
  have hbl := T0.len
  have hD5 : (D : Int) ≤ 500 := by omega
  go_enter Tryz.func16, Tryz.ntmps16
  go_wp2_with fail
  try rw [hW1]
  clear hW1
  go_wp2_with fail
  have L1 := count_any (cp := cp) ub D us W1 u1 hlu h2
  rw [HC.out] at L1
  refine L1.mono ?_
  rintro e wz ⟨rfl, hwz⟩
  subst wz
  clear L1
  go_wp2_with fail
  clear hw1 hw2 df dk
  go_loopw [8, 9] (fun k i wr => ∃ a x : Nat, a ≤ D ∧ k = .int .i64 x ∧ i = .int .i64 a ∧ Hid ((us.take a).count true + x = r) ∧ wr = W1) (fun _ i _ => D - (intOf i).toNat)
  case atStart => exact ⟨0, r, Nat.zero_le _, rfl, rfl, by simp [Hid], rfl⟩
  case round =>
    obtain ⟨a, x, ha, rfl, rfl, HX, hwr⟩ := hrel
    subst wr
    by_cases hlt : a < D
    · have hai : (a : Int) < D := by omega
      have hau : a < us.length := by omega
      have hca := bb_cell u1 a hau
      have HS : Hid ((us.take (a + 1)).count true = (us.take a).count true + if us.getD a false then 1 else 0) := by
        show _ = _
        rw [List.take_succ_eq_append_getElem hau, List.count_append, List.getD_eq_getElem?_getD, List.getElem?_eq_getElem hau]
        cases us[a] <;> simp
      by_cases hb : us.getD a false = true
      · rw [hb] at hca HS
        by_cases hx : x = 0
        · subst hx
          obtain ⟨w1, hw1⟩ : ∃ W, W1 = W := ⟨_, rfl⟩
          subst W1
          have x1 := A1.t
          have q1 := A1.drew.s3
          have B1 : Bds w1.drew := B0.drew
          have hwr : IntKind.i64.wrap (35 + (a : Int)) = 35 + a := Go.IntWalk.i64_in _ ⟨by omega, by omega⟩
          have HT2 : Hid (Tells (flipB bs a) (us.set a false)) := HT.out.set hbl (by omega) a hau false (by rw [hb]; rfl)
          have HB1 : Hid (bitB bs a = true) := by rw [← hb]; exact HT.out a hau
          have HB2 : Hid (bitB (flipB bs a) a = false) := by
            show _ = _
            rw [bitB_flip bs a a (by omega), if_pos rfl, HB1.out]
            rfl
          go_wp2_with fail
          go_region_held3 (fun w' => w'.cell? ⟨wb, 22, none⟩ = some (.pointer (some ⟨c.tb, 0, none⟩)) ∧ (LyEx (.pointer (some ⟨wb, 0, none⟩))).run Tryz.prog w' = .ok (.value (lyV (lay8 D))) w' ∧ w'.cell? ⟨wb, 9, none⟩ = some (.int .i64 35))
            (first | with_reducible exact q1 | with_reducible exact q2)
            (first
              | (go_at_call 14; refine (free_ok T1.drew A1.fit B1 a hlt HB1.out (by omega)).mono ?_; rintro e w2 ⟨g2, rfl, T2, t2⟩; have t2 := t2.fromDrew; have A2 := A1.later t2; have q2 := A2.s3))
          have b2 := b1.trans (A1.turned t2 s1)
          have r2 := r1.trans t2 (fun i _ r => r.elim Or.inl (fun e => Or.inr (Or.inl e)))
          have s2 : w0.heap.size ≤ w2.heap.size := Nat.le_trans hs b2.size
          have u2 := (t2.block ub (heap_lt u1) (fun h => h.elim hG (T1.mp.ne u1))).trans u1
          have B2 : Bds w2.drew := (hB.later (hb0.trans b2) (Nat.le_refl _)).drew
          have q2 := A2.drew.s3
          have x2 := A2.t
          clear x1 q1 A1 T1 b1 t2 B1 s1 u1
          go_wp2_with fail
          go_region_held3 (fun w' => w'.cell? ⟨wb, 22, none⟩ = some (.pointer (some ⟨c.tb, 0, none⟩)) ∧ (LyEx (.pointer (some ⟨wb, 0, none⟩))).run Tryz.prog w' = .ok (.value (lyV (lay8 D))) w' ∧ w'.cell? ⟨wb, 9, none⟩ = some (.int .i64 35))
            (first | with_reducible exact q2 | with_reducible exact q3)
            (first
              | (go_at_call 14; refine (free_un T2.drew A2.fit B2 a hlt HB2.out).mono ?_; rintro e w3 ⟨rfl, T3, t3⟩; have t3 := (t3.fromDrew).mono (G := fun i => c.G i ∨ i = c.wm) (fun _ _ => Or.inl); have A3 := A2.later t3; have q3 := A3.s3))
          have b3 := b2.trans (A2.turned t3 s2)
          have r3 := r2.trans t3 (fun i _ r => r.elim Or.inl (fun e => Or.inr (Or.inl e)))
          have u3 := (t3.block ub (heap_lt u2) (fun h => h.elim hG (T2.mp.ne u2))).trans u2
          have z3 := bb_cell u3 a hau
          have f3 : w3.frozen? ⟨ub, a, none⟩ = false := by simp [World.frozen?, u3]
          have tv := Turns.cell w3 ub a (.bool false)
          have u4 := bb_set u3 a hau false
          have A4 := A3.apart tv u3
          have T4 := T3.apart tv u3 hG
          have b4 := b3.trans (tv.below (fun _ e => e ▸ hsu) (Nat.le_trans hs b3.size))
          have r4 := r3.trans tv (fun _ _ e => Or.inr (Or.inr e))
          clear x2 q2 A2 T2 b2 t3 B2 s2 u2
          go_wp2_with fail
          refine (num8_any _ _).mono ?_
          rintro e wz ⟨rfl, hwz⟩
          subst wz
          go_wp2_with fail
          refine (num8_any _ _).mono ?_
          rintro e wz ⟨rfl, hwz⟩
          subst wz
          go_wp2_with fail
          try rw [Exit.noGoto_ret]
          go_ret
          exact ⟨_, _, _, _, rfl, by omega, A4, T4, u4, by rw [List.length_set]; exact hlu, HT2.out, b4, r4⟩
        · have hxi : ¬ (x : Int) = 0 := by omega
          have HX2 : Hid ((us.take (a + 1)).count true + (x - 1) = r) := by
            have := HX.out
            have := HS.out
            show _ = _
            simp at this
            omega
          have hxr : (x : Int) ≤ 500 := by have := HX.out; omega
          go_wp2_with fail
          exact ⟨⟨a + 1, x - 1, by omega, by go_num, by go_num, HX2, trivial⟩, by simp [intOf]; omega⟩
      · have hb : us.getD a false = false := by simpa using hb
        rw [hb] at hca HS
        have HX2 : Hid ((us.take (a + 1)).count true + x = r) := by
          have := HX.out
          have := HS.out
          show _ = _
          simp at this
          omega
        go_wp2_with fail
        exact ⟨⟨a + 1, x, by omega, rfl, by go_num, HX2, trivial⟩, by simp [intOf]; omega⟩
    · obtain rfl : a = D := by omega
      exfalso
      have := HX.out
      rw [← hlu, List.take_length, HC.out] at this
      omega
end Go.Proofs.YtfmcbjlagdanjaaGreatDoor

/- annexlaw8.does by its contract, whatever the deed. -/
namespace Go.Proofs.YtfmcbjlagdanjaaGreatDoor
open Go.RowKit Go.Maps
set_option maxRecDepth 100000
variable {zs : List Value} {cp : Nat}

theorem does_any {w0 w : World} {wb ub n D : Nat} {c : Tc} {m : List (Nat × Nat)} {bs : List Int} {us : List Bool} (A0 : Wd w0 w wb c D) (T0 : Ts w c n m bs) (hu : w.heap[ub]? = some (bb zs us)) (hG : ¬ c.G ub) (hlu : us.length = D) (h2 : D ≤ 500) (hT : Tells bs us) (hn : n ≤ 2100) (hsu : w0.heap.size ≤ ub) (hb0 : Below w0.heap.size w0 w) (hB : Bds w0) (f : Bool) (K : Int) :
    Calls Tryz.prog 16 #[.pointer (some ⟨wb, 0, none⟩), .slice (some ⟨ub, 0, none⟩) D cp, .agg #[.bool f, .int .i64 K]] w fun e w' => ∃ n' m' bs' us', e = .returned (.bool true) ∧ n' ≤ n + 2 ∧ Wd w0 w' wb c D ∧ Ts w' c n' m' bs' ∧ w'.heap[ub]? = some (bb zs us') ∧ us'.length = D ∧ Tells bs' us' ∧ Below w0.heap.size w w' ∧ Turns (fun i => c.G i ∨ i = c.wm ∨ i = ub) w w' := by
  cases f with
  | true =>
    by_cases hc : us.count true = 0
    · exact does_none A0 T0 hu hlu h2 hT hb0 hB K hc
    · exact does_free A0 T0 hu hG hlu h2 hT hn hsu hb0 hB K (us.count true) rfl (by omega)
  | false =>
    rcases lowU_cases us with ⟨i, hi, hi0, hil, hl⟩ | ⟨ha, hl⟩
    · exact does_take A0 T0 hu hG hlu h2 hT hn hsu hb0 hB K i hi hi0 hil hl
    · exact does_full A0 T0 hu hG hlu h2 hT hb0 hB K ha hl
end Go.Proofs.YtfmcbjlagdanjaaGreatDoor

/- The blocks of a map, rising: rising by its contract. (The library's sort by its own.) -/
namespace Go.Proofs.YtfmcbjlagdanjaaGreatDoor
open Go.RowKit Go.Maps Go.Sort
set_option maxRecDepth 100000

/-- What has been gathered of a map's keys. -/
structure Coll (D0 : DataW Value) (left : Lit → Bool) (ss : List Int) : Prop where
  nd : ss.Nodup
  iff : ∀ x : Int, x ∈ ss ↔ (has D0 (.int .i64 x) && !left (.int .i64 x)) = true
theorem Coll.start (D0 : DataW Value) : Coll D0 (has D0) [] := ⟨List.nodup_nil, fun x => by cases has D0 (.int .i64 x) <;> simp⟩
theorem Coll.step {D0 : DataW Value} {left : Lit → Bool} {ss : List Int} (h : Coll D0 left ss) {x : Int} (hl : left (.int .i64 x) = true) (hh : has D0 (.int .i64 x) = true) : Coll D0 (fun z => left z && !z.sameKey (.int .i64 x)) (ss ++ [x]) := by
  have hx : x ∉ ss := fun q => by have := (h.iff x).1 q; rw [hl] at this; simp at this
  refine ⟨?_, fun y => ?_⟩
  · rw [List.nodup_append]
    exact ⟨h.nd, by simp, fun a ha b hb e => by simp at hb; subst hb; subst e; exact hx ha⟩
  · rw [List.mem_append, List.mem_singleton, h.iff]
    by_cases e : y = x
    · subst e
      simp [hh, Lit.sameKey]
    · have : (Lit.int .i64 y).sameKey (.int .i64 x) = false := by simp [Lit.sameKey, e]
      simp [this, e]
theorem Coll.done {m : List (Nat × Nat)} {left : Lit → Bool} {ss : List Int} (hr : Rising m) (h : Coll (mD m) left ss) (hl : ∀ k, left k = false) : ss.mergeSort (fun x y => decide (x ≤ y)) = m.map (fun p => (p.1 : Int)) := by
  have hp : ss.Perm (m.map (fun p => (p.1 : Int))) := by
    refine (List.perm_ext_iff_of_nodup h.nd ?_).2 (fun x => ?_)
    · rw [List.nodup_iff_pairwise_ne, List.pairwise_map]
      exact hr.imp (fun {p q} hpq e => by omega)
    · rw [h.iff, hl, mD_has]
      simp only [Bool.not_false, Bool.and_true, List.any_eq_true, List.mem_map]
      constructor
      · rintro ⟨p, hp, hs⟩
        refine ⟨p, hp, ?_⟩
        simpa [Lit.sameKey] using hs
      · rintro ⟨p, hp, rfl⟩
        exact ⟨p, hp, by simp [Lit.sameKey]⟩
  have hs1 : (ss.mergeSort (fun x y => decide (x ≤ y))).Pairwise (fun a b => decide (a ≤ b) = true) := List.pairwise_mergeSort (fun a b c h1 h2 => by simp at *; omega) (fun a b => by simp; omega) ss
  have hs2 : (m.map (fun p => (p.1 : Int))).Pairwise (fun a b => decide (a ≤ b) = true) := by
    rw [List.pairwise_map]
    exact hr.imp (fun {p q} hpq => by simp; omega)
  exact ((List.mergeSort_perm ss _).trans hp).eq_of_pairwise (fun a b _ _ h1 h2 => by simp at h1 h2; omega) hs1 hs2

theorem Tryz.info3 : (Tryz.prog.info? 3).map (fun i => (i.zero, i.size, i.bytes)) = some (some (.int .i64 0), 1, 8) := by kernel_rfl
theorem iter_ne {w : World} {bm r n : Nat} {m : List (Nat × Nat)} {left : Lit → Bool} {cnt : Nat} (h : w.ranges Tryz.prog 3 RV bm r n (mD m) left cnt) {base e k : Nat} {v : Value} {xs : List Value} (ho : w.ownsRow base e 1 v k xs) : v.ownBlock ≠ some r := fun q => by
  rcases ho.2 with ⟨r1, _⟩ | ⟨g, cap, cur, r1, _, hh, _⟩
  · rw [r1] at q; cases q
  · rw [r1] at q; cases q
    obtain ⟨es, clock, since, seen, c0, _, _, _, _, hit, _⟩ := h
    rw [hh] at hit
    cases hit
set_option maxHeartbeats 400000 in
theorem sort_h {w wr : World} {g cap base : Nat} {cur : Array Value} {ss ts : List Int} {L : Nat} (hB : Below base w wr) (hbase : base ≤ g) (hb : wr.heap[g]? = some (.cells cur 3 (0, 0))) (h1 : ss.length ≤ cap) (h2 : cap ≤ maxLen) (h3 : cur.size = cap * 1) (h4 : cur.toList.take (ss.length * 1) = ss.map (Value.int .i64)) (hss : ss.mergeSort (fun x y => decide (x ≤ y)) = ts) (hlen : ss.length = L) (hl : ss.length ≤ 100000) (hsz : base ≤ wr.heap.size) :
    Calls Tryz.prog 105 #[.slice (some ⟨g, 0, none⟩) ss.length cap] wr fun e w' => e = .returned (.tuple #[]) ∧ w'.ownsRow base 3 1 (.slice (some ⟨g, 0, none⟩) L cap) L (ts.map (Value.int .i64)) ∧ Below base w w' := by
  have hH : Holds (Value.int .i64) wr g 0 ss.toArray := holds_of_blockI hb (by simpa using h4)
  refine (Tryz.slices_Sort_int g 0 cap ss wr hH (heap_lt hb) (by omega)).mono ?_
  rintro e w' ⟨rfl, nn, os, rfl⟩
  subst hlen
  subst hss
  refine ⟨rfl, ?_, ?_⟩
  · exact ownsRow_sortedI (by simp) hbase hb h1 h2 h3
  · exact hB.grown (grownBy_sortedI _) hsz (fun j hj => by cases hj; exact hbase)
set_option maxHeartbeats 1000000 in
theorem rising_any {w : World} {bm n : Nat} {m : List (Nat × Nat)} (h : Mp w bm n m) (hn : m.length ≤ 100000) :
    Calls Tryz.prog 50 #[.map (some bm)] w fun e w' => ∃ g c, e = .returned (.slice (some ⟨g, 0, none⟩) m.length c) ∧ w'.ownsRow w.heap.size 3 1 (.slice (some ⟨g, 0, none⟩) m.length c) m.length (m.map fun p => .int .i64 p.1) ∧ Below w.heap.size w w' := by
  obtain ⟨i0, hi, hz0, hz1, hz2⟩ := info_parts Tryz.info3
  have hown := h.own
  have hsz : Maps.size (mD m) = m.length := by simp [mD, Maps.size_eq]
  have hbl := hown.lt
  have hln : (Maps.size (mD m) : Int) = (m.length : Int) := by rw [hsz]
  go_enter Tryz.func50, Tryz.ntmps50
  go_wp2_with (first
    | (at_len; refine wpList_len_own _ rfl _ 105 rfl 3 66 Tryz.underlying105 _ bm n _ rfl hown ?_)
    | (at_make; refine wpList_make_own _ rfl _ _ 47 rfl w.heap.size 3 i0 (.int .i64 0) 1 Tryz.underlying47 hi hz0 hz1 _ _ _ m.length rfl rfl hln (by rw [hz2]; omega) (by unfold maxLen; omega) (Nat.le_refl _) ?_; intro w1 hrow1 hg1)
    | (at_range; refine wpList_range_own _ rfl _ 105 rfl 3 66 law3 Tryz.underlying105 _ bm n _ rfl (hown.kept hg1 (by simp)) ?_; intro w0 hrg0 hg0 hs0))
  have hb1 : Below w.heap.size w w1 := (Below.refl _ _).grown hg1 (Nat.le_refl _) (fun j hj => by cases hj)
  have hb0 : Below w.heap.size w w0 := hb1.grown hg0 hg1.size (fun j hj => by cases hj)
  go_frame
  go_loopw [3] (fun v wr => ∃ (left : Lit → Bool) (cnt : Nat) (ss : List Int), wr.ranges Tryz.prog 3 RV bm w1.heap.size n (mD m) left cnt ∧ ss.length + cnt ≤ m.length ∧ wr.ownsRow w.heap.size 3 1 v ss.length (ss.map (Value.int .i64)) ∧ v ≠ .slice none 0 0 ∧ Coll (mD m) left ss ∧ Below w.heap.size w wr) (fun _ wr => wr.rangeLeft bm w1.heap.size)
  case atStart =>
    exact ⟨_, _, [], hrg0, by rw [hsz]; simp, hrow1.kept hg0 (Or.inr (by simp [Value.ownBlock])), by simp, Coll.start _, hb0⟩
  case round =>
    obtain ⟨left, cnt, ss, hrg, hcs, hrow, hnn, hC, hB⟩ := hrel
    go_wp2_with (at_next; refine wpList_next_ranges _ rfl _ rfl 3 law3 RV (Value.int .i64) id (fun key kl hk => by obtain ⟨x, hx, _⟩ := Maps.keyOf_int_inv Tryz.underlying3 hk; exact ⟨x, hx⟩) (fun v _ _ => ⟨v, rfl⟩) bm w1.heap.size n _ _ _ rfl hrg ?_ ?_)
    · intro hc0 hl0
      rcases hrow.2 with ⟨hnil, _⟩ | ⟨g, cap, cur, rfl, hbase, hb, h1, h2, h3, h4⟩
      · exact absurd hnil hnn
      have hss := hC.done h.ris hl0
      have hlen : ss.length = m.length := by
        have := congrArg List.length hss
        simpa using this
      have hc := sort_h hB hbase hb h1 h2 h3 h4 hss hlen (by omega) hB.size
      rw [hlen] at hc
      have HC : Hid (Calls Tryz.prog 105 #[.slice (some ⟨g, 0, none⟩) m.length cap] wr fun e w' => e = .returned (.tuple #[]) ∧ w'.ownsRow w.heap.size 3 1 (.slice (some ⟨g, 0, none⟩) m.length cap) m.length ((m.map (fun p => (p.1 : Int))).map (Value.int .i64)) ∧ Below w.heap.size w w') := hc
      clear hc hss hb h1 h2 h3 h4 hC hrg hrow hown hl0 h hrg0 hrow1 hg0 hs0
      go_wp2_with fail
      refine Calls.mono (R := fun e w' => e = .returned (.tuple #[]) ∧ w'.ownsRow w.heap.size 3 1 (.slice (some ⟨g, 0, none⟩) m.length cap) m.length ((m.map (fun p => (p.1 : Int))).map (Value.int .i64)) ∧ Below w.heap.size w w') HC.out ?_
      rintro e w' ⟨rfl, hS, hG⟩
      clear HC
      go_wp2
      go_ret
      exact ⟨g, cap, by first | rfl | rw [hlen], by simpa [List.map_map, Function.comp_def] using hS, hG⟩
    · intro x c kl yd yp w2 cnt2 hkey hlk hv hyp hat hrg2 hlt hg2 hs2 hen
      obtain ⟨x', ex, rfl, _⟩ := Maps.keyOf_int_inv Tryz.underlying3 hkey
      obtain rfl : x = x' := by cases ex; rfl
      have hrow2 := hrow.kept hg2 (Or.inr (iter_ne hrg hrow))
      have hhas : has (mD m) (.int .i64 x) = true := has_true_of_atKey hat
      have hsB := hB.size
      have hsg := hg2.size
      clear hs2 hv hyp hat
      obtain ⟨av, cv, rfl⟩ := row_slice hrow2
      go_wp2_with (at_builtin; refine wpList_append_own_at _ rfl _ _ 47 rfl w.heap.size 3 i0 (.int .i64 0) 1 8 Tryz.underlying47 hi hz0 hz1 hz2 rfl (by decide) _ _ _ rfl (hrow2.alloc _) ⟨w2.heap.size, 0, none⟩ 1 1 [.int .i64 x] rfl rfl (cell_one_new _ _ _) (by intro u hu; simp at hu; subst hu; rfl) (by unfold maxLen; omega) (by omega) (by simp; omega) ?_; intro v3 w3 hv3 hg3 hnil3 hat3; go_frame)
      have hrg3 := (hrg2.alloc (.cells #[.int .i64 x] 3)).kept hg3 (fun q => by have := (hrow2.lt bm q.symm).1; omega) (fun q => iter_ne hrg2 hrow2 q.symm)
      have hB3 : Below w.heap.size w w3 := ((hB.grown hg2 hsB (fun j hj => by cases hj; exact hg1.size)).alloc (by omega) _).grown hg3 (by simp; omega) (fun j hj => (hrow2.lt j hj).1)
      go_roundw
      case rel => exact ⟨_, cnt2, ss ++ [x], hrg3, by simp; omega, by simpa using hv3, (fun q => by have := (hnil3.1 q).2; omega), hC.step hlk hhas, hB3⟩
      case measure => rw [hrg3.left_eq, hrg.left_eq]; exact hlt
end Go.Proofs.YtfmcbjlagdanjaaGreatDoor

/- Blocks, Seq by their contracts. -/
namespace Go.Proofs.YtfmcbjlagdanjaaGreatDoor
open Go.RowKit Go.Maps
set_option maxRecDepth 100000

theorem blocks_ok {w : World} {tb jb wm n : Nat} {sv : Value} {last : Int} {m : List (Nat × Nat)} (hT : Tb w tb jb wm sv last) (hM : Mp w wm n m) (hn : m.length ≤ 100000) :
    Calls Tryz.prog 17 #[.pointer (some ⟨tb, 0, none⟩)] w fun e w' => ∃ g c, e = .returned (.slice (some ⟨g, 0, none⟩) m.length c) ∧ w'.ownsRow w.heap.size 3 1 (.slice (some ⟨g, 0, none⟩) m.length c) m.length (m.map fun p => .int .i64 p.1) ∧ Below w.heap.size w w' := by
  have t1 := hT.cells.c1
  go_enter Tryz.func17, Tryz.ntmps17
  go_wp2_with fail
  refine (rising_any hM hn).mono ?_
  rintro e w1 ⟨g, c, rfl, ho, b1⟩
  go_wp2
  go_ret
  exact ⟨g, c, rfl, ho, b1⟩
end Go.Proofs.YtfmcbjlagdanjaaGreatDoor

/- maps.Copy between maps from blocks to blocks, by its contract. -/
namespace Go.Proofs.YtfmcbjlagdanjaaGreatDoor
open Go.RowKit Go.Maps
set_option maxRecDepth 100000

/-- One map's entries laid into another. -/
def mmerge (a m : List (Nat × Nat)) : List (Nat × Nat) := m.foldl (fun a p => mput a p.1 p.2) a
def Low (m : List (Nat × Nat)) : Prop := ∀ p ∈ m, p.1 < 4096
theorem low_key {b : Nat} (h : b < 4096) : KeysOf Tryz.prog 3 (.int .i64 b) := ⟨_, int_key b h⟩
theorem mD_canonK {a : List (Nat × Nat)} (hr : Rising a) (hl : Low a) : CanonK (KeysOf Tryz.prog 3) (mD a) := by
  refine ⟨_, rfl, ?_, fun p hp => ?_⟩
  · rw [List.pairwise_map]
    exact hr.imp (fun {p q} hpq => by simp [Lit.before]; omega)
  · obtain ⟨q, hq, rfl⟩ := List.mem_map.1 hp
    exact low_key (hl q hq)
theorem mput_low {a : List (Nat × Nat)} {b g : Nat} (hl : Low a) (hb : b < 4096) : Low (mput a b g) := fun p hp => by
  rcases mput_mem hp with rfl | hp
  · exact hb
  · exact hl p hp
theorem merge_fold : ∀ (m a : List (Nat × Nat)), Rising a → Low a → Low m → (m.map fun p => ((.int .i64 p.1, .held (hv p.2)) : Lit × DataW Value)).foldl (fun D p => D.put p.1 p.2) (mD a) = mD (mmerge a m)
  | [], a, _, _, _ => rfl
  | p :: m, a, hr, ha, hm => by
    have hp := hm p (by simp)
    have hc := (canonK_put law3.one (low_key hp) (.held (hv p.2)) (mD_canonK hr ha)).canon law3.one
    rw [List.map_cons, List.foldl_cons, mD_put hr p.1 p.2 hc]
    exact merge_fold m _ (mput_rising _ _ hr) (mput_low ha hp) (fun q hq => hm q (by simp [hq]))
theorem merge_rising {a : List (Nat × Nat)} (hr : Rising a) : ∀ m : List (Nat × Nat), Rising (mmerge a m) := fun m => by
  unfold mmerge
  induction m generalizing a with
  | nil => exact hr
  | cons p m ih => exact ih (mput_rising _ _ hr)
theorem merge_low {a : List (Nat × Nat)} (ha : Low a) : ∀ m : List (Nat × Nat), Low m → Low (mmerge a m) := fun m hm => by
  unfold mmerge
  induction m generalizing a with
  | nil => exact ha
  | cons p m ih => exact ih (mput_low ha (hm p (by simp))) (fun q hq => hm q (by simp [hq]))
theorem lk_merge : ∀ (m a : List (Nat × Nat)) (x : Nat), Rising a → Rising m → lk (mmerge a m) x = (lk m x).or (lk a x)
  | [], a, x, _, _ => by simp [mmerge, lk]
  | p :: m, a, x, ha, hm => by
    obtain ⟨h1, h2⟩ := List.pairwise_cons.1 hm
    have ih := lk_merge m (mput a p.1 p.2) x (mput_rising _ _ ha) h2
    show lk (mmerge (mput a p.1 p.2) m) x = _
    rw [ih, lk_mput a p.1 p.2 x ha, lk_cons]
    by_cases e : p.1 = x
    · rw [if_pos e, if_pos e]
      have : lk m x = none := lk_none (fun q hq r => by have := h1 q hq; omega)
      rw [this]; rfl
    · rw [if_neg e, if_neg e]
set_option maxHeartbeats 1000000 in
theorem copy_any {w : World} {bd bs nd ns : Nat} {a m : List (Nat × Nat)} (hA : Mp w bd nd a) (hM : Mp w bs ns m) (hne : bd ≠ bs) (ha : Low a) (hm : Low m) (hroom : nd + m.length ≤ 1000000) :
    Calls Tryz.prog 153 #[.map (some bd), .map (some bs)] w fun e w' => e = .returned (.tuple #[]) ∧ Mp w' bd (nd + m.length) (mmerge a m) ∧ Mp w' bs ns m ∧ Turns (fun i => i = bd) w w' := by
  have hsz : Maps.size (mD m) = m.length := by simp [mD, Maps.size_eq]
  refine (AnyX.maps_Copy Tryz.mcopy law3 RV bd bs nd ns (mD a) (mD m) w hA.own hM.own hne (by rw [hsz]; unfold maxLen; omega)).mono ?_
  rintro e w' ⟨rfl, h1, h2, h3⟩
  rw [hsz] at h1
  have hmg : Lib.mergeD (mD a) (mD m) = mD (mmerge a m) := merge_fold m a hA.ris ha hm
  rw [hmg] at h1
  exact ⟨rfl, ⟨h1, merge_rising hA.ris m⟩, ⟨h2, hM.ris⟩, Turns.grown h3 (fun x hx => (Option.some.inj hx).symm)⟩
end Go.Proofs.YtfmcbjlagdanjaaGreatDoor
