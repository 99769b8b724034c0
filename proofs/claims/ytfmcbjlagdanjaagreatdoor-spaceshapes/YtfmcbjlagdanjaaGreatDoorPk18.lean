/- A plain list of what is in use; count and lowest by their contracts. -/
import Derived.Test.YtfmcbjlagdanjaaGreatDoorPk13
import Derived.BigQuiet
import Derived.Test.YtfmcbjlagdanjaaGreatDoorPk17
namespace Go.Proofs.YtfmcbjlagdanjaaGreatDoor
open Go.RowKit Go.Maps
set_option maxRecDepth 100000

/-- A row of truths in memory. -/
abbrev bb (us : List Bool) : Obj := .cells (us.map Value.bool).toArray 4
theorem bb_cell {w : World} {g : Nat} {us : List Bool} (h : w.heap[g]? = some (bb us)) (j : Nat) (hj : j < us.length) : w.cell? ⟨g, j, none⟩ = some (.bool (us.getD j false)) := by
  simp only [World.cell?, h]
  simp [hj]
theorem bb_set {w : World} {g : Nat} {us : List Bool} (h : w.heap[g]? = some (bb us)) (j : Nat) (x : Bool) : (w.setCell ⟨g, j, none⟩ (.bool x)).heap[g]? = some (bb (us.set j x)) := by
  rw [heap_setCell_same _ _ _ _ _ _ h]
  simp [bb, List.map_set]
theorem bb_made (w : World) (n : Nat) : (w.alloc (.cells (madeCells #[.bool false] n) 4)).heap[w.heap.size]? = some (bb (List.replicate n false)) := by
  have e : madeCells #[Value.bool false] n = (List.replicate n (Value.bool false)).toArray := by
    rw [← toList_madeCells_one]
  rw [e, heap_alloc_last]
  simp
/-- The bits are as the list says. -/
def Tells (bs : List Int) (us : List Bool) : Prop := ∀ i, i < us.length → bitB bs i = us.getD i false
/-- The first that is not in use. -/
def lowU (us : List Bool) : Int := (us.findIdx? (fun b => !b)).elim (-1) (fun i => (i : Int))
theorem lowU_some {us : List Bool} {i : Nat} (hi : i < us.length) (hb : us.getD i false = false) (hl : ∀ j, j < i → us.getD j false = true) : lowU us = i := by
  have e : us.findIdx? (fun b => !b) = some i := by
    rw [List.findIdx?_eq_some_iff_getElem]
    refine ⟨hi, ?_, fun j hj => ?_⟩
    · rw [List.getD_eq_getElem?_getD, List.getElem?_eq_getElem hi] at hb
      simpa using hb
    · have := hl j hj
      rw [List.getD_eq_getElem?_getD, List.getElem?_eq_getElem (by omega)] at this
      simpa using this
  unfold lowU
  rw [e]; rfl
theorem lowU_none {us : List Bool} (hl : ∀ j, j < us.length → us.getD j false = true) : lowU us = -1 := by
  have e : us.findIdx? (fun b => !b) = none := by
    rw [List.findIdx?_eq_none_iff]
    intro x hx
    obtain ⟨j, hj, rfl⟩ := List.getElem_of_mem hx
    have := hl j hj
    rw [List.getD_eq_getElem?_getD, List.getElem?_eq_getElem hj] at this
    simpa using this
  unfold lowU
  rw [e]; rfl
theorem lowU_cases (us : List Bool) : (∃ i, i < us.length ∧ us.getD i false = false ∧ (∀ j, j < i → us.getD j false = true) ∧ lowU us = (i : Nat)) ∨ ((∀ j, j < us.length → us.getD j false = true) ∧ lowU us = -1) := by
  cases e : us.findIdx? (fun b => !b) with
  | some i =>
    left
    obtain ⟨hi, hb, hl⟩ := List.findIdx?_eq_some_iff_getElem.1 e
    refine ⟨i, hi, ?_, fun j hj => ?_, by unfold lowU; rw [e]; rfl⟩
    · rw [List.getD_eq_getElem?_getD, List.getElem?_eq_getElem hi]
      simpa using hb
    · rw [List.getD_eq_getElem?_getD, List.getElem?_eq_getElem (by omega)]
      simpa using hl j hj
  | none =>
    right
    refine ⟨fun j hj => ?_, by unfold lowU; rw [e]; rfl⟩
    rw [List.getD_eq_getElem?_getD, List.getElem?_eq_getElem hj]
    have := List.findIdx?_eq_none_iff.1 e us[j] (List.getElem_mem hj)
    simpa using this
theorem Tells.cnt {bs : List Int} {us : List Bool} (h : Tells bs us) : ∀ n, n ≤ us.length → cntB bs n = (us.take n).count true
  | 0, _ => by simp [cntB]
  | n + 1, hn => by
    unfold cntB
    rw [h.cnt n (by omega), h n (by omega), List.take_succ_eq_append_getElem (by omega), List.count_append, List.getD_eq_getElem?_getD, List.getElem?_eq_getElem (by omega)]
    cases us[n] <;> simp
theorem Tells.set {bs : List Int} {us : List Bool} (h : Tells bs us) (hl : bs.length = 512) (hu : us.length ≤ 500) (i : Nat) (hi : i < us.length) (x : Bool) (hx : us.getD i false = !x) : Tells (flipB bs i) (us.set i x) := by
  intro j hj
  rw [List.length_set] at hj
  rw [bitB_flip bs i j (by omega)]
  by_cases e : j = i
  · subst e
    rw [if_pos rfl, h j hj, hx]
    simp [List.getD_eq_getElem?_getD, hj]
  · rw [if_neg e, h j hj]
    simp [List.getD_eq_getElem?_getD, List.getElem?_set_ne (Ne.symm e)]
set_option maxHeartbeats 1000000 in
theorem count_any (g n : Nat) (us : List Bool) (w : World) (h : w.heap[g]? = some (bb us)) (hn : us.length = n) (hm : n ≤ 500) :
    Calls Tryz.prog 48 #[.slice (some ⟨g, 0, none⟩) n n] w fun e w' => e = .returned (.int .i64 ((us.count true : Nat) : Int)) ∧ w' = w := by
  have HN : Hid (us.length = n) := hn
  have hni : (n : Int) ≤ 500 := by omega
  clear hn
  go_enter Tryz.func48, Tryz.ntmps48
  go_wp2_with fail
  go_loopw [3, 4] (fun f i wr => ∃ a : Nat, a ≤ n ∧ f = .int .i64 (((us.take a).count true : Nat) : Int) ∧ i = .int .i64 a ∧ wr = w) (fun _ i _ => n - (intOf i).toNat)
  case atStart => exact ⟨0, Nat.zero_le _, by simp, rfl, rfl⟩
  case round =>
    obtain ⟨a, ha, rfl, rfl, hwr⟩ := hrel
    subst wr
    by_cases hlt : a < n
    · have hai : (a : Int) < n := by omega
      have hc := bb_cell h a (by rw [HN.out]; exact hlt)
      have hle : (us.take a).count true ≤ a := Nat.le_trans List.count_le_length (by simp; omega)
      have HS : Hid ((us.take (a + 1)).count true = (us.take a).count true + if us.getD a false then 1 else 0) := by
        have hl : a < us.length := by rw [HN.out]; exact hlt
        show _ = _
        rw [List.take_succ_eq_append_getElem hl, List.count_append, List.getD_eq_getElem?_getD, List.getElem?_eq_getElem hl]
        cases us[a] <;> simp
      obtain ⟨C, hC⟩ : ∃ C, (us.take a).count true = C := ⟨_, rfl⟩
      rw [hC] at HS hle ⊢
      have hCi : (C : Int) ≤ 1000 := by omega
      obtain ⟨b, hb⟩ : ∃ b, us.getD a false = b := ⟨_, rfl⟩
      rw [hb] at HS hc
      clear hC hb
      cases b with
      | true =>
        go_wp2_with fail
        exact ⟨⟨a + 1, by omega, by rw [HS.out]; rfl, by go_num, trivial⟩, by simp [intOf]; omega⟩
      | false =>
        go_wp2_with fail
        exact ⟨⟨a + 1, by omega, by rw [HS.out]; rfl, by go_num, trivial⟩, by simp [intOf]; omega⟩
    · obtain rfl : a = n := by omega
      go_wp2_with fail
      go_ret
      exact ⟨by rw [← HN.out, List.take_length]; rfl, rfl⟩
set_option maxHeartbeats 1000000 in
theorem lowestU_any (g n : Nat) (us : List Bool) (w : World) (h : w.heap[g]? = some (bb us)) (hn : us.length = n) (hm : n ≤ 500) :
    Calls Tryz.prog 49 #[.int .i64 n, .slice (some ⟨g, 0, none⟩) n n] w fun e w' => e = .returned (.int .i64 (lowU us)) ∧ w' = w := by
  have HN : Hid (us.length = n) := hn
  have hni : (n : Int) ≤ 500 := by omega
  clear hn
  go_enter Tryz.func49, Tryz.ntmps49
  go_wp2_with fail
  go_loopw [5] (fun i wr => ∃ a : Nat, a ≤ n ∧ i = .int .i64 a ∧ Hid (∀ j, j < a → us.getD j false = true) ∧ wr = w) (fun i _ => n - (intOf i).toNat)
  case atStart => exact ⟨0, Nat.zero_le _, rfl, (fun j hj => by omega), rfl⟩
  case round =>
    obtain ⟨a, ha, rfl, HA, hwr⟩ := hrel
    subst wr
    by_cases hlt : a < n
    · have hai : (a : Int) < n := by omega
      have hc := bb_cell h a (by rw [HN.out]; exact hlt)
      by_cases hb : us.getD a false = true
      · rw [hb] at hc
        have HS : Hid (∀ j, j < a + 1 → us.getD j false = true) := fun j hj => by
          by_cases e : j = a
          · rw [e]; exact hb
          · exact HA.out j (by omega)
        clear hb
        go_wp2_with fail
        exact ⟨⟨a + 1, by omega, by go_num, HS, trivial⟩, by simp [intOf]; omega⟩
      · have hb : us.getD a false = false := by simpa using hb
        have HL : Hid (lowU us = (a : Nat)) := lowU_some (by rw [HN.out]; exact hlt) hb HA.out
        rw [hb] at hc
        clear hb
        go_wp2_with fail
        try rw [Exit.noGoto_ret]
        go_ret
        exact ⟨by rw [HL.out]; rfl, rfl⟩
    · obtain rfl : a = n := by omega
      have HL : Hid (lowU us = -1) := lowU_none (by rw [HN.out]; exact HA.out)
      go_wp2_with fail
      try rw [Exit.noGoto_ret]
      go_ret
      exact ⟨by rw [HL.out]; rfl, rfl⟩
end Go.Proofs.YtfmcbjlagdanjaaGreatDoor

/- annexlaw8.does by its contract: a block is taken. -/
namespace Go.Proofs.YtfmcbjlagdanjaaGreatDoor
open Go.RowKit Go.Maps
set_option maxRecDepth 100000

/-- Where a row of truths alone has turned. -/
theorem Ts.apart {w w' : World} {c : Tc} {n u : Nat} {m : List (Nat × Nat)} {bs : List Int} {us : List Bool} (h : Ts w c n m bs) (t : Turns (fun i => i = u) w w') (hu : w.heap[u]? = some (bb us)) (hG : ¬ c.G u) : Ts w' c n m bs := by
  have nj : c.jb ≠ u := fun e => by
    have := h.jour
    unfold Jb at this
    rw [e, hu] at this
    exact absurd (Obj.cells.inj (Option.some.inj this)).2.1 (by decide)
  have nt : c.tb ≠ u := fun e => by
    have := h.tx
    unfold Tb at this
    rw [e, hu] at this
    exact absurd (Obj.cells.inj (Option.some.inj this)).2.1 (by decide)
  have nm : c.wm ≠ u := (h.mp.ne hu).symm
  have na : c.bm ≠ u := (h.am.ne hu).symm
  have ng : ∀ g, lk m c.b = some g → ¬ g = u := fun g hg e => by
    rcases h.see with ⟨g', h1, h2⟩ | ⟨h1, _⟩
    · rw [hg] at h1
      cases h1
      rw [e, hu] at h2
      exact absurd (Obj.cells.inj (Option.some.inj h2)).2.1 (by decide)
    · rw [hg] at h1
      cases h1
  exact { h with dev := h.dev.turns t (fun i hi e => hG (e ▸ hi)), jour := (t.block _ (heap_lt h.jour) nj).trans h.jour, tx := (t.block _ (heap_lt h.tx) nt).trans h.tx, mp := h.mp.turns t nm, am := h.am.turns t na, see := h.see.turns t ng (fun g hg => by simp [lk] at hg) }
theorem Wd.apart {w0 w w' : World} {wb u : Nat} {c : Tc} {D : Nat} {us : List Bool} (h : Wd w0 w wb c D) (t : Turns (fun i => i = u) w w') (hu : w.heap[u]? = some (bb us)) : Wd w0 w' wb c D :=
  { h with box := (t.block wb (heap_lt h.box) (fun e => by have := h.box; rw [e, hu] at this; exact absurd (Obj.cells.inj (Option.some.inj this)).2.1 (by decide))).trans h.box }
theorem Wd.s3 {w0 w : World} {wb : Nat} {c : Tc} {D : Nat} (h : Wd w0 w wb c D) : w.cell? ⟨wb, 22, none⟩ = some (.pointer (some ⟨c.tb, 0, none⟩)) ∧ (LyEx (.pointer (some ⟨wb, 0, none⟩))).run Tryz.prog w = .ok (.value (lyV (lay8 D))) w ∧ w.cell? ⟨wb, 9, none⟩ = some (.int .i64 35) := ⟨h.s.1, h.s.2, h.dt⟩
attribute [local go_sem ↓ 100000] ly_store ly_load ex_load
set_option maxHeartbeats 4000000 in
theorem does_full {w0 w : World} {wb ub n D : Nat} {c : Tc} {m : List (Nat × Nat)} {bs : List Int} {us : List Bool} (A0 : Wd w0 w wb c D) (T0 : Ts w c n m bs) (hu : w.heap[ub]? = some (bb us)) (hG : ¬ c.G ub) (hlu : us.length = D) (h2 : D ≤ 500) (hT : Tells bs us) (hb0 : Below w0.heap.size w0 w) (hB : Bds w0) (K : Int) (hall : ∀ j, j < us.length → us.getD j false = true) (hlow : lowU us = -1) :
    Calls Tryz.prog 16 #[.pointer (some ⟨wb, 0, none⟩), .slice (some ⟨ub, 0, none⟩) D D, .agg #[.bool false, .int .i64 K]] w fun e w' => ∃ n' m' bs' us', e = .returned (.bool true) ∧ n' ≤ n + 2 ∧ Wd w0 w' wb c D ∧ Ts w' c n' m' bs' ∧ w'.heap[ub]? = some (bb us') ∧ us'.length = D ∧ Tells bs' us' ∧ Below w0.heap.size w w' := by
  have HL : Hid (lowU us = -1) := hlow
  have HZ : Hid (lowZ bs D = -1) := lowZ_none (fun j hj => by rw [hT j (by omega)]; exact hall j (by omega))
  have HT : Hid (Tells bs us) := hT
  clear hlow hT
  have hs := hb0.size
  obtain ⟨W1, hW1⟩ : ∃ W, w.alloc (.cells #[.bool false, .int .i64 K] 46) = W := ⟨_, rfl⟩
  have p1 : Below w.heap.size w W1 := by rw [← hW1]; exact (Below.refl _ w).alloc (Nat.le_refl _) _
  have d1 : W1.heap[w.heap.size]? = some (.cells #[.bool false, .int .i64 K] 46 (0, 0)) := by rw [← hW1]; exact heap_alloc_last w _
  have df : W1.cell? ⟨w.heap.size, 0, none⟩ = some (.bool false) := by simp [World.cell?, d1]
  have dk : W1.cell? ⟨w.heap.size, 1, none⟩ = some (.int .i64 K) := by simp [World.cell?, d1]
  have A1 := A0.below p1
  have T1 := T0.below p1
  have u1 := (p1.block ub (heap_lt hu)).trans hu
  have b1 : Below w0.heap.size w W1 := p1.mono hs
  have B0 := hB.later (hb0.trans b1) (Nat.le_refl _)
  have s1 : w0.heap.size ≤ W1.heap.size := Nat.le_trans hs p1.size
  have hbl := T0.len
  have hD5 : (D : Int) ≤ 500 := by omega
  go_enter Tryz.func16, Tryz.ntmps16
  go_wp2_with fail
  try rw [hW1]
  clear hW1
  go_wp2_with fail
  have L1 := lowestU_any ub D us W1 u1 hlu h2
  rw [HL.out] at L1
  refine L1.mono ?_
  rintro e wz ⟨rfl, hwz⟩
  subst wz
  have x1 := A1.t
  have q1 := A1.drew.s
  clear L1
  obtain ⟨w1, hw1⟩ : ∃ W, W1 = W := ⟨_, rfl⟩
  subst W1
  go_wp2_with fail
  have B1 : Bds w1.drew := B0.drew
  go_region_held3 (fun w' => w'.cell? ⟨wb, 22, none⟩ = some (.pointer (some ⟨c.tb, 0, none⟩)) ∧ (LyEx (.pointer (some ⟨wb, 0, none⟩))).run Tryz.prog w' = .ok (.value (lyV (lay8 D))) w')
    (first | with_reducible exact q1 | with_reducible exact q2)
    (first
      | (go_at_call 12; refine (alloc_full T1.drew A1.fit B1 HZ.out).mono ?_; rintro e w2 ⟨rfl, T2, t2⟩; have t2 := (t2.fromDrew).mono (G := fun i => c.G i ∨ i = c.wm) (fun _ _ => Or.inl); have A2 := A1.later t2; have q2 := A2.s))
  have b2 := b1.trans (A1.turned t2 s1)
  have u2 := (t2.block ub (heap_lt u1) (fun h => h.elim hG (T1.mp.ne u1))).trans u1
  have y2 := A2.dt
  clear x1 q1 A1 T1 b1 t2 B1 s1 u1
  go_wp2_with fail
  refine (num8_any _ _).mono ?_
  rintro e wz ⟨rfl, hwz⟩
  subst wz
  go_wp2_with fail
  go_ret
  exact ⟨_, _, _, _, rfl, by omega, A2, T2, u2, hlu, HT.out, b2⟩
set_option maxHeartbeats 4000000 in
theorem does_take {w0 w : World} {wb ub n D : Nat} {c : Tc} {m : List (Nat × Nat)} {bs : List Int} {us : List Bool} (A0 : Wd w0 w wb c D) (T0 : Ts w c n m bs) (hu : w.heap[ub]? = some (bb us)) (hG : ¬ c.G ub) (hlu : us.length = D) (h2 : D ≤ 500) (hT : Tells bs us) (hn : n ≤ 2100) (hsu : w0.heap.size ≤ ub) (hb0 : Below w0.heap.size w0 w) (hB : Bds w0) (K : Int) (i : Nat) (hi : i < us.length) (hi0 : us.getD i false = false) (hil : ∀ j, j < i → us.getD j false = true) (hlow : lowU us = (i : Nat)) :
    Calls Tryz.prog 16 #[.pointer (some ⟨wb, 0, none⟩), .slice (some ⟨ub, 0, none⟩) D D, .agg #[.bool false, .int .i64 K]] w fun e w' => ∃ n' m' bs' us', e = .returned (.bool true) ∧ n' ≤ n + 2 ∧ Wd w0 w' wb c D ∧ Ts w' c n' m' bs' ∧ w'.heap[ub]? = some (bb us') ∧ us'.length = D ∧ Tells bs' us' ∧ Below w0.heap.size w w' := by
  have HL : Hid (lowU us = (i : Nat)) := hlow
  have hiD : i < D := by omega
  have hii : (i : Int) < D := by omega
  have HZ : Hid (lowZ bs D = (i : Int)) := lowZ_some hiD (by rw [hT i hi]; exact hi0) (fun j hj => by rw [hT j (by omega)]; exact hil j hj)
  have HT2 : Hid (Tells (flipB bs i) (us.set i true)) := hT.set T0.len (by omega) i hi true (by rw [hi0]; rfl)
  have hwr : IntKind.i64.wrap (35 + (i : Int)) = 35 + i := Go.IntWalk.i64_in _ ⟨by omega, by omega⟩
  have HT : Hid (Tells bs us) := hT
  clear hlow hT hil
  have hs := hb0.size
  obtain ⟨W1, hW1⟩ : ∃ W, w.alloc (.cells #[.bool false, .int .i64 K] 46) = W := ⟨_, rfl⟩
  have p1 : Below w.heap.size w W1 := by rw [← hW1]; exact (Below.refl _ w).alloc (Nat.le_refl _) _
  have d1 : W1.heap[w.heap.size]? = some (.cells #[.bool false, .int .i64 K] 46 (0, 0)) := by rw [← hW1]; exact heap_alloc_last w _
  have df : W1.cell? ⟨w.heap.size, 0, none⟩ = some (.bool false) := by simp [World.cell?, d1]
  have dk : W1.cell? ⟨w.heap.size, 1, none⟩ = some (.int .i64 K) := by simp [World.cell?, d1]
  have A1 := A0.below p1
  have T1 := T0.below p1
  have u1 := (p1.block ub (heap_lt hu)).trans hu
  have b1 : Below w0.heap.size w W1 := p1.mono hs
  have B0 := hB.later (hb0.trans b1) (Nat.le_refl _)
  have s1 : w0.heap.size ≤ W1.heap.size := Nat.le_trans hs p1.size
  have hbl := T0.len
  have hD5 : (D : Int) ≤ 500 := by omega
  go_enter Tryz.func16, Tryz.ntmps16
  go_wp2_with fail
  try rw [hW1]
  clear hW1
  go_wp2_with fail
  have L1 := lowestU_any ub D us W1 u1 hlu h2
  rw [HL.out] at L1
  refine L1.mono ?_
  rintro e wz ⟨rfl, hwz⟩
  subst wz
  have x1 := A1.t
  have q1 := A1.drew.s
  clear L1
  obtain ⟨w1, hw1⟩ : ∃ W, W1 = W := ⟨_, rfl⟩
  subst W1
  go_wp2_with fail
  have B1 : Bds w1.drew := B0.drew
  go_region_held3 (fun w' => w'.cell? ⟨wb, 22, none⟩ = some (.pointer (some ⟨c.tb, 0, none⟩)) ∧ (LyEx (.pointer (some ⟨wb, 0, none⟩))).run Tryz.prog w' = .ok (.value (lyV (lay8 D))) w')
    (first | with_reducible exact q1 | with_reducible exact q2)
    (first
      | (go_at_call 12; refine (alloc_ok T1.drew A1.fit B1 i hiD HZ.out (by omega)).mono ?_; rintro e w2 ⟨g2, rfl, T2, t2⟩; have t2 := t2.fromDrew; have A2 := A1.later t2; have q2 := A2.s))
  have b2 := b1.trans (A1.turned t2 s1)
  have u2 := (t2.block ub (heap_lt u1) (fun h => h.elim hG (T1.mp.ne u1))).trans u1
  have y2 := A2.dt
  have z2 := bb_cell u2 i hi
  have f2 : w2.frozen? ⟨ub, i, none⟩ = false := by simp [World.frozen?, u2]
  have tv := Turns.cell w2 ub i (.bool true)
  have u3 := bb_set u2 i true
  have A3 := A2.apart tv u2
  have T3 := T2.apart tv u2 hG
  have b3 := b2.trans (tv.below (fun _ e => e ▸ hsu) (Nat.le_trans hs b2.size))
  have y3 := A3.dt
  clear x1 q1 A1 T1 b1 t2 B1 s1 u1
  go_wp2_with fail
  refine (num8_any _ _).mono ?_
  rintro e wz ⟨rfl, hwz⟩
  subst wz
  go_wp2_with fail
  go_ret
  exact ⟨_, _, _, _, rfl, by omega, A3, T3, u3, by rw [List.length_set]; exact hlu, HT2.out, b3⟩
end Go.Proofs.YtfmcbjlagdanjaaGreatDoor

/- annexlaw8.does by its contract: one is given back. -/
namespace Go.Proofs.YtfmcbjlagdanjaaGreatDoor
open Go.RowKit Go.Maps
set_option maxRecDepth 100000

attribute [local go_sem ↓ 100000] ly_store ly_load ex_load
set_option maxHeartbeats 2000000 in
theorem does_none {w0 w : World} {wb ub n D : Nat} {c : Tc} {m : List (Nat × Nat)} {bs : List Int} {us : List Bool} (A0 : Wd w0 w wb c D) (T0 : Ts w c n m bs) (hu : w.heap[ub]? = some (bb us)) (hlu : us.length = D) (h2 : D ≤ 500) (hT : Tells bs us) (hb0 : Below w0.heap.size w0 w) (hB : Bds w0) (K : Int) (hc : us.count true = 0) :
    Calls Tryz.prog 16 #[.pointer (some ⟨wb, 0, none⟩), .slice (some ⟨ub, 0, none⟩) D D, .agg #[.bool true, .int .i64 K]] w fun e w' => ∃ n' m' bs' us', e = .returned (.bool true) ∧ n' ≤ n + 2 ∧ Wd w0 w' wb c D ∧ Ts w' c n' m' bs' ∧ w'.heap[ub]? = some (bb us') ∧ us'.length = D ∧ Tells bs' us' ∧ Below w0.heap.size w w' := by
  have HC : Hid (us.count true = 0) := hc
  have HT : Hid (Tells bs us) := hT
  clear hc hT
  have hs := hb0.size
  obtain ⟨W1, hW1⟩ : ∃ W, w.alloc (.cells #[.bool true, .int .i64 K] 46) = W := ⟨_, rfl⟩
  have p1 : Below w.heap.size w W1 := by rw [← hW1]; exact (Below.refl _ w).alloc (Nat.le_refl _) _
  have d1 : W1.heap[w.heap.size]? = some (.cells #[.bool true, .int .i64 K] 46 (0, 0)) := by rw [← hW1]; exact heap_alloc_last w _
  have df : W1.cell? ⟨w.heap.size, 0, none⟩ = some (.bool true) := by simp [World.cell?, d1]
  have dk : W1.cell? ⟨w.heap.size, 1, none⟩ = some (.int .i64 K) := by simp [World.cell?, d1]
  have A1 := A0.below p1
  have T1 := T0.below p1
  have u1 := (p1.block ub (heap_lt hu)).trans hu
  have b1 : Below w0.heap.size w W1 := p1.mono hs
  have B0 := hB.later (hb0.trans b1) (Nat.le_refl _)
  have s1 : w0.heap.size ≤ W1.heap.size := Nat.le_trans hs p1.size
  have hbl := T0.len
  have hD5 : (D : Int) ≤ 500 := by omega
  go_enter Tryz.func16, Tryz.ntmps16
  go_wp2_with fail
  try rw [hW1]
  clear hW1
  go_wp2_with fail
  have L1 := count_any ub D us W1 u1 hlu h2
  rw [HC.out] at L1
  refine L1.mono ?_
  rintro e wz ⟨rfl, hwz⟩
  subst wz
  clear L1
  go_wp2_with fail
  go_ret
  exact ⟨_, _, _, _, rfl, by omega, A1, T1, u1, hlu, HT.out, b1⟩
set_option maxHeartbeats 4000000 in
theorem does_free {w0 w : World} {wb ub n D : Nat} {c : Tc} {m : List (Nat × Nat)} {bs : List Int} {us : List Bool} (A0 : Wd w0 w wb c D) (T0 : Ts w c n m bs) (hu : w.heap[ub]? = some (bb us)) (hG : ¬ c.G ub) (hlu : us.length = D) (h2 : D ≤ 500) (hT : Tells bs us) (hn : n ≤ 2100) (hsu : w0.heap.size ≤ ub) (hb0 : Below w0.heap.size w0 w) (hB : Bds w0) (K : Int) (C : Nat) (hc : us.count true = C) (hC1 : 1 ≤ C) :
    Calls Tryz.prog 16 #[.pointer (some ⟨wb, 0, none⟩), .slice (some ⟨ub, 0, none⟩) D D, .agg #[.bool true, .int .i64 K]] w fun e w' => ∃ n' m' bs' us', e = .returned (.bool true) ∧ n' ≤ n + 2 ∧ Wd w0 w' wb c D ∧ Ts w' c n' m' bs' ∧ w'.heap[ub]? = some (bb us') ∧ us'.length = D ∧ Tells bs' us' ∧ Below w0.heap.size w w' := by
  have HC : Hid (us.count true = C) := hc
  have HT : Hid (Tells bs us) := hT
  have hCD : C ≤ D := by rw [← hc, ← hlu]; exact List.count_le_length
  have hw1 : IntKind.i64.wrap (K.tmod C + C) = K.tmod C + C := by
    have h1 : (K.tmod C).natAbs < C := by
      rw [Int.natAbs_tmod]
      exact Nat.mod_lt _ (by omega)
    exact Go.IntWalk.i64_in _ ⟨by omega, by omega⟩
  obtain ⟨hr0, hw2⟩ := backN_bd K C hC1
  obtain ⟨r, hr⟩ : ∃ r, backN K C = r := ⟨_, rfl⟩
  rw [hr] at hr0 hw2
  have hCn : ¬ (C : Int) = 0 := by omega
  clear hc hT hr
  have hs := hb0.size
  obtain ⟨W1, hW1⟩ : ∃ W, w.alloc (.cells #[.bool true, .int .i64 K] 46) = W := ⟨_, rfl⟩
  have p1 : Below w.heap.size w W1 := by rw [← hW1]; exact (Below.refl _ w).alloc (Nat.le_refl _) _
  have d1 : W1.heap[w.heap.size]? = some (.cells #[.bool true, .int .i64 K] 46 (0, 0)) := by rw [← hW1]; exact heap_alloc_last w _
  have df : W1.cell? ⟨w.heap.size, 0, none⟩ = some (.bool true) := by simp [World.cell?, d1]
  have dk : W1.cell? ⟨w.heap.size, 1, none⟩ = some (.int .i64 K) := by simp [World.cell?, d1]
  have A1 := A0.below p1
  have T1 := T0.below p1
  have u1 := (p1.block ub (heap_lt hu)).trans hu
  have b1 : Below w0.heap.size w W1 := p1.mono hs
  have B0 := hB.later (hb0.trans b1) (Nat.le_refl _)
  have s1 : w0.heap.size ≤ W1.heap.size := Nat.le_trans hs p1.size
  have hbl := T0.len
  have hD5 : (D : Int) ≤ 500 := by omega
  go_enter Tryz.func16, Tryz.ntmps16
  go_wp2_with fail
  try rw [hW1]
  clear hW1
  go_wp2_with fail
  have L1 := count_any ub D us W1 u1 hlu h2
  rw [HC.out] at L1
  refine L1.mono ?_
  rintro e wz ⟨rfl, hwz⟩
  subst wz
  clear L1
  go_wp2_with fail
  clear hw1 hw2 df dk
  go_loopw [8, 9] (fun k i wr => ∃ a x : Nat, a ≤ D ∧ k = .int .i64 x ∧ i = .int .i64 a ∧ Hid ((us.take a).count true + x = r) ∧ wr = W1) (fun _ i _ => D - (intOf i).toNat)
  case atStart => exact ⟨0, r, Nat.zero_le _, rfl, rfl, by simp [Hid], rfl⟩
  case round =>
    obtain ⟨a, x, ha, rfl, rfl, HX, hwr⟩ := hrel
    subst wr
    by_cases hlt : a < D
    · have hai : (a : Int) < D := by omega
      have hau : a < us.length := by omega
      have hca := bb_cell u1 a hau
      have HS : Hid ((us.take (a + 1)).count true = (us.take a).count true + if us.getD a false then 1 else 0) := by
        show _ = _
        rw [List.take_succ_eq_append_getElem hau, List.count_append, List.getD_eq_getElem?_getD, List.getElem?_eq_getElem hau]
        cases us[a] <;> simp
      by_cases hb : us.getD a false = true
      · rw [hb] at hca HS
        by_cases hx : x = 0
        · subst hx
          obtain ⟨w1, hw1⟩ : ∃ W, W1 = W := ⟨_, rfl⟩
          subst W1
          have x1 := A1.t
          have q1 := A1.drew.s3
          have B1 : Bds w1.drew := B0.drew
          have hwr : IntKind.i64.wrap (35 + (a : Int)) = 35 + a := Go.IntWalk.i64_in _ ⟨by omega, by omega⟩
          have HT2 : Hid (Tells (flipB bs a) (us.set a false)) := HT.out.set hbl (by omega) a hau false (by rw [hb]; rfl)
          have HB1 : Hid (bitB bs a = true) := by rw [← hb]; exact HT.out a hau
          have HB2 : Hid (bitB (flipB bs a) a = false) := by
            show _ = _
            rw [bitB_flip bs a a (by omega), if_pos rfl, HB1.out]
            rfl
          go_wp2_with fail
          go_region_held3 (fun w' => w'.cell? ⟨wb, 22, none⟩ = some (.pointer (some ⟨c.tb, 0, none⟩)) ∧ (LyEx (.pointer (some ⟨wb, 0, none⟩))).run Tryz.prog w' = .ok (.value (lyV (lay8 D))) w' ∧ w'.cell? ⟨wb, 9, none⟩ = some (.int .i64 35))
            (first | with_reducible exact q1 | with_reducible exact q2)
            (first
              | (go_at_call 14; refine (free_ok T1.drew A1.fit B1 a hlt HB1.out (by omega)).mono ?_; rintro e w2 ⟨g2, rfl, T2, t2⟩; have t2 := t2.fromDrew; have A2 := A1.later t2; have q2 := A2.s3))
          have b2 := b1.trans (A1.turned t2 s1)
          have s2 : w0.heap.size ≤ w2.heap.size := Nat.le_trans hs b2.size
          have u2 := (t2.block ub (heap_lt u1) (fun h => h.elim hG (T1.mp.ne u1))).trans u1
          have B2 : Bds w2.drew := (hB.later (hb0.trans b2) (Nat.le_refl _)).drew
          have q2 := A2.drew.s3
          have x2 := A2.t
          clear x1 q1 A1 T1 b1 t2 B1 s1 u1
          go_wp2_with fail
          go_region_held3 (fun w' => w'.cell? ⟨wb, 22, none⟩ = some (.pointer (some ⟨c.tb, 0, none⟩)) ∧ (LyEx (.pointer (some ⟨wb, 0, none⟩))).run Tryz.prog w' = .ok (.value (lyV (lay8 D))) w' ∧ w'.cell? ⟨wb, 9, none⟩ = some (.int .i64 35))
            (first | with_reducible exact q2 | with_reducible exact q3)
            (first
              | (go_at_call 14; refine (free_un T2.drew A2.fit B2 a hlt HB2.out).mono ?_; rintro e w3 ⟨rfl, T3, t3⟩; have t3 := (t3.fromDrew).mono (G := fun i => c.G i ∨ i = c.wm) (fun _ _ => Or.inl); have A3 := A2.later t3; have q3 := A3.s3))
          have b3 := b2.trans (A2.turned t3 s2)
          have u3 := (t3.block ub (heap_lt u2) (fun h => h.elim hG (T2.mp.ne u2))).trans u2
          have z3 := bb_cell u3 a hau
          have f3 : w3.frozen? ⟨ub, a, none⟩ = false := by simp [World.frozen?, u3]
          have tv := Turns.cell w3 ub a (.bool false)
          have u4 := bb_set u3 a false
          have A4 := A3.apart tv u3
          have T4 := T3.apart tv u3 hG
          have b4 := b3.trans (tv.below (fun _ e => e ▸ hsu) (Nat.le_trans hs b3.size))
          clear x2 q2 A2 T2 b2 t3 B2 s2 u2
          go_wp2_with fail
          refine (num8_any _ _).mono ?_
          rintro e wz ⟨rfl, hwz⟩
          subst wz
          go_wp2_with fail
          refine (num8_any _ _).mono ?_
          rintro e wz ⟨rfl, hwz⟩
          subst wz
          go_wp2_with fail
          try rw [Exit.noGoto_ret]
          go_ret
          exact ⟨_, _, _, _, rfl, by omega, A4, T4, u4, by rw [List.length_set]; exact hlu, HT2.out, b4⟩
        · have hxi : ¬ (x : Int) = 0 := by omega
          have HX2 : Hid ((us.take (a + 1)).count true + (x - 1) = r) := by
            have := HX.out
            have := HS.out
            show _ = _
            simp at this
            omega
          have hxr : (x : Int) ≤ 500 := by have := HX.out; omega
          go_wp2_with fail
          exact ⟨⟨a + 1, x - 1, by omega, by go_num, by go_num, HX2, trivial⟩, by simp [intOf]; omega⟩
      · have hb : us.getD a false = false := by simpa using hb
        rw [hb] at hca HS
        have HX2 : Hid ((us.take (a + 1)).count true + x = r) := by
          have := HX.out
          have := HS.out
          show _ = _
          simp at this
          omega
        go_wp2_with fail
        exact ⟨⟨a + 1, x, by omega, rfl, by go_num, HX2, trivial⟩, by simp [intOf]; omega⟩
    · obtain rfl : a = D := by omega
      exfalso
      have := HX.out
      rw [← hlu, List.take_length, HC.out] at this
      omega
end Go.Proofs.YtfmcbjlagdanjaaGreatDoor

/- annexlaw8.does by its contract, whatever the deed. -/
namespace Go.Proofs.YtfmcbjlagdanjaaGreatDoor
open Go.RowKit Go.Maps
set_option maxRecDepth 100000

theorem does_any {w0 w : World} {wb ub n D : Nat} {c : Tc} {m : List (Nat × Nat)} {bs : List Int} {us : List Bool} (A0 : Wd w0 w wb c D) (T0 : Ts w c n m bs) (hu : w.heap[ub]? = some (bb us)) (hG : ¬ c.G ub) (hlu : us.length = D) (h2 : D ≤ 500) (hT : Tells bs us) (hn : n ≤ 2100) (hsu : w0.heap.size ≤ ub) (hb0 : Below w0.heap.size w0 w) (hB : Bds w0) (f : Bool) (K : Int) :
    Calls Tryz.prog 16 #[.pointer (some ⟨wb, 0, none⟩), .slice (some ⟨ub, 0, none⟩) D D, .agg #[.bool f, .int .i64 K]] w fun e w' => ∃ n' m' bs' us', e = .returned (.bool true) ∧ n' ≤ n + 2 ∧ Wd w0 w' wb c D ∧ Ts w' c n' m' bs' ∧ w'.heap[ub]? = some (bb us') ∧ us'.length = D ∧ Tells bs' us' ∧ Below w0.heap.size w w' := by
  cases f with
  | true =>
    by_cases hc : us.count true = 0
    · exact does_none A0 T0 hu hlu h2 hT hb0 hB K hc
    · exact does_free A0 T0 hu hG hlu h2 hT hn hsu hb0 hB K (us.count true) rfl (by omega)
  | false =>
    rcases lowU_cases us with ⟨i, hi, hi0, hil, hl⟩ | ⟨ha, hl⟩
    · exact does_take A0 T0 hu hG hlu h2 hT hn hsu hb0 hB K i hi hi0 hil hl
    · exact does_full A0 T0 hu hG hlu h2 hT hb0 hB K ha hl
end Go.Proofs.YtfmcbjlagdanjaaGreatDoor
