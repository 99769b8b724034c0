/- annexlaw8.agrees by its contract. -/
import Derived.Test.YtfmcbjlagdanjaaGreatDoorPk18
import Derived.BigQuiet
import Derived.Test.YtfmcbjlagdanjaaGreatDoorPk09
import Derived.Test.YtfmcbjlagdanjaaGreatDoorShelf
import Derived.Sort.OwnSortedInts
import Derived.Test.YtfmcbjlagdanjaaGreatDoorPk10
import Derived.Test.YtfmcbjlagdanjaaGreatDoorPk02
import Derived.Deep.Slices
namespace Go.Proofs.YtfmcbjlagdanjaaGreatDoor
open Go.RowKit Go.Maps
set_option maxRecDepth 100000

attribute [local go_sem ↓ 100000] ly_store ly_load ex_load
set_option maxHeartbeats 4000000 in
theorem agrees_ok {w0 w : World} {wb ub n D : Nat} {c : Tc} {m : List (Nat × Nat)} {bs : List Int} {us : List Bool} (A0 : Wd w0 w wb c D) (T0 : Ts w c n m bs) (hu : w.heap[ub]? = some (bb us)) (hG : ¬ c.G ub) (hlu : us.length = D) (h2 : D ≤ 500) (hT : Tells bs us) (hb0 : Below w0.heap.size w0 w) (hB : Bds w0) :
    Calls Tryz.prog 18 #[.pointer (some ⟨wb, 0, none⟩), .slice (some ⟨ub, 0, none⟩) D D] w fun e w' => e = .returned (.bool true) ∧ Below w0.heap.size w w' := by
  have HC : Hid (cntB bs D = us.count true) := by
    have := hT.cnt us.length (Nat.le_refl _)
    rw [List.take_length, hlu] at this
    exact this
  have HT : Hid (Tells bs us) := hT
  have hs := hb0.size
  have hD5 : (D : Int) ≤ 500 := by omega
  have hwD : IntKind.i64.wrap (35 + (D : Int)) = 35 + D := Go.IntWalk.i64_in _ ⟨by omega, by omega⟩
  have hcl : us.count true ≤ 500 := Nat.le_trans List.count_le_length (by omega)
  obtain ⟨C, hCe⟩ : ∃ C, us.count true = C := ⟨_, rfl⟩
  have HC2 : Hid (us.count true = C) := hCe
  have b0 : Below w0.heap.size w w := Below.refl _ w
  have u0 := hu
  obtain ⟨w1, hw1⟩ : ∃ W, w = W := ⟨_, rfl⟩
  have A1 := A0
  have T1 := T0
  have b1 := b0
  have u1 := u0
  have x1 := A1.t
  rw [hw1] at A1 T1 u1 x1
  rw [show Below w0.heap.size w w = Below w0.heap.size w w1 by rw [hw1]] at b1
  have U1 := used_ok T1.drew A1.fit (hB.later (hb0.trans b1) (Nat.le_refl _)).drew
  rw [HC.out, hCe] at U1
  clear hT hCe A0 T0 hu b0 u0
  go_enter Tryz.func18, Tryz.ntmps18
  rw [hw1]
  go_wp2_with fail
  have B1 : Bds w1.drew := (hB.later (hb0.trans b1) (Nat.le_refl _)).drew
  have q1 := A1.drew.s3
  go_region_held3 (fun w' => w'.cell? ⟨wb, 22, none⟩ = some (.pointer (some ⟨c.tb, 0, none⟩)) ∧ (LyEx (.pointer (some ⟨wb, 0, none⟩))).run Tryz.prog w' = .ok (.value (lyV (lay8 D))) w' ∧ w'.cell? ⟨wb, 9, none⟩ = some (.int .i64 35))
    (first | with_reducible exact q1 | with_reducible exact q2)
    (first
      | (go_at_call 15; refine (U1).mono ?_; rintro e w2 ⟨rfl, T2, t2⟩; have t2 := (t2.fromDrew).mono (G := fun i => c.G i ∨ i = c.wm) (fun _ _ => Or.inl); have A2 := A1.later t2; have q2 := A2.s3))
  have b2 := b1.trans (A1.turned t2 (Nat.le_trans hs b1.size))
  have u2 := (t2.block ub (heap_lt u1) (fun h => h.elim hG (T1.mp.ne u1))).trans u1
  clear q1 A1 T1 b1 t2 B1 u1
  clear U1 x1
  have L2 := count_any ub D us w2 u2 hlu h2
  rw [HC2.out] at L2
  go_wp2_with fail
  refine (num8_any _ _).mono ?_
  rintro e wz ⟨rfl, hwz⟩
  subst wz
  go_wp2_with fail
  refine L2.mono ?_
  rintro e wz ⟨rfl, hwz⟩
  subst wz
  clear L2
  go_wp2_with fail
  go_loopw [7] (fun i wr => ∃ a : Nat, a ≤ D ∧ i = .int .i64 a ∧ Wd w0 wr wb c D ∧ Ts wr c n m bs ∧ wr.heap[ub]? = some (bb us) ∧ Below w0.heap.size w wr) (fun i _ => D - (intOf i).toNat)
  case atStart => exact ⟨0, Nat.zero_le _, rfl, A2, T2, u2, b2⟩
  case round =>
    obtain ⟨a, ha, rfl, A3, T3, u3, b3⟩ := hrel
    obtain ⟨w3, hw3⟩ : ∃ W, wr = W := ⟨_, rfl⟩
    subst wr
    have x3 := A3.t
    clear A2 T2 u2 b2
    by_cases hlt : a < D
    · have hai : (a : Int) < D := by omega
      have hau : a < us.length := by omega
      have hwr : IntKind.i64.wrap (35 + (a : Int)) = 35 + a := Go.IntWalk.i64_in _ ⟨by omega, by omega⟩
      have V3 := has_ok T3.drew A3.fit (hB.later (hb0.trans b3) (Nat.le_refl _)).drew a hlt
      rw [HT.out a hau] at V3
      have z3 := bb_cell u3 a hau
      obtain ⟨y, hy⟩ : ∃ y, us.getD a false = y := ⟨_, rfl⟩
      rw [hy] at V3 z3
      go_wp2_with fail
      have B3 : Bds w3.drew := (hB.later (hb0.trans b3) (Nat.le_refl _)).drew
      have q3 := A3.drew.s3
      go_region_held3 (fun w' => w'.cell? ⟨wb, 22, none⟩ = some (.pointer (some ⟨c.tb, 0, none⟩)) ∧ (LyEx (.pointer (some ⟨wb, 0, none⟩))).run Tryz.prog w' = .ok (.value (lyV (lay8 D))) w' ∧ w'.cell? ⟨wb, 9, none⟩ = some (.int .i64 35))
        (first | with_reducible exact q3 | with_reducible exact q4)
        (first
          | (go_at_call 21; refine (V3).mono ?_; rintro e w4 ⟨rfl, T4, t4⟩; have t4 := (t4.fromDrew).mono (G := fun i => c.G i ∨ i = c.wm) (fun _ _ => Or.inl); have A4 := A3.later t4; have q4 := A4.s3))
      have b4 := b3.trans (A3.turned t4 (Nat.le_trans hs b3.size))
      have u4 := (t4.block ub (heap_lt u3) (fun h => h.elim hG (T3.mp.ne u3))).trans u3
      clear q3 A3 T3 b3 t4 B3 u3
      have z4 := bb_cell u4 a hau
      rw [hy] at z4
      clear V3 z3 x3 hy
      go_wp2_with fail
      refine (num8_any _ _).mono ?_
      rintro e wz ⟨rfl, hwz⟩
      subst wz
      go_wp2_with fail
      exact ⟨⟨a + 1, by omega, by go_num, A4, T4, u4, b4⟩, by simp [intOf]; omega⟩
    · have e : D = a := by omega
      subst e
      go_wp2_with fail
      have B3 : Bds w3.drew := (hB.later (hb0.trans b3) (Nat.le_refl _)).drew
      have q3 := A3.drew.s3
      go_region_held3 (fun w' => w'.cell? ⟨wb, 22, none⟩ = some (.pointer (some ⟨c.tb, 0, none⟩)) ∧ (LyEx (.pointer (some ⟨wb, 0, none⟩))).run Tryz.prog w' = .ok (.value (lyV (lay8 D))) w' ∧ w'.cell? ⟨wb, 9, none⟩ = some (.int .i64 35))
        (first | with_reducible exact q3 | with_reducible exact q4)
        (first
          | (go_at_call 21; refine (has_no (tb := c.tb) A3.fit B3 34 (Or.inl (by omega))).mono ?_; rintro e w4 ⟨rfl, t4⟩; have z4 := t4; have t4 := Turns.mono (Below.turns (Below.fromDrew t4) c.G) (G := fun i => c.G i ∨ i = c.wm) (fun _ _ => Or.inl); have T4 := T3.turns (Below.turns (Below.fromDrew z4) c.G) (T3.dev.below (Below.fromDrew z4)); have A4 := A3.later t4; have q4 := A4.s3))
      have b4 := b3.trans (A3.turned t4 (Nat.le_trans hs b3.size))
      have u4 := (t4.block ub (heap_lt u3) (fun h => h.elim hG (T3.mp.ne u3))).trans u3
      clear q3 A3 T3 b3 t4 B3 u3
      have x4 := A4.t
      clear x3
      go_wp2_with fail
      have B4 : Bds w4.drew := (hB.later (hb0.trans b4) (Nat.le_refl _)).drew
      have q4 := A4.drew.s3
      go_region_held3 (fun w' => w'.cell? ⟨wb, 22, none⟩ = some (.pointer (some ⟨c.tb, 0, none⟩)) ∧ (LyEx (.pointer (some ⟨wb, 0, none⟩))).run Tryz.prog w' = .ok (.value (lyV (lay8 D))) w' ∧ w'.cell? ⟨wb, 9, none⟩ = some (.int .i64 35))
        (first | with_reducible exact q4 | with_reducible exact q5)
        (first
          | (go_at_call 21; refine (has_no (tb := c.tb) A4.fit B4 (35 + D) (Or.inr (by omega))).mono ?_; rintro e w5 ⟨rfl, t5⟩; have z5 := t5; have t5 := Turns.mono (Below.turns (Below.fromDrew t5) c.G) (G := fun i => c.G i ∨ i = c.wm) (fun _ _ => Or.inl); have T5 := T4.turns (Below.turns (Below.fromDrew z5) c.G) (T4.dev.below (Below.fromDrew z5)); have A5 := A4.later t5; have q5 := A5.s3))
      have b5 := b4.trans (A4.turned t5 (Nat.le_trans hs b4.size))
      have u5 := (t5.block ub (heap_lt u4) (fun h => h.elim hG (T4.mp.ne u4))).trans u4
      clear q4 A4 T4 b4 t5 B4 u4
      have x5 := A5.t
      clear x4
      go_wp2_with fail
      have B5 : Bds w5.drew := (hB.later (hb0.trans b5) (Nat.le_refl _)).drew
      have q5 := A5.drew.s3
      go_region_held3 (fun w' => w'.cell? ⟨wb, 22, none⟩ = some (.pointer (some ⟨c.tb, 0, none⟩)) ∧ (LyEx (.pointer (some ⟨wb, 0, none⟩))).run Tryz.prog w' = .ok (.value (lyV (lay8 D))) w' ∧ w'.cell? ⟨wb, 9, none⟩ = some (.int .i64 35))
        (first | with_reducible exact q5 | with_reducible exact q6)
        (first
          | (go_at_call 14; refine (free_no (tb := c.tb) A5.fit B5 (35 + D) (Or.inr (by omega))).mono ?_; rintro e w6 ⟨rfl, t6⟩; have z6 := t6; have t6 := Turns.mono (Below.turns (Below.fromDrew t6) c.G) (G := fun i => c.G i ∨ i = c.wm) (fun _ _ => Or.inl); have T6 := T5.turns (Below.turns (Below.fromDrew z6) c.G) (T5.dev.below (Below.fromDrew z6)); have A6 := A5.later t6; have q6 := A6.s3))
      have b6 := b5.trans (A5.turned t6 (Nat.le_trans hs b5.size))
      have u6 := (t6.block ub (heap_lt u5) (fun h => h.elim hG (T5.mp.ne u5))).trans u5
      clear q5 A5 T5 b5 t6 B5 u5
      clear x5
      go_wp2_with fail
      refine (num8_any _ _).mono ?_
      rintro e wz ⟨rfl, hwz⟩
      subst wz
      go_wp2_with fail
      refine (num8_any _ _).mono ?_
      rintro e wz ⟨rfl, hwz⟩
      subst wz
      go_wp2_with fail
      refine (num8_any _ _).mono ?_
      rintro e wz ⟨rfl, hwz⟩
      subst wz
      go_wp2_with fail
      go_ret
      exact ⟨rfl, by rw [← hw1]; exact b6⟩
end Go.Proofs.YtfmcbjlagdanjaaGreatDoor

/- The blocks of a map, rising: rising by its contract. (The library's sort by its own.) -/
namespace Go.Proofs.YtfmcbjlagdanjaaGreatDoor
open Go.RowKit Go.Maps Go.Sort
set_option maxRecDepth 100000

/-- What has been gathered of a map's keys. -/
structure Coll (D0 : DataW Value) (left : Lit → Bool) (ss : List Int) : Prop where
  nd : ss.Nodup
  iff : ∀ x : Int, x ∈ ss ↔ (has D0 (.int .i64 x) && !left (.int .i64 x)) = true
theorem Coll.start (D0 : DataW Value) : Coll D0 (has D0) [] := ⟨List.nodup_nil, fun x => by cases has D0 (.int .i64 x) <;> simp⟩
theorem Coll.step {D0 : DataW Value} {left : Lit → Bool} {ss : List Int} (h : Coll D0 left ss) {x : Int} (hl : left (.int .i64 x) = true) (hh : has D0 (.int .i64 x) = true) : Coll D0 (fun z => left z && !z.sameKey (.int .i64 x)) (ss ++ [x]) := by
  have hx : x ∉ ss := fun q => by have := (h.iff x).1 q; rw [hl] at this; simp at this
  refine ⟨?_, fun y => ?_⟩
  · rw [List.nodup_append]
    exact ⟨h.nd, by simp, fun a ha b hb e => by simp at hb; subst hb; subst e; exact hx ha⟩
  · rw [List.mem_append, List.mem_singleton, h.iff]
    by_cases e : y = x
    · subst e
      simp [hh, Lit.sameKey]
    · have : (Lit.int .i64 y).sameKey (.int .i64 x) = false := by simp [Lit.sameKey, e]
      simp [this, e]
theorem Coll.done {m : List (Nat × Nat)} {left : Lit → Bool} {ss : List Int} (hr : Rising m) (h : Coll (mD m) left ss) (hl : ∀ k, left k = false) : ss.mergeSort (fun x y => decide (x ≤ y)) = m.map (fun p => (p.1 : Int)) := by
  have hp : ss.Perm (m.map (fun p => (p.1 : Int))) := by
    refine (List.perm_ext_iff_of_nodup h.nd ?_).2 (fun x => ?_)
    · rw [List.nodup_iff_pairwise_ne, List.pairwise_map]
      exact hr.imp (fun {p q} hpq e => by omega)
    · rw [h.iff, hl, mD_has]
      simp only [Bool.not_false, Bool.and_true, List.any_eq_true, List.mem_map]
      constructor
      · rintro ⟨p, hp, hs⟩
        refine ⟨p, hp, ?_⟩
        simpa [Lit.sameKey] using hs
      · rintro ⟨p, hp, rfl⟩
        exact ⟨p, hp, by simp [Lit.sameKey]⟩
  have hs1 : (ss.mergeSort (fun x y => decide (x ≤ y))).Pairwise (fun a b => decide (a ≤ b) = true) := List.pairwise_mergeSort (fun a b c h1 h2 => by simp at *; omega) (fun a b => by simp; omega) ss
  have hs2 : (m.map (fun p => (p.1 : Int))).Pairwise (fun a b => decide (a ≤ b) = true) := by
    rw [List.pairwise_map]
    exact hr.imp (fun {p q} hpq => by simp; omega)
  exact ((List.mergeSort_perm ss _).trans hp).eq_of_pairwise (fun a b _ _ h1 h2 => by simp at h1 h2; omega) hs1 hs2

theorem Tryz.info3 : (Tryz.prog.info? 3).map (fun i => (i.zero, i.size, i.bytes)) = some (some (.int .i64 0), 1, 8) := by kernel_rfl
theorem iter_ne {w : World} {bm r n : Nat} {m : List (Nat × Nat)} {left : Lit → Bool} {cnt : Nat} (h : w.ranges Tryz.prog 3 RV bm r n (mD m) left cnt) {base e k : Nat} {v : Value} {xs : List Value} (ho : w.ownsRow base e 1 v k xs) : v.ownBlock ≠ some r := fun q => by
  rcases ho.2 with ⟨r1, _⟩ | ⟨g, cap, cur, r1, _, hh, _⟩
  · rw [r1] at q; cases q
  · rw [r1] at q; cases q
    obtain ⟨es, clock, since, seen, c0, _, _, _, _, hit, _⟩ := h
    rw [hh] at hit
    cases hit
set_option maxHeartbeats 400000 in
theorem sort_h {w wr : World} {g cap base : Nat} {cur : Array Value} {ss ts : List Int} {L : Nat} (hB : Below base w wr) (hbase : base ≤ g) (hb : wr.heap[g]? = some (.cells cur 3 (0, 0))) (h1 : ss.length ≤ cap) (h2 : cap ≤ maxLen) (h3 : cur.size = cap * 1) (h4 : cur.toList.take (ss.length * 1) = ss.map (Value.int .i64)) (hss : ss.mergeSort (fun x y => decide (x ≤ y)) = ts) (hlen : ss.length = L) (hl : ss.length ≤ 100000) (hsz : base ≤ wr.heap.size) :
    Calls Tryz.prog 105 #[.slice (some ⟨g, 0, none⟩) ss.length cap] wr fun e w' => e = .returned (.tuple #[]) ∧ w'.ownsRow base 3 1 (.slice (some ⟨g, 0, none⟩) L cap) L (ts.map (Value.int .i64)) ∧ Below base w w' := by
  have hH : Holds (Value.int .i64) wr g 0 ss.toArray := holds_of_blockI hb (by simpa using h4)
  refine (Tryz.slices_Sort_int g 0 cap ss wr hH (heap_lt hb) (by omega)).mono ?_
  rintro e w' ⟨rfl, nn, os, rfl⟩
  subst hlen
  subst hss
  refine ⟨rfl, ?_, ?_⟩
  · exact ownsRow_sortedI (by simp) hbase hb h1 h2 h3
  · exact hB.grown (grownBy_sortedI _) hsz (fun j hj => by cases hj; exact hbase)
set_option maxHeartbeats 1000000 in
theorem rising_any {w : World} {bm n : Nat} {m : List (Nat × Nat)} (h : Mp w bm n m) (hn : m.length ≤ 100000) :
    Calls Tryz.prog 50 #[.map (some bm)] w fun e w' => ∃ g c, e = .returned (.slice (some ⟨g, 0, none⟩) m.length c) ∧ w'.ownsRow w.heap.size 3 1 (.slice (some ⟨g, 0, none⟩) m.length c) m.length (m.map fun p => .int .i64 p.1) ∧ Below w.heap.size w w' := by
  obtain ⟨i0, hi, hz0, hz1, hz2⟩ := info_parts Tryz.info3
  have hown := h.own
  have hsz : Maps.size (mD m) = m.length := by simp [mD, Maps.size_eq]
  have hbl := hown.lt
  have hln : (Maps.size (mD m) : Int) = (m.length : Int) := by rw [hsz]
  go_enter Tryz.func50, Tryz.ntmps50
  go_wp2_with (first
    | (at_len; refine wpList_len_own _ rfl _ 105 rfl 3 66 Tryz.underlying105 _ bm n _ rfl hown ?_)
    | (at_make; refine wpList_make_own _ rfl _ _ 47 rfl w.heap.size 3 i0 (.int .i64 0) 1 Tryz.underlying47 hi hz0 hz1 _ _ _ m.length rfl rfl hln (by rw [hz2]; omega) (by unfold maxLen; omega) (Nat.le_refl _) ?_; intro w1 hrow1 hg1)
    | (at_range; refine wpList_range_own _ rfl _ 105 rfl 3 66 law3 Tryz.underlying105 _ bm n _ rfl (hown.kept hg1 (by simp)) ?_; intro w0 hrg0 hg0 hs0))
  have hb1 : Below w.heap.size w w1 := (Below.refl _ _).grown hg1 (Nat.le_refl _) (fun j hj => by cases hj)
  have hb0 : Below w.heap.size w w0 := hb1.grown hg0 hg1.size (fun j hj => by cases hj)
  go_frame
  go_loopw [3] (fun v wr => ∃ (left : Lit → Bool) (cnt : Nat) (ss : List Int), wr.ranges Tryz.prog 3 RV bm w1.heap.size n (mD m) left cnt ∧ ss.length + cnt ≤ m.length ∧ wr.ownsRow w.heap.size 3 1 v ss.length (ss.map (Value.int .i64)) ∧ v ≠ .slice none 0 0 ∧ Coll (mD m) left ss ∧ Below w.heap.size w wr) (fun _ wr => wr.rangeLeft bm w1.heap.size)
  case atStart =>
    exact ⟨_, _, [], hrg0, by rw [hsz]; simp, hrow1.kept hg0 (Or.inr (by simp [Value.ownBlock])), by simp, Coll.start _, hb0⟩
  case round =>
    obtain ⟨left, cnt, ss, hrg, hcs, hrow, hnn, hC, hB⟩ := hrel
    go_wp2_with (at_next; refine wpList_next_ranges _ rfl _ rfl 3 law3 RV (Value.int .i64) id (fun key kl hk => by obtain ⟨x, hx, _⟩ := Maps.keyOf_int_inv Tryz.underlying3 hk; exact ⟨x, hx⟩) (fun v _ _ => ⟨v, rfl⟩) bm w1.heap.size n _ _ _ rfl hrg ?_ ?_)
    · intro hc0 hl0
      rcases hrow.2 with ⟨hnil, _⟩ | ⟨g, cap, cur, rfl, hbase, hb, h1, h2, h3, h4⟩
      · exact absurd hnil hnn
      have hss := hC.done h.ris hl0
      have hlen : ss.length = m.length := by
        have := congrArg List.length hss
        simpa using this
      have hc := sort_h hB hbase hb h1 h2 h3 h4 hss hlen (by omega) hB.size
      rw [hlen] at hc
      have HC : Hid (Calls Tryz.prog 105 #[.slice (some ⟨g, 0, none⟩) m.length cap] wr fun e w' => e = .returned (.tuple #[]) ∧ w'.ownsRow w.heap.size 3 1 (.slice (some ⟨g, 0, none⟩) m.length cap) m.length ((m.map (fun p => (p.1 : Int))).map (Value.int .i64)) ∧ Below w.heap.size w w') := hc
      clear hc hss hb h1 h2 h3 h4 hC hrg hrow hown hl0 h hrg0 hrow1 hg0 hs0
      go_wp2_with fail
      refine Calls.mono (R := fun e w' => e = .returned (.tuple #[]) ∧ w'.ownsRow w.heap.size 3 1 (.slice (some ⟨g, 0, none⟩) m.length cap) m.length ((m.map (fun p => (p.1 : Int))).map (Value.int .i64)) ∧ Below w.heap.size w w') HC.out ?_
      rintro e w' ⟨rfl, hS, hG⟩
      clear HC
      go_wp2
      go_ret
      exact ⟨g, cap, by first | rfl | rw [hlen], by simpa [List.map_map, Function.comp_def] using hS, hG⟩
    · intro x c kl yd yp w2 cnt2 hkey hlk hv hyp hat hrg2 hlt hg2 hs2 hen
      obtain ⟨x', ex, rfl, _⟩ := Maps.keyOf_int_inv Tryz.underlying3 hkey
      obtain rfl : x = x' := by cases ex; rfl
      have hrow2 := hrow.kept hg2 (Or.inr (iter_ne hrg hrow))
      have hhas : has (mD m) (.int .i64 x) = true := has_true_of_atKey hat
      have hsB := hB.size
      have hsg := hg2.size
      clear hs2 hv hyp hat
      obtain ⟨av, cv, rfl⟩ := row_slice hrow2
      go_wp2_with (at_builtin; refine wpList_append_own_at _ rfl _ _ 47 rfl w.heap.size 3 i0 (.int .i64 0) 1 8 Tryz.underlying47 hi hz0 hz1 hz2 rfl (by decide) _ _ _ rfl (hrow2.alloc _) ⟨w2.heap.size, 0, none⟩ 1 1 [.int .i64 x] rfl rfl (cell_one_new _ _ _) (by intro u hu; simp at hu; subst hu; rfl) (by unfold maxLen; omega) (by omega) (by simp; omega) ?_; intro v3 w3 hv3 hg3 hnil3 hat3; go_frame)
      have hrg3 := (hrg2.alloc (.cells #[.int .i64 x] 3)).kept hg3 (fun q => by have := (hrow2.lt bm q.symm).1; omega) (fun q => iter_ne hrg2 hrow2 q.symm)
      have hB3 : Below w.heap.size w w3 := ((hB.grown hg2 hsB (fun j hj => by cases hj; exact hg1.size)).alloc (by omega) _).grown hg3 (by simp; omega) (fun j hj => (hrow2.lt j hj).1)
      go_roundw
      case rel => exact ⟨_, cnt2, ss ++ [x], hrg3, by simp; omega, by simpa using hv3, (fun q => by have := (hnil3.1 q).2; omega), hC.step hlk hhas, hB3⟩
      case measure => rw [hrg3.left_eq, hrg.left_eq]; exact hlt
end Go.Proofs.YtfmcbjlagdanjaaGreatDoor

/- Blocks, Seq by their contracts. -/
namespace Go.Proofs.YtfmcbjlagdanjaaGreatDoor
open Go.RowKit Go.Maps
set_option maxRecDepth 100000

theorem blocks_ok {w : World} {tb jb wm n : Nat} {sv : Value} {last : Int} {m : List (Nat × Nat)} (hT : Tb w tb jb wm sv last) (hM : Mp w wm n m) (hn : m.length ≤ 100000) :
    Calls Tryz.prog 17 #[.pointer (some ⟨tb, 0, none⟩)] w fun e w' => ∃ g c, e = .returned (.slice (some ⟨g, 0, none⟩) m.length c) ∧ w'.ownsRow w.heap.size 3 1 (.slice (some ⟨g, 0, none⟩) m.length c) m.length (m.map fun p => .int .i64 p.1) ∧ Below w.heap.size w w' := by
  have t1 := hT.cells.c1
  go_enter Tryz.func17, Tryz.ntmps17
  go_wp2_with fail
  refine (rising_any hM hn).mono ?_
  rintro e w1 ⟨g, c, rfl, ho, b1⟩
  go_wp2
  go_ret
  exact ⟨g, c, rfl, ho, b1⟩
end Go.Proofs.YtfmcbjlagdanjaaGreatDoor

/- SpaceLowest by its contract. -/
namespace Go.Proofs.YtfmcbjlagdanjaaGreatDoor
open Go.RowKit Go.Maps
set_option maxRecDepth 100000

/-- A deed. -/
structure Dee where
  f : Bool
  k : Int
/-- A list of deeds in memory. -/
structure DLies (w : World) (ao : Option Addr) (n c : Nat) (ds : List Dee) : Prop where
  hlen : ds.length = n
  hcap : n ≤ c
  hcells : ∀ (j : Nat) (d : Dee), ds[j]? = some d → ∃ g o, ao = some ⟨g, o, none⟩ ∧ w.cell? ⟨g, o + j * 2, none⟩ = some (.bool d.f) ∧ w.cell? ⟨g, o + j * 2 + 1, none⟩ = some (.int .i64 d.k)
theorem bool_info : (Tryz.prog.info? 4).map (fun i => (i.zero, i.size, i.bytes)) = some (some (.bool false), 1, 1) := by kernel_rfl
theorem zero_tells (D : Nat) : Hid (Tells zB (List.replicate D false)) := by
  intro j hj
  rw [zero_bits D j (by simpa using hj)]
  simp only [List.getD_eq_getElem?_getD, List.getElem?_replicate]
  split <;> simp
theorem DLies.later {B : Nat} {w w' : World} {ao : Option Addr} {n c : Nat} {ds : List Dee} (h : DLies w ao n c ds) (hb : Below B w w') (hB : w.heap.size ≤ B) : DLies w' ao n c ds :=
  ⟨h.hlen, h.hcap, fun j d hj => by
    obtain ⟨g, o, e, h1, h2⟩ := h.hcells j d hj
    exact ⟨g, o, e, (hb.cell (Nat.lt_of_lt_of_le (World.block_lt_of_cell? w _ h1) hB)).trans h1, (hb.cell (Nat.lt_of_lt_of_le (World.block_lt_of_cell? w _ h2) hB)).trans h2⟩⟩
attribute [local go_sem ↓ 100000] ly_store ly_load ex_load
set_option maxHeartbeats 4000000 in
theorem lowest_ok {D : Nat} (h1 : 8 ≤ D) (h2 : D ≤ 500) (ao : Option Addr) (L cp : Nat) (ds : List Dee) (w : World) (hB : Bds w) {er : Nat → Addr} (hE : Errs w er) (hL9 : L ≤ 140737488351232) (hds : DLies w ao L cp ds) :
    Calls Tryz.prog 4 #[.int .i64 D, .slice ao L cp] w fun e w' => e = .returned (.bool true) ∧ Below w.heap.size w w' := by
  have HF : Hid (fitsB (D : Int) = true) := decide_eq_true ⟨by omega, by omega⟩
  have hD5 : (D : Int) ≤ 500 := by omega
  have hLi : (L : Int) ≤ 140737488351232 := by omega
  obtain ⟨i0, hi, hz0, hz1, hz2⟩ := info_parts bool_info
  go_enter Tryz.func4, Tryz.ntmps4
  go_wp2_with fail
  refine (known_ok w hB hE).mono ?_
  rintro e w1 ⟨rfl, b1⟩
  have F1 := fits8_any (D : Int) w1
  rw [HF.out] at F1
  go_wp2_with fail
  refine F1.mono ?_
  rintro e w2 ⟨rfl, hw2⟩
  subst w2
  clear F1
  go_wp2_with fail
  have hB1 := hB.later b1 (Nat.le_refl _)
  refine (stood_ok h1 h2 w1 hB1 (hE.below b1 (Nat.le_refl _))).mono ?_
  rintro e w3 ⟨wb, c, rfl, A3, T3, b3⟩
  have s3 := b3.size
  have x3 := A3.t
  have d1 := hds.later b1 (Nat.le_refl _)
  obtain ⟨W5, hW5⟩ : ∃ W, w3.alloc (.cells (madeCells #[.bool false] D) 4) = W := ⟨_, rfl⟩
  have p5 : Below w3.heap.size w3 W5 := by rw [← hW5]; exact (Below.refl _ w3).alloc (Nat.le_refl _) _
  have u5 := bb_made w3 D
  rw [hW5] at u5
  have A5 := A3.below p5
  have T5 := T3.below p5
  have b5 := b3.trans (p5.mono s3)
  have hG : ¬ c.G w3.heap.size := fun h => by have := T3.dev.lt _ h; omega
  obtain ⟨ub, hub⟩ : ∃ ub, w3.heap.size = ub := ⟨_, rfl⟩
  rw [hub] at u5 hG
  have hsu : w1.heap.size ≤ ub := by omega
  clear hds
  go_wp2_with (at_make; refine wpList_make_row _ rfl _ _ 43 rfl 4 i0 (.bool false) Tryz.underlying43 hi hz0 hz1 rfl _ _ D rfl rfl (by rw [hz2]; omega) (by omega) ?_; rw [hW5])
  clear x3 A3 T3 b3 p5 hi hz0 hz1 hz2
  go_loopw [9] (fun i wr => ∃ (a n : Nat) (m : List (Nat × Nat)) (bs : List Int) (us : List Bool), i = .int .i64 a ∧ a ≤ L ∧ a ≤ 1000 ∧ n ≤ 2 * a ∧ Wd w1 wr wb c D ∧ Ts wr c n m bs ∧ wr.heap[ub]? = some (bb us) ∧ us.length = D ∧ Hid (Tells bs us) ∧ Below w1.heap.size w1 wr) (fun i _ => L - (intOf i).toNat)
  case atStart => exact ⟨0, 0, [], zB, _, rfl, by omega, by omega, by omega, A5, T5, u5, by simp, zero_tells D, b5⟩
  case round =>
    obtain ⟨a, n, m, bs, us, rfl, haL, hak, hn, A6, T6, u6, hlu, HT, b6⟩ := hrel
    obtain ⟨w6, hw6⟩ : ∃ W, wr = W := ⟨_, rfl⟩
    subst wr
    clear A5 T5 u5 b5
    by_cases hlt : a < L ∧ a < 1000
    · have hai : (a : Int) < L := by omega
      have hak2 : (a : Int) < 1000 := by omega
      have d6 := d1.later b6 (Nat.le_refl _)
      obtain ⟨d, hd⟩ : ∃ d, ds[a]? = some d := ⟨_, List.getElem?_eq_getElem (by rw [d6.hlen]; omega)⟩
      obtain ⟨g, o, rfl, e1, e2⟩ := d6.hcells a d hd
      have HD := does_any A6 T6 u6 hG hlu h2 HT.out (by omega) hsu b6 hB1 d.f d.k
      clear d6
      go_wp2_with fail
      refine HD.mono ?_
      rintro e w7 ⟨n', m', bs', us', rfl, hn', A7, T7, u7, hlu', hT', b7⟩
      have HT7 : Hid (Tells bs' us') := hT'
      have b07 := b6.trans b7
      clear HD A6 T6 u6 HT b6 b7 e1 e2 hd hT'
      go_wp2_with fail
      exact ⟨⟨a + 1, n', m', bs', us', by go_num, by omega, by omega, by omega, A7, T7, u7, hlu', HT7, b07⟩, by simp [intOf]; omega⟩
    · have x6 := A6.t
      have hm1 : m.length ≤ 1 := by
        rcases T6.one with e | ⟨g0, e, _⟩
        · simp [e]
        · simp [e]
      have HM : Hid (∀ t, t < m.length → (m.map fun p => Value.int .i64 p.1)[t]? = some (.int .i64 33)) := by
        intro t ht
        have e33 : ((c.b : Nat) : Int) = 33 := by have := A6.fit.lb; exact this.symm
        rcases T6.one with e | ⟨g0, e, _⟩
        · rw [e] at ht; simp at ht
        · rw [e] at ht ⊢
          obtain rfl : t = 0 := by simpa using ht
          simp [e33]
      clear d1
      by_cases haL2 : a < L
      · have hai : (a : Int) < L := by omega
        have hak2 : ¬ (a : Int) < 1000 := by omega
        go_wp2_with fail
        refine (blocks_ok T6.tx T6.mp (Nat.le_trans hm1 (by omega))).mono ?_
        rintro e w7 ⟨g, cq, rfl, O7, p7⟩
        have A7 := A6.below p7
        have T7 := T6.below p7
        have u7 := (p7.block ub (heap_lt u6)).trans u6
        have b7 := b6.trans (p7.mono b6.size)
        have hcs : ∀ t, t < m.length → w7.cell? ⟨g, t, none⟩ = some (.int .i64 33) := fun t ht => by
          rw [O7.cellAt t (by omega)]
          exact HM.out t ht
        obtain ⟨k, hk⟩ : ∃ k, m.length = k := ⟨_, rfl⟩
        rw [hk] at hcs hm1 ⊢
        have hk1 : (k : Int) ≤ 1 := by omega
        clear x6 A6 T6 u6 b6 p7 O7
        go_wp2_with fail
        go_loopw [12] (fun i wr => ∃ j : Nat, j ≤ k ∧ i = .int .i64 j ∧ Wd w1 wr wb c D ∧ Ts wr c n m bs ∧ wr.heap[ub]? = some (bb us) ∧ (∀ t, t < k → wr.cell? ⟨g, t, none⟩ = some (.int .i64 33)) ∧ Below w1.heap.size w1 wr) (fun i _ => k - (intOf i).toNat)
        case atStart => exact ⟨0, Nat.zero_le _, rfl, A7, T7, u7, hcs, b7⟩
        case round =>
          obtain ⟨j, hj, rfl, A8, T8, u8, c8, b8⟩ := hrel
          obtain ⟨w8, hw8⟩ : ∃ W, wr = W := ⟨_, rfl⟩
          subst wr
          clear A7 T7 u7 hcs b7
          by_cases hjk : j < k
          · have hji : (j : Int) < k := by omega
            have y8 := c8 j hjk
            have z8 := A8.bi
            have v8 := A8.bl
            go_wp2_with fail
            go_quiet (fail)
            clear y8 z8 v8
            have A9 : Wd w1 (w8.drewN nq) wb c D := { A8 with box := A8.box }
            have T9 := T8.turns (Turns.drewN c.G w8 nq) (T8.dev.turns (Turns.drewN (fun _ => False) w8 nq) (fun _ _ => id))
            have b9 : Below w1.heap.size w1 (w8.drewN nq) := ⟨b8.os, b8.tape, b8.output, b8.size, b8.block⟩
            go_wp2_with fail
            exact ⟨⟨j + 1, by omega, by go_num, A9, T9, u8, c8, b9⟩, by simp [intOf]; omega⟩
          · have hji : ¬ (j : Int) < k := by omega
            go_wp2_with fail
            refine (agrees_ok A8 T8 u8 hG hlu h2 HT.out b8 hB1).mono ?_
            rintro e w9 ⟨rfl, b9⟩
            have b09 := b8.trans b9
            go_wp2_with fail
            go_ret
            exact ⟨rfl, b1.trans (b09.mono b1.size)⟩
      · have hai : ¬ (a : Int) < L := by omega
        go_wp2_with fail
        refine (blocks_ok T6.tx T6.mp (Nat.le_trans hm1 (by omega))).mono ?_
        rintro e w7 ⟨g, cq, rfl, O7, p7⟩
        have A7 := A6.below p7
        have T7 := T6.below p7
        have u7 := (p7.block ub (heap_lt u6)).trans u6
        have b7 := b6.trans (p7.mono b6.size)
        have hcs : ∀ t, t < m.length → w7.cell? ⟨g, t, none⟩ = some (.int .i64 33) := fun t ht => by
          rw [O7.cellAt t (by omega)]
          exact HM.out t ht
        obtain ⟨k, hk⟩ : ∃ k, m.length = k := ⟨_, rfl⟩
        rw [hk] at hcs hm1 ⊢
        have hk1 : (k : Int) ≤ 1 := by omega
        clear x6 A6 T6 u6 b6 p7 O7
        go_wp2_with fail
        go_loopw [12] (fun i wr => ∃ j : Nat, j ≤ k ∧ i = .int .i64 j ∧ Wd w1 wr wb c D ∧ Ts wr c n m bs ∧ wr.heap[ub]? = some (bb us) ∧ (∀ t, t < k → wr.cell? ⟨g, t, none⟩ = some (.int .i64 33)) ∧ Below w1.heap.size w1 wr) (fun i _ => k - (intOf i).toNat)
        case atStart => exact ⟨0, Nat.zero_le _, rfl, A7, T7, u7, hcs, b7⟩
        case round =>
          obtain ⟨j, hj, rfl, A8, T8, u8, c8, b8⟩ := hrel
          obtain ⟨w8, hw8⟩ : ∃ W, wr = W := ⟨_, rfl⟩
          subst wr
          clear A7 T7 u7 hcs b7
          by_cases hjk : j < k
          · have hji : (j : Int) < k := by omega
            have y8 := c8 j hjk
            have z8 := A8.bi
            have v8 := A8.bl
            go_wp2_with fail
            go_quiet (fail)
            clear y8 z8 v8
            have A9 : Wd w1 (w8.drewN nq) wb c D := { A8 with box := A8.box }
            have T9 := T8.turns (Turns.drewN c.G w8 nq) (T8.dev.turns (Turns.drewN (fun _ => False) w8 nq) (fun _ _ => id))
            have b9 : Below w1.heap.size w1 (w8.drewN nq) := ⟨b8.os, b8.tape, b8.output, b8.size, b8.block⟩
            go_wp2_with fail
            exact ⟨⟨j + 1, by omega, by go_num, A9, T9, u8, c8, b9⟩, by simp [intOf]; omega⟩
          · have hji : ¬ (j : Int) < k := by omega
            go_wp2_with fail
            refine (agrees_ok A8 T8 u8 hG hlu h2 HT.out b8 hB1).mono ?_
            rintro e w9 ⟨rfl, b9⟩
            have b09 := b8.trans b9
            go_wp2_with fail
            go_ret
            exact ⟨rfl, b1.trans (b09.mono b1.size)⟩
set_option maxHeartbeats 1000000 in
theorem low_un (data : Int) (ao : Option Addr) (L cp : Nat) (hf : ¬ (8 ≤ data ∧ data ≤ 500)) (w : World) (hB : Bds w) {er : Nat → Addr} (hE : Errs w er) :
    Calls Tryz.prog 4 #[.int .i64 data, .slice ao L cp] w fun e w' => e = .returned (.bool true) ∧ Below w.heap.size w w' := by
  have HF : Hid (fitsB data = false) := decide_eq_false hf
  clear hf
  go_enter Tryz.func4, Tryz.ntmps4
  go_wp2_with fail
  refine (known_ok w hB hE).mono ?_
  rintro e w1 ⟨rfl, b1⟩
  have F1 := fits8_any data w1
  rw [HF.out] at F1
  go_wp2_with fail
  refine F1.mono ?_
  rintro e w2 ⟨rfl, hw2⟩
  subst w2
  clear F1
  go_wp2_with fail
  go_ret
  exact ⟨rfl, b1⟩
theorem low_any (data : Int) (ao : Option Addr) (L cp : Nat) (ds : List Dee) (w : World) (hB : Bds w) {er : Nat → Addr} (hE : Errs w er) (hL9 : L ≤ 140737488351232) (hds : DLies w ao L cp ds) :
    Calls Tryz.prog 4 #[.int .i64 data, .slice ao L cp] w fun e w' => e = .returned (.bool true) ∧ Below w.heap.size w w' := by
  by_cases hf : 8 ≤ data ∧ data ≤ 500
  · obtain ⟨D, rfl⟩ : ∃ D : Nat, data = D := ⟨data.toNat, by omega⟩
    exact lowest_ok (by omega) (by omega) ao L cp ds w hB hE hL9 hds
  · exact low_un data ao L cp hf w hB hE
end Go.Proofs.YtfmcbjlagdanjaaGreatDoor

/- Lists of deeds that came in, opened once. -/
namespace Go.Proofs.YtfmcbjlagdanjaaGreatDoor
open Go.ChangeShapes Go.WideShapes Go.ChangeAt Go.RowKit Go.Deep
set_option maxRecDepth 100000

theorem cellsDe : Tryz.prog.cellsOf 46 = 2 := by kernel_rfl
theorem cells4 : Tryz.prog.cellsOf 4 = 1 := by kernel_rfl
theorem bytesDe : Tryz.prog.bytesOf 46 = 16 := by kernel_rfl
theorem view_de {H : Type} {enc : TypeId × Value → H} {W : World} {fuel : Nat} {cs : List Value} {y : DataW H × List MemPlace}
    (hf : DataW.trod enc Tryz.prog W 0 (fun _ => true) true fuel 46 cs = some y) : ∃ d : Dee, cs = [.bool d.f, .int .i64 d.k] := by
  obtain ⟨xs, n, _, hx, hl, hn, hfs⟩ := DataW.trod_struct Tryz.underlying46 hf
  rw [cellsDe] at hl
  match cs, hl with
  | [c0, c1], _ =>
    match xs, hn with
    | [y0, y1], _ =>
      have f0 : DataW.trod enc Tryz.prog W 0 (fun _ => true) true n 4 (([c0, c1].drop 0).take (Tryz.prog.cellsOf 4)) = some y0 := hfs 0 _ rfl
      have f1 : DataW.trod enc Tryz.prog W 0 (fun _ => true) true n 3 (([c0, c1].drop 1).take (Tryz.prog.cellsOf 3)) = some y1 := hfs 1 _ rfl
      rw [cells4] at f0
      rw [cells3] at f1
      obtain ⟨X0, e0, _⟩ := DataW.trod_bool Tryz.underlying4 f0
      obtain ⟨X1, e1, h1, _⟩ := DataW.trod_int Tryz.underlying3 f1
      simp at e0 e1
      subst e0 e1
      exact ⟨⟨X0, X1⟩, rfl⟩
theorem view_deeds {H : Type} {enc : TypeId × Value → H} {W : World} {fuel : Nat} {a0 : Option Addr} {len cap : Nat} {y : DataW H × List MemPlace}
    (hf : DataW.trod enc Tryz.prog W 0 (fun _ => true) true fuel 42 (Value.slice a0 len cap).cells.toList = some y) :
    ∃ ss : List Dee, DLies W a0 len cap ss ∧ (len = 0 ∨ ∃ el sp, y.1 = .slice el sp ∧ el.length = len) := by
  rcases open_slice Tryz.underlying42 hf with ⟨hcs, hx⟩ | ⟨a, len', cap', m, n, D, Pl, hcs, _, hl, hm, hmm, hx, hel⟩
  · simp [Value.cells] at hcs
    obtain ⟨rfl, rfl, rfl⟩ := hcs
    exact ⟨[], ⟨rfl, Nat.le_refl _, fun j s h => by simp at h⟩, .inl rfl⟩
  · simp [Value.cells] at hcs
    obtain ⟨rfl, rfl, rfl⟩ := hcs
    simp only [if_true] at hmm
    rw [cellsDe] at hel
    have hinh : Inhabited Dee := ⟨⟨false, 0⟩⟩
    obtain ⟨X, hX⟩ := choose_lt (α := Dee) (p := fun i x => ∀ j v, [Value.bool x.f, Value.int .i64 x.k][j]? = some v → W.cell? ((a.add (i * 2)).add j) = some v) (n := len) (fun i hi => by
      obtain ⟨cs', h1, h2⟩ := hel i (by omega)
      obtain ⟨d, hd⟩ := view_de h2
      obtain ⟨_, hlen, hcell⟩ := World.cells?_some h1
      refine ⟨d, fun j v hv => ?_⟩
      have hj : j < 2 := (List.getElem?_eq_some_iff.1 hv).1
      rw [hcell j hj, hd]
      exact hv)
    refine ⟨(List.range len).map X, ⟨by simp, hl, fun j s hj => ?_⟩, .inr ⟨_, _, by rw [hx], by simp⟩⟩
    have hjl : j < len := by
      have := (List.getElem?_eq_some_iff.1 hj).1
      simpa using this
    have h0 := hX j hjl
    simp [hjl] at hj
    subst hj
    have q0 := h0 0 _ rfl
    have q1 := h0 1 _ rfl
    have q00 := hX 0 (by omega) 0 _ rfl
    obtain ⟨b', o, spot⟩ := a
    have hspot : spot = none := by simpa [Addr.add] using World.cell?_spot q00
    subst hspot
    rw [Addr.add_lit, Addr.add_lit] at q0 q1
    exact ⟨b', o, rfl, q0, q1⟩
theorem each_reach {H : Type} {ts : List TypeId} {ds : List (DataW H)} (hsz : (DataW.weightsEach Tryz.prog ts ds).all (· ≤ reachBytes) = true) {j : Nat} {t : TypeId} {d : DataW H} (ht : ts[j]? = some t) (hd : ds[j]? = some d) : ∀ n ∈ d.weights Tryz.prog t, n ≤ reachBytes := fun n hn => by
  simpa using List.all_eq_true.1 hsz n (DataW.weights_mem_each ht hd n hn)
theorem deeds_reach {H : Type} {k : Nat} {y : DataW H} (hZ : k = 0 ∨ ∃ el sp, y = .slice el sp ∧ el.length = k) (hall : ∀ n ∈ y.weights Tryz.prog 42, n ≤ reachBytes) : k ≤ reachBytes := by
  rcases hZ with h | ⟨el, sp, h, hel⟩
  · omega
  · have h1 := hall ((el.length + sp.length) * Tryz.prog.bytesOf 46) (by rw [h]; simp [DataW.weights, Tryz.underlying42])
    rw [bytesDe, hel] at h1
    omega
end Go.Proofs.YtfmcbjlagdanjaaGreatDoor
