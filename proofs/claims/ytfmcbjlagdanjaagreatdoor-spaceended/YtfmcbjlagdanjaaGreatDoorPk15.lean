/- SpaceEnded by its contract, the transaction dropped. -/
import Derived.Test.YtfmcbjlagdanjaaGreatDoorPk13
import Derived.BigQuiet
namespace Go.Proofs.YtfmcbjlagdanjaaGreatDoor
open Go.RowKit Go.Maps
set_option maxRecDepth 100000

attribute [local go_sem ↓ 100000] ly_store ly_load ex_load
set_option maxHeartbeats 4000000 in
theorem endedd_lo {D : Nat} (h1 : 8 ≤ D) (h2 : D ≤ 500) (b : Int) (hb : b < 35) (w : World) (hB : Bds w) {er : Nat → Addr} (hE : Errs w er) :
    Calls Tryz.prog 5 #[.int .i64 D, .int .i64 b, .bool false] w fun e w' => e = .returned (.bool true) ∧ Below w.heap.size w w' := by
  have HF : Hid (fitsB (D : Int) = true) := decide_eq_true ⟨by omega, by omega⟩
  have hD5 : (D : Int) ≤ 500 := by omega
  have hwr : IntKind.i64.wrap (35 + (D : Int)) = 35 + D := Go.IntWalk.i64_in _ ⟨by omega, by omega⟩
  have HB : Hid (b < (35 : Nat) ∨ ((35 : Nat) : Int) + D ≤ b) := Or.inl hb
  go_enter Tryz.func5, Tryz.ntmps5
  go_wp2_with fail
  refine (known_ok w hB hE).mono ?_
  rintro e w1 ⟨rfl, b1⟩
  have F1 := fits8_any (D : Int) w1
  rw [HF.out] at F1
  go_wp2_with fail
  refine F1.mono ?_
  rintro e w2 ⟨rfl, hw2⟩
  subst w2
  clear F1
  go_wp2_with fail
  have hB1 := hB.later b1 (Nat.le_refl _)
  refine (stood_ok h1 h2 w1 hB1 (hE.below b1 (Nat.le_refl _))).mono ?_
  rintro e w3 ⟨wb, c, rfl, A3, T3, b3⟩
  have s3 := b3.size
  have x3 := A3.t
  go_wp2_with fail
  refine (drop_ok T3.tx T3.jour T3.tj).mono ?_
  rintro e w4 ⟨rfl, T4, _, t4⟩
  have t4 := t4.mono (G := fun i => c.G i ∨ i = c.tb ∨ i = c.jb) (fun _ _ => Or.inr)
  have A4 := A3.ended t4
  have b4 := b3.trans (A3.turnedE t4 s3)
  have x4 := A4.t
  have y4 := A4.dt
  have z4 := A4.dl
  clear x3 A3 T3 b3 t4 s3
  go_wp2_with fail
  go_quiet (fail)
  clear x4 y4 z4 hwr
  obtain ⟨w5, hw5⟩ : ∃ W, w4.drewN nq = W := ⟨_, rfl⟩
  have A5 : Wd w1 (w4.drewN nq) wb c D := { A4 with box := A4.box }
  have T5 : Td (w4.drewN nq) c.tb := T4
  have b5 : Below w1.heap.size w1 (w4.drewN nq) := ⟨b4.os, b4.tape, b4.output, b4.size, b4.block⟩
  rw [hw5] at A5 T5 b5 ⊢
  have s5 := b5.size
  have x5 := A5.t
  have q5 := A5.drew.s
  clear A4 T4 b4 hw5
  go_wp2_with fail
  have B5 : Bds w5.drew := (hB1.later b5 (Nat.le_refl _)).drew
  have E5 : Td w5.drew c.tb := T5
  go_region_held3 (fun w' => w'.cell? ⟨wb, 22, none⟩ = some (.pointer (some ⟨c.tb, 0, none⟩)) ∧ (LyEx (.pointer (some ⟨wb, 0, none⟩))).run Tryz.prog w' = .ok (.value (lyV (lay8 D))) w')
    (first | with_reducible exact q5 | with_reducible exact q6)
    (first
      | (go_at_call 12; refine (alloc_end E5 A5.fit B5).mono ?_; rintro e w6 ⟨v6, rfl, t6⟩; have t6 := Below.fromDrew t6; have A6 := A5.below t6; have T6 : Td w6 c.tb := (t6.block _ (heap_lt T5)).trans T5; have q6 := A6.s))
  have b6 := b5.trans (t6.mono s5)
  have s6 := b6.size
  have x6 := A6.t
  have q6 := A6.drew.s
  clear x5 q5 A5 T5 b5 t6 B5 s5 E5
  go_wp2_with fail
  have B6 : Bds w6.drew := (hB1.later b6 (Nat.le_refl _)).drew
  have E6 : Td w6.drew c.tb := T6
  go_region_held3 (fun w' => w'.cell? ⟨wb, 22, none⟩ = some (.pointer (some ⟨c.tb, 0, none⟩)) ∧ (LyEx (.pointer (some ⟨wb, 0, none⟩))).run Tryz.prog w' = .ok (.value (lyV (lay8 D))) w')
    (first | with_reducible exact q6 | with_reducible exact q7)
    (first
      | (go_at_call 14; refine (free_no (tb := c.tb) A6.fit B6 b HB.out).mono ?_; rintro e w7 ⟨rfl, t7⟩; have t7 := Below.fromDrew t7; have A7 := A6.below t7; have T7 : Td w7 c.tb := (t7.block _ (heap_lt T6)).trans T6; have q7 := A7.s))
  have b7 := b6.trans (t7.mono s6)
  have s7 := b7.size
  have x7 := A7.t
  have q7 := A7.drew.s
  clear x6 q6 A6 T6 b6 t7 B6 s6 E6
  go_wp2_with fail
  have B7 : Bds w7.drew := (hB1.later b7 (Nat.le_refl _)).drew
  have E7 : Td w7.drew c.tb := T7
  go_region_held3 (fun w' => w'.cell? ⟨wb, 22, none⟩ = some (.pointer (some ⟨c.tb, 0, none⟩)) ∧ (LyEx (.pointer (some ⟨wb, 0, none⟩))).run Tryz.prog w' = .ok (.value (lyV (lay8 D))) w')
    (first | with_reducible exact q7 | with_reducible exact q8)
    (first
      | (go_at_call 21; refine (has_no (tb := c.tb) A7.fit B7 b HB.out).mono ?_; rintro e w8 ⟨rfl, t8⟩; have t8 := Below.fromDrew t8; have A8 := A7.below t8; have T8 : Td w8 c.tb := (t8.block _ (heap_lt T7)).trans T7; have q8 := A8.s))
  have b8 := b7.trans (t8.mono s7)
  have s8 := b8.size
  have x8 := A8.t
  have q8 := A8.drew.s
  clear x7 q7 A7 T7 b7 t8 B7 s7 E7
  go_wp2_with fail
  have B8 : Bds w8.drew := (hB1.later b8 (Nat.le_refl _)).drew
  have E8 : Td w8.drew c.tb := T8
  go_region_held3 (fun w' => w'.cell? ⟨wb, 22, none⟩ = some (.pointer (some ⟨c.tb, 0, none⟩)) ∧ (LyEx (.pointer (some ⟨wb, 0, none⟩))).run Tryz.prog w' = .ok (.value (lyV (lay8 D))) w')
    (first | with_reducible exact q8 | with_reducible exact q9)
    (first
      | (go_at_call 15; refine (used_end E8 A8.fit B8).mono ?_; rintro e w9 ⟨v9, rfl, t9⟩; have t9 := Below.fromDrew t9; have A9 := A8.below t9; have T9 : Td w9 c.tb := (t9.block _ (heap_lt T8)).trans T8; have q9 := A9.s))
  have b9 := b8.trans (t9.mono s8)
  have s9 := b9.size
  have x9 := A9.t
  have q9 := A9.drew.s
  clear x8 q8 A8 T8 b8 t9 B8 s8 E8
  go_wp2_with fail
  refine (num8_any _ _).mono ?_
  rintro e wz ⟨rfl, hwz⟩
  subst wz
  go_wp2_with fail
  refine (num8_any _ _).mono ?_
  rintro e wz ⟨rfl, hwz⟩
  subst wz
  go_wp2_with fail
  refine (num8_any _ _).mono ?_
  rintro e wz ⟨rfl, hwz⟩
  subst wz
  go_wp2_with fail
  refine (num8_any _ _).mono ?_
  rintro e wz ⟨rfl, hwz⟩
  subst wz
  go_wp2_with fail
  go_ret
  exact ⟨rfl, b1.trans (b9.mono b1.size)⟩
set_option maxHeartbeats 4000000 in
theorem endedd_hi {D : Nat} (h1 : 8 ≤ D) (h2 : D ≤ 500) (b : Int) (hb : 35 + (D : Int) ≤ b) (w : World) (hB : Bds w) {er : Nat → Addr} (hE : Errs w er) :
    Calls Tryz.prog 5 #[.int .i64 D, .int .i64 b, .bool false] w fun e w' => e = .returned (.bool true) ∧ Below w.heap.size w w' := by
  have HF : Hid (fitsB (D : Int) = true) := decide_eq_true ⟨by omega, by omega⟩
  have hD5 : (D : Int) ≤ 500 := by omega
  have hwr : IntKind.i64.wrap (35 + (D : Int)) = 35 + D := Go.IntWalk.i64_in _ ⟨by omega, by omega⟩
  have HB : Hid (b < (35 : Nat) ∨ ((35 : Nat) : Int) + D ≤ b) := Or.inr hb
  have hb1 : ¬ b < 35 := by omega
  go_enter Tryz.func5, Tryz.ntmps5
  go_wp2_with fail
  refine (known_ok w hB hE).mono ?_
  rintro e w1 ⟨rfl, b1⟩
  have F1 := fits8_any (D : Int) w1
  rw [HF.out] at F1
  go_wp2_with fail
  refine F1.mono ?_
  rintro e w2 ⟨rfl, hw2⟩
  subst w2
  clear F1
  go_wp2_with fail
  have hB1 := hB.later b1 (Nat.le_refl _)
  refine (stood_ok h1 h2 w1 hB1 (hE.below b1 (Nat.le_refl _))).mono ?_
  rintro e w3 ⟨wb, c, rfl, A3, T3, b3⟩
  have s3 := b3.size
  have x3 := A3.t
  go_wp2_with fail
  refine (drop_ok T3.tx T3.jour T3.tj).mono ?_
  rintro e w4 ⟨rfl, T4, _, t4⟩
  have t4 := t4.mono (G := fun i => c.G i ∨ i = c.tb ∨ i = c.jb) (fun _ _ => Or.inr)
  have A4 := A3.ended t4
  have b4 := b3.trans (A3.turnedE t4 s3)
  have x4 := A4.t
  have y4 := A4.dt
  have z4 := A4.dl
  clear x3 A3 T3 b3 t4 s3
  go_wp2_with fail
  go_quiet (fail)
  clear x4 y4 z4 hwr
  obtain ⟨w5, hw5⟩ : ∃ W, w4.drewN nq = W := ⟨_, rfl⟩
  have A5 : Wd w1 (w4.drewN nq) wb c D := { A4 with box := A4.box }
  have T5 : Td (w4.drewN nq) c.tb := T4
  have b5 : Below w1.heap.size w1 (w4.drewN nq) := ⟨b4.os, b4.tape, b4.output, b4.size, b4.block⟩
  rw [hw5] at A5 T5 b5 ⊢
  have s5 := b5.size
  have x5 := A5.t
  have q5 := A5.drew.s
  clear A4 T4 b4 hw5
  go_wp2_with fail
  have B5 : Bds w5.drew := (hB1.later b5 (Nat.le_refl _)).drew
  have E5 : Td w5.drew c.tb := T5
  go_region_held3 (fun w' => w'.cell? ⟨wb, 22, none⟩ = some (.pointer (some ⟨c.tb, 0, none⟩)) ∧ (LyEx (.pointer (some ⟨wb, 0, none⟩))).run Tryz.prog w' = .ok (.value (lyV (lay8 D))) w')
    (first | with_reducible exact q5 | with_reducible exact q6)
    (first
      | (go_at_call 12; refine (alloc_end E5 A5.fit B5).mono ?_; rintro e w6 ⟨v6, rfl, t6⟩; have t6 := Below.fromDrew t6; have A6 := A5.below t6; have T6 : Td w6 c.tb := (t6.block _ (heap_lt T5)).trans T5; have q6 := A6.s))
  have b6 := b5.trans (t6.mono s5)
  have s6 := b6.size
  have x6 := A6.t
  have q6 := A6.drew.s
  clear x5 q5 A5 T5 b5 t6 B5 s5 E5
  go_wp2_with fail
  have B6 : Bds w6.drew := (hB1.later b6 (Nat.le_refl _)).drew
  have E6 : Td w6.drew c.tb := T6
  go_region_held3 (fun w' => w'.cell? ⟨wb, 22, none⟩ = some (.pointer (some ⟨c.tb, 0, none⟩)) ∧ (LyEx (.pointer (some ⟨wb, 0, none⟩))).run Tryz.prog w' = .ok (.value (lyV (lay8 D))) w')
    (first | with_reducible exact q6 | with_reducible exact q7)
    (first
      | (go_at_call 14; refine (free_no (tb := c.tb) A6.fit B6 b HB.out).mono ?_; rintro e w7 ⟨rfl, t7⟩; have t7 := Below.fromDrew t7; have A7 := A6.below t7; have T7 : Td w7 c.tb := (t7.block _ (heap_lt T6)).trans T6; have q7 := A7.s))
  have b7 := b6.trans (t7.mono s6)
  have s7 := b7.size
  have x7 := A7.t
  have q7 := A7.drew.s
  clear x6 q6 A6 T6 b6 t7 B6 s6 E6
  go_wp2_with fail
  have B7 : Bds w7.drew := (hB1.later b7 (Nat.le_refl _)).drew
  have E7 : Td w7.drew c.tb := T7
  go_region_held3 (fun w' => w'.cell? ⟨wb, 22, none⟩ = some (.pointer (some ⟨c.tb, 0, none⟩)) ∧ (LyEx (.pointer (some ⟨wb, 0, none⟩))).run Tryz.prog w' = .ok (.value (lyV (lay8 D))) w')
    (first | with_reducible exact q7 | with_reducible exact q8)
    (first
      | (go_at_call 21; refine (has_no (tb := c.tb) A7.fit B7 b HB.out).mono ?_; rintro e w8 ⟨rfl, t8⟩; have t8 := Below.fromDrew t8; have A8 := A7.below t8; have T8 : Td w8 c.tb := (t8.block _ (heap_lt T7)).trans T7; have q8 := A8.s))
  have b8 := b7.trans (t8.mono s7)
  have s8 := b8.size
  have x8 := A8.t
  have q8 := A8.drew.s
  clear x7 q7 A7 T7 b7 t8 B7 s7 E7
  go_wp2_with fail
  have B8 : Bds w8.drew := (hB1.later b8 (Nat.le_refl _)).drew
  have E8 : Td w8.drew c.tb := T8
  go_region_held3 (fun w' => w'.cell? ⟨wb, 22, none⟩ = some (.pointer (some ⟨c.tb, 0, none⟩)) ∧ (LyEx (.pointer (some ⟨wb, 0, none⟩))).run Tryz.prog w' = .ok (.value (lyV (lay8 D))) w')
    (first | with_reducible exact q8 | with_reducible exact q9)
    (first
      | (go_at_call 15; refine (used_end E8 A8.fit B8).mono ?_; rintro e w9 ⟨v9, rfl, t9⟩; have t9 := Below.fromDrew t9; have A9 := A8.below t9; have T9 : Td w9 c.tb := (t9.block _ (heap_lt T8)).trans T8; have q9 := A9.s))
  have b9 := b8.trans (t9.mono s8)
  have s9 := b9.size
  have x9 := A9.t
  have q9 := A9.drew.s
  clear x8 q8 A8 T8 b8 t9 B8 s8 E8
  go_wp2_with fail
  refine (num8_any _ _).mono ?_
  rintro e wz ⟨rfl, hwz⟩
  subst wz
  go_wp2_with fail
  refine (num8_any _ _).mono ?_
  rintro e wz ⟨rfl, hwz⟩
  subst wz
  go_wp2_with fail
  refine (num8_any _ _).mono ?_
  rintro e wz ⟨rfl, hwz⟩
  subst wz
  go_wp2_with fail
  refine (num8_any _ _).mono ?_
  rintro e wz ⟨rfl, hwz⟩
  subst wz
  go_wp2_with fail
  go_ret
  exact ⟨rfl, b1.trans (b9.mono b1.size)⟩
set_option maxHeartbeats 4000000 in
theorem endedd_in {D : Nat} (h1 : 8 ≤ D) (h2 : D ≤ 500) (b : Int) (hb1 : 35 ≤ b) (hb2 : b < 35 + D) (w : World) (hB : Bds w) {er : Nat → Addr} (hE : Errs w er) :
    Calls Tryz.prog 5 #[.int .i64 D, .int .i64 b, .bool false] w fun e w' => e = .returned (.bool true) ∧ Below w.heap.size w w' := by
  have HF : Hid (fitsB (D : Int) = true) := decide_eq_true ⟨by omega, by omega⟩
  have hD5 : (D : Int) ≤ 500 := by omega
  have hwr : IntKind.i64.wrap (35 + (D : Int)) = 35 + D := Go.IntWalk.i64_in _ ⟨by omega, by omega⟩
  have HB1 : Hid (((35 : Nat) : Int) ≤ b) := hb1
  have HB2 : Hid (b < (35 : Nat) + (D : Int)) := hb2
  have hb3 : ¬ b < 35 := by omega
  have hb4 : ¬ 35 + (D : Int) ≤ b := by omega
  clear hb1 hb2
  go_enter Tryz.func5, Tryz.ntmps5
  go_wp2_with fail
  refine (known_ok w hB hE).mono ?_
  rintro e w1 ⟨rfl, b1⟩
  have F1 := fits8_any (D : Int) w1
  rw [HF.out] at F1
  go_wp2_with fail
  refine F1.mono ?_
  rintro e w2 ⟨rfl, hw2⟩
  subst w2
  clear F1
  go_wp2_with fail
  have hB1 := hB.later b1 (Nat.le_refl _)
  refine (stood_ok h1 h2 w1 hB1 (hE.below b1 (Nat.le_refl _))).mono ?_
  rintro e w3 ⟨wb, c, rfl, A3, T3, b3⟩
  have s3 := b3.size
  have x3 := A3.t
  go_wp2_with fail
  refine (drop_ok T3.tx T3.jour T3.tj).mono ?_
  rintro e w4 ⟨rfl, T4, _, t4⟩
  have t4 := t4.mono (G := fun i => c.G i ∨ i = c.tb ∨ i = c.jb) (fun _ _ => Or.inr)
  have A4 := A3.ended t4
  have b4 := b3.trans (A3.turnedE t4 s3)
  have x4 := A4.t
  have y4 := A4.dt
  have z4 := A4.dl
  clear x3 A3 T3 b3 t4 s3
  go_wp2_with fail
  go_quiet (fail)
  clear x4 y4 z4 hwr
  obtain ⟨w5, hw5⟩ : ∃ W, w4.drewN nq = W := ⟨_, rfl⟩
  have A5 : Wd w1 (w4.drewN nq) wb c D := { A4 with box := A4.box }
  have T5 : Td (w4.drewN nq) c.tb := T4
  have b5 : Below w1.heap.size w1 (w4.drewN nq) := ⟨b4.os, b4.tape, b4.output, b4.size, b4.block⟩
  rw [hw5] at A5 T5 b5 ⊢
  have s5 := b5.size
  have x5 := A5.t
  have q5 := A5.drew.s
  clear A4 T4 b4 hw5
  go_wp2_with fail
  have B5 : Bds w5.drew := (hB1.later b5 (Nat.le_refl _)).drew
  have E5 : Td w5.drew c.tb := T5
  go_region_held3 (fun w' => w'.cell? ⟨wb, 22, none⟩ = some (.pointer (some ⟨c.tb, 0, none⟩)) ∧ (LyEx (.pointer (some ⟨wb, 0, none⟩))).run Tryz.prog w' = .ok (.value (lyV (lay8 D))) w')
    (first | with_reducible exact q5 | with_reducible exact q6)
    (first
      | (go_at_call 12; refine (alloc_end E5 A5.fit B5).mono ?_; rintro e w6 ⟨v6, rfl, t6⟩; have t6 := Below.fromDrew t6; have A6 := A5.below t6; have T6 : Td w6 c.tb := (t6.block _ (heap_lt T5)).trans T5; have q6 := A6.s))
  have b6 := b5.trans (t6.mono s5)
  have s6 := b6.size
  have x6 := A6.t
  have q6 := A6.drew.s
  clear x5 q5 A5 T5 b5 t6 B5 s5 E5
  go_wp2_with fail
  have B6 : Bds w6.drew := (hB1.later b6 (Nat.le_refl _)).drew
  have E6 : Td w6.drew c.tb := T6
  go_region_held3 (fun w' => w'.cell? ⟨wb, 22, none⟩ = some (.pointer (some ⟨c.tb, 0, none⟩)) ∧ (LyEx (.pointer (some ⟨wb, 0, none⟩))).run Tryz.prog w' = .ok (.value (lyV (lay8 D))) w')
    (first | with_reducible exact q6 | with_reducible exact q7)
    (first
      | (go_at_call 14; refine (free_end E6 A6.fit B6 b HB1.out HB2.out).mono ?_; rintro e w7 ⟨rfl, t7⟩; have t7 := Below.fromDrew t7; have A7 := A6.below t7; have T7 : Td w7 c.tb := (t7.block _ (heap_lt T6)).trans T6; have q7 := A7.s))
  have b7 := b6.trans (t7.mono s6)
  have s7 := b7.size
  have x7 := A7.t
  have q7 := A7.drew.s
  clear x6 q6 A6 T6 b6 t7 B6 s6 E6
  go_wp2_with fail
  have B7 : Bds w7.drew := (hB1.later b7 (Nat.le_refl _)).drew
  have E7 : Td w7.drew c.tb := T7
  go_region_held3 (fun w' => w'.cell? ⟨wb, 22, none⟩ = some (.pointer (some ⟨c.tb, 0, none⟩)) ∧ (LyEx (.pointer (some ⟨wb, 0, none⟩))).run Tryz.prog w' = .ok (.value (lyV (lay8 D))) w')
    (first | with_reducible exact q7 | with_reducible exact q8)
    (first
      | (go_at_call 21; refine (has_end E7 A7.fit B7 b HB1.out HB2.out).mono ?_; rintro e w8 ⟨rfl, t8⟩; have t8 := Below.fromDrew t8; have A8 := A7.below t8; have T8 : Td w8 c.tb := (t8.block _ (heap_lt T7)).trans T7; have q8 := A8.s))
  have b8 := b7.trans (t8.mono s7)
  have s8 := b8.size
  have x8 := A8.t
  have q8 := A8.drew.s
  clear x7 q7 A7 T7 b7 t8 B7 s7 E7
  go_wp2_with fail
  have B8 : Bds w8.drew := (hB1.later b8 (Nat.le_refl _)).drew
  have E8 : Td w8.drew c.tb := T8
  go_region_held3 (fun w' => w'.cell? ⟨wb, 22, none⟩ = some (.pointer (some ⟨c.tb, 0, none⟩)) ∧ (LyEx (.pointer (some ⟨wb, 0, none⟩))).run Tryz.prog w' = .ok (.value (lyV (lay8 D))) w')
    (first | with_reducible exact q8 | with_reducible exact q9)
    (first
      | (go_at_call 15; refine (used_end E8 A8.fit B8).mono ?_; rintro e w9 ⟨v9, rfl, t9⟩; have t9 := Below.fromDrew t9; have A9 := A8.below t9; have T9 : Td w9 c.tb := (t9.block _ (heap_lt T8)).trans T8; have q9 := A9.s))
  have b9 := b8.trans (t9.mono s8)
  have s9 := b9.size
  have x9 := A9.t
  have q9 := A9.drew.s
  clear x8 q8 A8 T8 b8 t9 B8 s8 E8
  go_wp2_with fail
  refine (num8_any _ _).mono ?_
  rintro e wz ⟨rfl, hwz⟩
  subst wz
  go_wp2_with fail
  refine (num8_any _ _).mono ?_
  rintro e wz ⟨rfl, hwz⟩
  subst wz
  go_wp2_with fail
  refine (num8_any _ _).mono ?_
  rintro e wz ⟨rfl, hwz⟩
  subst wz
  go_wp2_with fail
  refine (num8_any _ _).mono ?_
  rintro e wz ⟨rfl, hwz⟩
  subst wz
  go_wp2_with fail
  go_ret
  exact ⟨rfl, b1.trans (b9.mono b1.size)⟩
end Go.Proofs.YtfmcbjlagdanjaaGreatDoor
