/- SpaceShapes by its contract, for some of the numbers. -/
import Derived.Test.YtfmcbjlagdanjaaGreatDoorPk20
import Derived.BigQuiet
import Derived.Test.YtfmcbjlagdanjaaGreatDoorPk23
namespace Go.Proofs.YtfmcbjlagdanjaaGreatDoor
open Go.RowKit Go.Maps
set_option maxRecDepth 100000

attribute [local go_sem ↓ 100000] ly_store ly_load ex_load
attribute [local go_sem] LyStore.new LyStore.drew LyLoad.new LyLoad.drew
set_option maxHeartbeats 4000000 in
theorem shapes_0 {D : Nat} (h1 : 8 ≤ D) (h2 : D ≤ 500) (which dy b : Int) (hwh : (which.tmod 13 + 13).tmod 13 = 0) (w : World) (hB : Bds w) {er : Nat → Addr} (hE : Errs w er) :
    Calls Tryz.prog 6 #[.int .i64 D, .int .i64 which, .int .i64 dy, .int .i64 b] w fun e w' => e = .returned (.bool true) ∧ Below w.heap.size w w' := by
  have HF : Hid (fitsB (D : Int) = true) := decide_eq_true ⟨by omega, by omega⟩
  have hD5 : (D : Int) ≤ 500 := by omega
  have hw1 : IntKind.i64.wrap (which.tmod 13 + 13) = which.tmod 13 + 13 := by
    have h1 : (which.tmod 13).natAbs < 13 := by
      rw [Int.natAbs_tmod]
      exact Nat.mod_lt _ (by decide)
    exact Go.IntWalk.i64_in _ ⟨by omega, by omega⟩
  obtain ⟨z, hz⟩ : ∃ z, IntKind.i64.wrap (1 + dy) = z := ⟨_, rfl⟩
  go_enter Tryz.func6, Tryz.ntmps6
  go_wp2_with fail
  refine (known_ok w hB hE).mono ?_
  rintro e w1 ⟨rfl, b1⟩
  have F1 := fits8_any (D : Int) w1
  rw [HF.out] at F1
  go_wp2_with fail
  refine F1.mono ?_
  rintro e w2 ⟨rfl, hw2⟩
  subst w2
  clear F1
  go_wp2_with fail
  have hB1 := hB.later b1 (Nat.le_refl _)
  refine (stood_ok h1 h2 w1 hB1 (hE.below b1 (Nat.le_refl _))).mono ?_
  rintro e w3 ⟨wb, c, rfl, A3, T3, b3⟩
  have s3 := b3.size
  have x3 := A3.t
  have l3 := A3.ldE
  go_wp2_with fail
  obtain ⟨W4, hW4⟩ : ∃ W, w3.alloc (.cells #[.int .i64 z, .int .i64 2, .int .i64 27, .int .i64 29, .int .i64 4, .int .i64 33, .int .i64 1, .int .i64 34, .int .i64 1, .int .i64 35, .int .i64 D, .int .i64 (35 + (D : Int)), .int .i64 1, .int .i64 1, .int .i64 1, .int .i64 1, .int .i64 2, .int .i64 0, .int .i64 D, .int .i64 27] 29) = W := ⟨_, rfl⟩
  have p4 : Below w3.heap.size w3 W4 := by rw [← hW4]; exact (Below.refl _ w3).alloc (Nat.le_refl _) _
  have L4 : W4.heap[w3.heap.size]? = some (.cells #[.int .i64 z, .int .i64 2, .int .i64 27, .int .i64 29, .int .i64 4, .int .i64 33, .int .i64 1, .int .i64 34, .int .i64 1, .int .i64 35, .int .i64 D, .int .i64 (35 + (D : Int)), .int .i64 1, .int .i64 1, .int .i64 1, .int .i64 1, .int .i64 2, .int .i64 0, .int .i64 D, .int .i64 27] 29 (0, 0)) := by rw [← hW4]; exact heap_alloc_last w3 _
  rw [hW4]
  obtain ⟨lb, hlb⟩ : ∃ lb, w3.heap.size = lb := ⟨_, rfl⟩
  have hp4 := p4
  rw [hlb] at L4 ⊢
  have A4 := A3.below p4
  have T4 := T3.below p4
  have b4 := b3.trans (p4.mono s3)
  have s4 := b4.size
  obtain ⟨sh, hsh⟩ : ∃ sh : Shp, sh = ⟨1, 1, 1, 1, 2, 0, D, 27⟩ := ⟨_, rfl⟩
  have R4 : Calls Tryz.prog 22 #[.agg #[.int .i64 1, .int .i64 1, .int .i64 1, .int .i64 1, .int .i64 2, .int .i64 0, .int .i64 D, .int .i64 27]] W4 fun e w' => e = .returned (.tuple #[lyV (planL sh), .int .i64 (planE sh)]) ∧ Below W4.heap.size W4 w' := by
    have := rplan_any sh W4
    rw [show shV sh = .agg #[.int .i64 1, .int .i64 1, .int .i64 1, .int .i64 1, .int .i64 2, .int .i64 0, .int .i64 D, .int .i64 27] by rw [hsh]] at this
    exact this
  have HS : Hid (sh = ⟨1, 1, 1, 1, 2, 0, D, 27⟩) := hsh
  obtain ⟨pl, hpl⟩ : ∃ l, planL sh = l := ⟨_, rfl⟩
  have hpe : planE sh = 0 := by rw [hsh]; exact plan8_e h1 h2
  rw [hpl, hpe] at R4
  have HP : Hid (planL sh = pl ∧ planE sh = 0) := ⟨hpl, hpe⟩
  clear x3 l3 A3 T3 b3 p4 hp4 hW4 hz hw1 hwh s3 hsh hpl hpe
  refine R4.mono ?_
  rintro e w5 ⟨rfl, b5⟩
  have L5 := (b5.block _ (heap_lt L4)).trans L4
  have A5 := A4.below b5
  have T5 := T4.below b5
  have c5 := b4.trans (b5.mono s4)
  have n6 := newBox w5 (.cells #[.int .i64 pl.bo, .int .i64 pl.jr, .int .i64 pl.jl, .int .i64 pl.le, .int .i64 pl.ll, .int .i64 pl.bi, .int .i64 pl.bl, .int .i64 pl.ta, .int .i64 pl.tl, .int .i64 pl.dt, .int .i64 pl.dl, .int .i64 pl.to, .int .i64 pl.sh.cl, .int .i64 pl.sh.wi, .int .i64 pl.sh.pl, .int .i64 pl.sh.ca, .int .i64 pl.sh.ino, .int .i64 pl.sh.qu, .int .i64 pl.sh.da, .int .i64 pl.sh.jo] 29)
  have L6 := (n6.block _ (heap_lt L5)).trans L5
  have hld := LyLoad.row L6 rfl
  have A6 := A5.below n6
  have T6 := T5.below n6
  have s5 := c5.size
  have c6 := c5.trans (n6.mono s5)
  clear R4 A4 T4 b4 s4 L4 b5 A5 T5
  go_wp2_with fail
  refine (sameLayout_any ⟨z, 2, 27, 29, 4, 33, 1, 34, 1, 35, D, (35 + D), ⟨1, 1, 1, 1, 2, 0, D, 27⟩⟩ pl _).mono ?_
  rintro e w7 ⟨rfl, b7⟩
  have L7 := (b7.block _ (heap_lt L6)).trans L6
  have A7 := A6.below b7
  have T7 := T6.below b7
  have c7 := c6.trans (b7.mono c6.size)
  obtain ⟨q, hq⟩ : ∃ q, decide ((⟨z, 2, 27, 29, 4, 33, 1, 34, 1, 35, D, (35 + D), ⟨1, 1, 1, 1, 2, 0, D, 27⟩⟩ : Lay) = pl) = q := ⟨_, rfl⟩
  rw [hq]
  have HQ : Hid (decide ((⟨z, 2, 27, 29, 4, 33, 1, 34, 1, 35, D, (35 + D), ⟨1, 1, 1, 1, 2, 0, D, 27⟩⟩ : Lay) = pl) = q) := hq
  clear hq hld n6 L6 A6 T6 c6 b7 L5 c5 s5
  cases q with
  | true =>
    go_wp2_with fail
    go_ret
    exact ⟨rfl, b1.trans (c7.mono b1.size)⟩
  | false =>
    have HO : Hid (lyOk ⟨z, 2, 27, 29, 4, 33, 1, 34, 1, 35, D, (35 + D), ⟨1, 1, 1, 1, 2, 0, D, 27⟩⟩ = false) := by
      apply not_ok
      rintro ⟨e1, e2⟩
      have h := HP.out
      rw [HS.out] at h
      have hq := HQ.out
      rw [← h.1, decide_eq_true e2] at hq
      cases hq
    have x7 := A7.t
    have B7 : Bds w7.drew := (hB1.later c7 (Nat.le_refl _)).drew
    have q7 : w7.drew.cell? ⟨wb, 22, none⟩ = some (.pointer (some ⟨c.tb, 0, none⟩)) ∧ (LyEx (.pointer (some ⟨lb, 0, none⟩))).run Tryz.prog w7.drew = .ok (.value (.agg #[.int .i64 z, .int .i64 2, .int .i64 27, .int .i64 29, .int .i64 4, .int .i64 33, .int .i64 1, .int .i64 34, .int .i64 1, .int .i64 35, .int .i64 D, .int .i64 (35 + (D : Int)), .int .i64 1, .int .i64 1, .int .i64 1, .int .i64 1, .int .i64 2, .int .i64 0, .int .i64 D, .int .i64 27])) w7.drew := ⟨A7.drew.t, lyEx_row (w := w7.drew) L7⟩
    go_wp2_with fail
    go_region_held3 (fun w' => w'.cell? ⟨wb, 22, none⟩ = some (.pointer (some ⟨c.tb, 0, none⟩)) ∧ (LyEx (.pointer (some ⟨lb, 0, none⟩))).run Tryz.prog w' = .ok (.value (.agg #[.int .i64 z, .int .i64 2, .int .i64 27, .int .i64 29, .int .i64 4, .int .i64 33, .int .i64 1, .int .i64 34, .int .i64 1, .int .i64 35, .int .i64 D, .int .i64 (35 + (D : Int)), .int .i64 1, .int .i64 1, .int .i64 1, .int .i64 1, .int .i64 2, .int .i64 0, .int .i64 D, .int .i64 27])) w')
      (first | with_reducible exact q7 | with_reducible exact q8)
      (first
        | (go_at_call 12; refine (alloc_sh (some ⟨c.tb, 0, none⟩) ⟨z, 2, 27, 29, 4, 33, 1, 34, 1, 35, D, (35 + D), ⟨1, 1, 1, 1, 2, 0, D, 27⟩⟩ HO.out B7).mono ?_; rintro e w8 ⟨rfl, p8⟩; have p8 := Below.fromDrew p8; have A8 := A7.below p8; have L8 := (p8.block _ (heap_lt L7)).trans L7; have q8 : w8.cell? ⟨wb, 22, none⟩ = some (.pointer (some ⟨c.tb, 0, none⟩)) ∧ (LyEx (.pointer (some ⟨lb, 0, none⟩))).run Tryz.prog w8 = .ok (.value (.agg #[.int .i64 z, .int .i64 2, .int .i64 27, .int .i64 29, .int .i64 4, .int .i64 33, .int .i64 1, .int .i64 34, .int .i64 1, .int .i64 35, .int .i64 D, .int .i64 (35 + (D : Int)), .int .i64 1, .int .i64 1, .int .i64 1, .int .i64 1, .int .i64 2, .int .i64 0, .int .i64 D, .int .i64 27])) w8 := ⟨A8.t, lyEx_row L8⟩))
    have T8 := T7.below p8
    have c8 := c7.trans (p8.mono c7.size)
    clear x7 q7 B7 A7 T7 c7 L7 p8 q8
    have x8 := A8.t
    have B8 : Bds w8.drew := (hB1.later c8 (Nat.le_refl _)).drew
    have q8 : w8.drew.cell? ⟨wb, 22, none⟩ = some (.pointer (some ⟨c.tb, 0, none⟩)) ∧ (LyEx (.pointer (some ⟨lb, 0, none⟩))).run Tryz.prog w8.drew = .ok (.value (.agg #[.int .i64 z, .int .i64 2, .int .i64 27, .int .i64 29, .int .i64 4, .int .i64 33, .int .i64 1, .int .i64 34, .int .i64 1, .int .i64 35, .int .i64 D, .int .i64 (35 + (D : Int)), .int .i64 1, .int .i64 1, .int .i64 1, .int .i64 1, .int .i64 2, .int .i64 0, .int .i64 D, .int .i64 27])) w8.drew := ⟨A8.drew.t, lyEx_row (w := w8.drew) L8⟩
    go_wp2_with fail
    go_region_held3 (fun w' => w'.cell? ⟨wb, 22, none⟩ = some (.pointer (some ⟨c.tb, 0, none⟩)) ∧ (LyEx (.pointer (some ⟨lb, 0, none⟩))).run Tryz.prog w' = .ok (.value (.agg #[.int .i64 z, .int .i64 2, .int .i64 27, .int .i64 29, .int .i64 4, .int .i64 33, .int .i64 1, .int .i64 34, .int .i64 1, .int .i64 35, .int .i64 D, .int .i64 (35 + (D : Int)), .int .i64 1, .int .i64 1, .int .i64 1, .int .i64 1, .int .i64 2, .int .i64 0, .int .i64 D, .int .i64 27])) w')
      (first | with_reducible exact q8 | with_reducible exact q9)
      (first
        | (go_at_call 14; refine (free_sh (some ⟨c.tb, 0, none⟩) ⟨z, 2, 27, 29, 4, 33, 1, 34, 1, 35, D, (35 + D), ⟨1, 1, 1, 1, 2, 0, D, 27⟩⟩ HO.out B8 b).mono ?_; rintro e w9 ⟨rfl, p9⟩; have p9 := Below.fromDrew p9; have A9 := A8.below p9; have L9 := (p9.block _ (heap_lt L8)).trans L8; have q9 : w9.cell? ⟨wb, 22, none⟩ = some (.pointer (some ⟨c.tb, 0, none⟩)) ∧ (LyEx (.pointer (some ⟨lb, 0, none⟩))).run Tryz.prog w9 = .ok (.value (.agg #[.int .i64 z, .int .i64 2, .int .i64 27, .int .i64 29, .int .i64 4, .int .i64 33, .int .i64 1, .int .i64 34, .int .i64 1, .int .i64 35, .int .i64 D, .int .i64 (35 + (D : Int)), .int .i64 1, .int .i64 1, .int .i64 1, .int .i64 1, .int .i64 2, .int .i64 0, .int .i64 D, .int .i64 27])) w9 := ⟨A9.t, lyEx_row L9⟩))
    have T9 := T8.below p9
    have c9 := c8.trans (p9.mono c8.size)
    clear x8 q8 B8 A8 T8 c8 L8 p9 q9
    have x9 := A9.t
    have B9 : Bds w9.drew := (hB1.later c9 (Nat.le_refl _)).drew
    have q9 : w9.drew.cell? ⟨wb, 22, none⟩ = some (.pointer (some ⟨c.tb, 0, none⟩)) ∧ (LyEx (.pointer (some ⟨lb, 0, none⟩))).run Tryz.prog w9.drew = .ok (.value (.agg #[.int .i64 z, .int .i64 2, .int .i64 27, .int .i64 29, .int .i64 4, .int .i64 33, .int .i64 1, .int .i64 34, .int .i64 1, .int .i64 35, .int .i64 D, .int .i64 (35 + (D : Int)), .int .i64 1, .int .i64 1, .int .i64 1, .int .i64 1, .int .i64 2, .int .i64 0, .int .i64 D, .int .i64 27])) w9.drew := ⟨A9.drew.t, lyEx_row (w := w9.drew) L9⟩
    go_wp2_with fail
    go_region_held3 (fun w' => w'.cell? ⟨wb, 22, none⟩ = some (.pointer (some ⟨c.tb, 0, none⟩)) ∧ (LyEx (.pointer (some ⟨lb, 0, none⟩))).run Tryz.prog w' = .ok (.value (.agg #[.int .i64 z, .int .i64 2, .int .i64 27, .int .i64 29, .int .i64 4, .int .i64 33, .int .i64 1, .int .i64 34, .int .i64 1, .int .i64 35, .int .i64 D, .int .i64 (35 + (D : Int)), .int .i64 1, .int .i64 1, .int .i64 1, .int .i64 1, .int .i64 2, .int .i64 0, .int .i64 D, .int .i64 27])) w')
      (first | with_reducible exact q9 | with_reducible exact q10)
      (first
        | (go_at_call 21; refine (has_sh (some ⟨c.tb, 0, none⟩) ⟨z, 2, 27, 29, 4, 33, 1, 34, 1, 35, D, (35 + D), ⟨1, 1, 1, 1, 2, 0, D, 27⟩⟩ HO.out B9 b).mono ?_; rintro e w10 ⟨rfl, p10⟩; have p10 := Below.fromDrew p10; have A10 := A9.below p10; have L10 := (p10.block _ (heap_lt L9)).trans L9; have q10 : w10.cell? ⟨wb, 22, none⟩ = some (.pointer (some ⟨c.tb, 0, none⟩)) ∧ (LyEx (.pointer (some ⟨lb, 0, none⟩))).run Tryz.prog w10 = .ok (.value (.agg #[.int .i64 z, .int .i64 2, .int .i64 27, .int .i64 29, .int .i64 4, .int .i64 33, .int .i64 1, .int .i64 34, .int .i64 1, .int .i64 35, .int .i64 D, .int .i64 (35 + (D : Int)), .int .i64 1, .int .i64 1, .int .i64 1, .int .i64 1, .int .i64 2, .int .i64 0, .int .i64 D, .int .i64 27])) w10 := ⟨A10.t, lyEx_row L10⟩))
    have T10 := T9.below p10
    have c10 := c9.trans (p10.mono c9.size)
    clear x9 q9 B9 A9 T9 c9 L9 p10 q10
    have x10 := A10.t
    have B10 : Bds w10.drew := (hB1.later c10 (Nat.le_refl _)).drew
    have q10 : w10.drew.cell? ⟨wb, 22, none⟩ = some (.pointer (some ⟨c.tb, 0, none⟩)) ∧ (LyEx (.pointer (some ⟨lb, 0, none⟩))).run Tryz.prog w10.drew = .ok (.value (.agg #[.int .i64 z, .int .i64 2, .int .i64 27, .int .i64 29, .int .i64 4, .int .i64 33, .int .i64 1, .int .i64 34, .int .i64 1, .int .i64 35, .int .i64 D, .int .i64 (35 + (D : Int)), .int .i64 1, .int .i64 1, .int .i64 1, .int .i64 1, .int .i64 2, .int .i64 0, .int .i64 D, .int .i64 27])) w10.drew := ⟨A10.drew.t, lyEx_row (w := w10.drew) L10⟩
    go_wp2_with fail
    go_region_held3 (fun w' => w'.cell? ⟨wb, 22, none⟩ = some (.pointer (some ⟨c.tb, 0, none⟩)) ∧ (LyEx (.pointer (some ⟨lb, 0, none⟩))).run Tryz.prog w' = .ok (.value (.agg #[.int .i64 z, .int .i64 2, .int .i64 27, .int .i64 29, .int .i64 4, .int .i64 33, .int .i64 1, .int .i64 34, .int .i64 1, .int .i64 35, .int .i64 D, .int .i64 (35 + (D : Int)), .int .i64 1, .int .i64 1, .int .i64 1, .int .i64 1, .int .i64 2, .int .i64 0, .int .i64 D, .int .i64 27])) w')
      (first | with_reducible exact q10 | with_reducible exact q11)
      (first
        | (go_at_call 15; refine (used_sh (some ⟨c.tb, 0, none⟩) ⟨z, 2, 27, 29, 4, 33, 1, 34, 1, 35, D, (35 + D), ⟨1, 1, 1, 1, 2, 0, D, 27⟩⟩ HO.out B10).mono ?_; rintro e w11 ⟨rfl, p11⟩; have p11 := Below.fromDrew p11; have A11 := A10.below p11; have L11 := (p11.block _ (heap_lt L10)).trans L10; have q11 : w11.cell? ⟨wb, 22, none⟩ = some (.pointer (some ⟨c.tb, 0, none⟩)) ∧ (LyEx (.pointer (some ⟨lb, 0, none⟩))).run Tryz.prog w11 = .ok (.value (.agg #[.int .i64 z, .int .i64 2, .int .i64 27, .int .i64 29, .int .i64 4, .int .i64 33, .int .i64 1, .int .i64 34, .int .i64 1, .int .i64 35, .int .i64 D, .int .i64 (35 + (D : Int)), .int .i64 1, .int .i64 1, .int .i64 1, .int .i64 1, .int .i64 2, .int .i64 0, .int .i64 D, .int .i64 27])) w11 := ⟨A11.t, lyEx_row L11⟩))
    have T11 := T10.below p11
    have c11 := c10.trans (p11.mono c10.size)
    clear x10 q10 B10 A10 T10 c10 L10 p11 q11
    have x11 := A11.t
    go_wp2_with fail
    refine (blocks_ok T11.tx T11.mp (by simp)).mono ?_
    rintro e w12 ⟨g, cq, rfl, _, p12⟩
    have c12 := c11.trans (p12.mono c11.size)
    clear x11 A11 T11 c11 L11 p12
    go_wp2_with fail
    refine (num8_any _ _).mono ?_
    rintro e wz ⟨rfl, hwz⟩
    subst wz
    go_wp2_with fail
    refine (num8_any _ _).mono ?_
    rintro e wz ⟨rfl, hwz⟩
    subst wz
    go_wp2_with fail
    refine (num8_any _ _).mono ?_
    rintro e wz ⟨rfl, hwz⟩
    subst wz
    go_wp2_with fail
    refine (num8_any _ _).mono ?_
    rintro e wz ⟨rfl, hwz⟩
    subst wz
    go_wp2_with fail
    go_ret
    exact ⟨rfl, b1.trans (c12.mono b1.size)⟩
set_option maxHeartbeats 4000000 in
theorem shapes_1 {D : Nat} (h1 : 8 ≤ D) (h2 : D ≤ 500) (which dy b : Int) (hwh : (which.tmod 13 + 13).tmod 13 = 1) (w : World) (hB : Bds w) {er : Nat → Addr} (hE : Errs w er) :
    Calls Tryz.prog 6 #[.int .i64 D, .int .i64 which, .int .i64 dy, .int .i64 b] w fun e w' => e = .returned (.bool true) ∧ Below w.heap.size w w' := by
  have HF : Hid (fitsB (D : Int) = true) := decide_eq_true ⟨by omega, by omega⟩
  have hD5 : (D : Int) ≤ 500 := by omega
  have hw1 : IntKind.i64.wrap (which.tmod 13 + 13) = which.tmod 13 + 13 := by
    have h1 : (which.tmod 13).natAbs < 13 := by
      rw [Int.natAbs_tmod]
      exact Nat.mod_lt _ (by decide)
    exact Go.IntWalk.i64_in _ ⟨by omega, by omega⟩
  obtain ⟨z, hz⟩ : ∃ z, IntKind.i64.wrap (2 + dy) = z := ⟨_, rfl⟩
  go_enter Tryz.func6, Tryz.ntmps6
  go_wp2_with fail
  refine (known_ok w hB hE).mono ?_
  rintro e w1 ⟨rfl, b1⟩
  have F1 := fits8_any (D : Int) w1
  rw [HF.out] at F1
  go_wp2_with fail
  refine F1.mono ?_
  rintro e w2 ⟨rfl, hw2⟩
  subst w2
  clear F1
  go_wp2_with fail
  have hB1 := hB.later b1 (Nat.le_refl _)
  refine (stood_ok h1 h2 w1 hB1 (hE.below b1 (Nat.le_refl _))).mono ?_
  rintro e w3 ⟨wb, c, rfl, A3, T3, b3⟩
  have s3 := b3.size
  have x3 := A3.t
  have l3 := A3.ldE
  go_wp2_with fail
  obtain ⟨W4, hW4⟩ : ∃ W, w3.alloc (.cells #[.int .i64 1, .int .i64 z, .int .i64 27, .int .i64 29, .int .i64 4, .int .i64 33, .int .i64 1, .int .i64 34, .int .i64 1, .int .i64 35, .int .i64 D, .int .i64 (35 + (D : Int)), .int .i64 1, .int .i64 1, .int .i64 1, .int .i64 1, .int .i64 2, .int .i64 0, .int .i64 D, .int .i64 27] 29) = W := ⟨_, rfl⟩
  have p4 : Below w3.heap.size w3 W4 := by rw [← hW4]; exact (Below.refl _ w3).alloc (Nat.le_refl _) _
  have L4 : W4.heap[w3.heap.size]? = some (.cells #[.int .i64 1, .int .i64 z, .int .i64 27, .int .i64 29, .int .i64 4, .int .i64 33, .int .i64 1, .int .i64 34, .int .i64 1, .int .i64 35, .int .i64 D, .int .i64 (35 + (D : Int)), .int .i64 1, .int .i64 1, .int .i64 1, .int .i64 1, .int .i64 2, .int .i64 0, .int .i64 D, .int .i64 27] 29 (0, 0)) := by rw [← hW4]; exact heap_alloc_last w3 _
  rw [hW4]
  obtain ⟨lb, hlb⟩ : ∃ lb, w3.heap.size = lb := ⟨_, rfl⟩
  have hp4 := p4
  rw [hlb] at L4 ⊢
  have A4 := A3.below p4
  have T4 := T3.below p4
  have b4 := b3.trans (p4.mono s3)
  have s4 := b4.size
  obtain ⟨sh, hsh⟩ : ∃ sh : Shp, sh = ⟨1, 1, 1, 1, 2, 0, D, 27⟩ := ⟨_, rfl⟩
  have R4 : Calls Tryz.prog 22 #[.agg #[.int .i64 1, .int .i64 1, .int .i64 1, .int .i64 1, .int .i64 2, .int .i64 0, .int .i64 D, .int .i64 27]] W4 fun e w' => e = .returned (.tuple #[lyV (planL sh), .int .i64 (planE sh)]) ∧ Below W4.heap.size W4 w' := by
    have := rplan_any sh W4
    rw [show shV sh = .agg #[.int .i64 1, .int .i64 1, .int .i64 1, .int .i64 1, .int .i64 2, .int .i64 0, .int .i64 D, .int .i64 27] by rw [hsh]] at this
    exact this
  have HS : Hid (sh = ⟨1, 1, 1, 1, 2, 0, D, 27⟩) := hsh
  obtain ⟨pl, hpl⟩ : ∃ l, planL sh = l := ⟨_, rfl⟩
  have hpe : planE sh = 0 := by rw [hsh]; exact plan8_e h1 h2
  rw [hpl, hpe] at R4
  have HP : Hid (planL sh = pl ∧ planE sh = 0) := ⟨hpl, hpe⟩
  clear x3 l3 A3 T3 b3 p4 hp4 hW4 hz hw1 hwh s3 hsh hpl hpe
  refine R4.mono ?_
  rintro e w5 ⟨rfl, b5⟩
  have L5 := (b5.block _ (heap_lt L4)).trans L4
  have A5 := A4.below b5
  have T5 := T4.below b5
  have c5 := b4.trans (b5.mono s4)
  have n6 := newBox w5 (.cells #[.int .i64 pl.bo, .int .i64 pl.jr, .int .i64 pl.jl, .int .i64 pl.le, .int .i64 pl.ll, .int .i64 pl.bi, .int .i64 pl.bl, .int .i64 pl.ta, .int .i64 pl.tl, .int .i64 pl.dt, .int .i64 pl.dl, .int .i64 pl.to, .int .i64 pl.sh.cl, .int .i64 pl.sh.wi, .int .i64 pl.sh.pl, .int .i64 pl.sh.ca, .int .i64 pl.sh.ino, .int .i64 pl.sh.qu, .int .i64 pl.sh.da, .int .i64 pl.sh.jo] 29)
  have L6 := (n6.block _ (heap_lt L5)).trans L5
  have hld := LyLoad.row L6 rfl
  have A6 := A5.below n6
  have T6 := T5.below n6
  have s5 := c5.size
  have c6 := c5.trans (n6.mono s5)
  clear R4 A4 T4 b4 s4 L4 b5 A5 T5
  go_wp2_with fail
  refine (sameLayout_any ⟨1, z, 27, 29, 4, 33, 1, 34, 1, 35, D, (35 + D), ⟨1, 1, 1, 1, 2, 0, D, 27⟩⟩ pl _).mono ?_
  rintro e w7 ⟨rfl, b7⟩
  have L7 := (b7.block _ (heap_lt L6)).trans L6
  have A7 := A6.below b7
  have T7 := T6.below b7
  have c7 := c6.trans (b7.mono c6.size)
  obtain ⟨q, hq⟩ : ∃ q, decide ((⟨1, z, 27, 29, 4, 33, 1, 34, 1, 35, D, (35 + D), ⟨1, 1, 1, 1, 2, 0, D, 27⟩⟩ : Lay) = pl) = q := ⟨_, rfl⟩
  rw [hq]
  have HQ : Hid (decide ((⟨1, z, 27, 29, 4, 33, 1, 34, 1, 35, D, (35 + D), ⟨1, 1, 1, 1, 2, 0, D, 27⟩⟩ : Lay) = pl) = q) := hq
  clear hq hld n6 L6 A6 T6 c6 b7 L5 c5 s5
  cases q with
  | true =>
    go_wp2_with fail
    go_ret
    exact ⟨rfl, b1.trans (c7.mono b1.size)⟩
  | false =>
    have HO : Hid (lyOk ⟨1, z, 27, 29, 4, 33, 1, 34, 1, 35, D, (35 + D), ⟨1, 1, 1, 1, 2, 0, D, 27⟩⟩ = false) := by
      apply not_ok
      rintro ⟨e1, e2⟩
      have h := HP.out
      rw [HS.out] at h
      have hq := HQ.out
      rw [← h.1, decide_eq_true e2] at hq
      cases hq
    have x7 := A7.t
    have B7 : Bds w7.drew := (hB1.later c7 (Nat.le_refl _)).drew
    have q7 : w7.drew.cell? ⟨wb, 22, none⟩ = some (.pointer (some ⟨c.tb, 0, none⟩)) ∧ (LyEx (.pointer (some ⟨lb, 0, none⟩))).run Tryz.prog w7.drew = .ok (.value (.agg #[.int .i64 1, .int .i64 z, .int .i64 27, .int .i64 29, .int .i64 4, .int .i64 33, .int .i64 1, .int .i64 34, .int .i64 1, .int .i64 35, .int .i64 D, .int .i64 (35 + (D : Int)), .int .i64 1, .int .i64 1, .int .i64 1, .int .i64 1, .int .i64 2, .int .i64 0, .int .i64 D, .int .i64 27])) w7.drew := ⟨A7.drew.t, lyEx_row (w := w7.drew) L7⟩
    go_wp2_with fail
    go_region_held3 (fun w' => w'.cell? ⟨wb, 22, none⟩ = some (.pointer (some ⟨c.tb, 0, none⟩)) ∧ (LyEx (.pointer (some ⟨lb, 0, none⟩))).run Tryz.prog w' = .ok (.value (.agg #[.int .i64 1, .int .i64 z, .int .i64 27, .int .i64 29, .int .i64 4, .int .i64 33, .int .i64 1, .int .i64 34, .int .i64 1, .int .i64 35, .int .i64 D, .int .i64 (35 + (D : Int)), .int .i64 1, .int .i64 1, .int .i64 1, .int .i64 1, .int .i64 2, .int .i64 0, .int .i64 D, .int .i64 27])) w')
      (first | with_reducible exact q7 | with_reducible exact q8)
      (first
        | (go_at_call 12; refine (alloc_sh (some ⟨c.tb, 0, none⟩) ⟨1, z, 27, 29, 4, 33, 1, 34, 1, 35, D, (35 + D), ⟨1, 1, 1, 1, 2, 0, D, 27⟩⟩ HO.out B7).mono ?_; rintro e w8 ⟨rfl, p8⟩; have p8 := Below.fromDrew p8; have A8 := A7.below p8; have L8 := (p8.block _ (heap_lt L7)).trans L7; have q8 : w8.cell? ⟨wb, 22, none⟩ = some (.pointer (some ⟨c.tb, 0, none⟩)) ∧ (LyEx (.pointer (some ⟨lb, 0, none⟩))).run Tryz.prog w8 = .ok (.value (.agg #[.int .i64 1, .int .i64 z, .int .i64 27, .int .i64 29, .int .i64 4, .int .i64 33, .int .i64 1, .int .i64 34, .int .i64 1, .int .i64 35, .int .i64 D, .int .i64 (35 + (D : Int)), .int .i64 1, .int .i64 1, .int .i64 1, .int .i64 1, .int .i64 2, .int .i64 0, .int .i64 D, .int .i64 27])) w8 := ⟨A8.t, lyEx_row L8⟩))
    have T8 := T7.below p8
    have c8 := c7.trans (p8.mono c7.size)
    clear x7 q7 B7 A7 T7 c7 L7 p8 q8
    have x8 := A8.t
    have B8 : Bds w8.drew := (hB1.later c8 (Nat.le_refl _)).drew
    have q8 : w8.drew.cell? ⟨wb, 22, none⟩ = some (.pointer (some ⟨c.tb, 0, none⟩)) ∧ (LyEx (.pointer (some ⟨lb, 0, none⟩))).run Tryz.prog w8.drew = .ok (.value (.agg #[.int .i64 1, .int .i64 z, .int .i64 27, .int .i64 29, .int .i64 4, .int .i64 33, .int .i64 1, .int .i64 34, .int .i64 1, .int .i64 35, .int .i64 D, .int .i64 (35 + (D : Int)), .int .i64 1, .int .i64 1, .int .i64 1, .int .i64 1, .int .i64 2, .int .i64 0, .int .i64 D, .int .i64 27])) w8.drew := ⟨A8.drew.t, lyEx_row (w := w8.drew) L8⟩
    go_wp2_with fail
    go_region_held3 (fun w' => w'.cell? ⟨wb, 22, none⟩ = some (.pointer (some ⟨c.tb, 0, none⟩)) ∧ (LyEx (.pointer (some ⟨lb, 0, none⟩))).run Tryz.prog w' = .ok (.value (.agg #[.int .i64 1, .int .i64 z, .int .i64 27, .int .i64 29, .int .i64 4, .int .i64 33, .int .i64 1, .int .i64 34, .int .i64 1, .int .i64 35, .int .i64 D, .int .i64 (35 + (D : Int)), .int .i64 1, .int .i64 1, .int .i64 1, .int .i64 1, .int .i64 2, .int .i64 0, .int .i64 D, .int .i64 27])) w')
      (first | with_reducible exact q8 | with_reducible exact q9)
      (first
        | (go_at_call 14; refine (free_sh (some ⟨c.tb, 0, none⟩) ⟨1, z, 27, 29, 4, 33, 1, 34, 1, 35, D, (35 + D), ⟨1, 1, 1, 1, 2, 0, D, 27⟩⟩ HO.out B8 b).mono ?_; rintro e w9 ⟨rfl, p9⟩; have p9 := Below.fromDrew p9; have A9 := A8.below p9; have L9 := (p9.block _ (heap_lt L8)).trans L8; have q9 : w9.cell? ⟨wb, 22, none⟩ = some (.pointer (some ⟨c.tb, 0, none⟩)) ∧ (LyEx (.pointer (some ⟨lb, 0, none⟩))).run Tryz.prog w9 = .ok (.value (.agg #[.int .i64 1, .int .i64 z, .int .i64 27, .int .i64 29, .int .i64 4, .int .i64 33, .int .i64 1, .int .i64 34, .int .i64 1, .int .i64 35, .int .i64 D, .int .i64 (35 + (D : Int)), .int .i64 1, .int .i64 1, .int .i64 1, .int .i64 1, .int .i64 2, .int .i64 0, .int .i64 D, .int .i64 27])) w9 := ⟨A9.t, lyEx_row L9⟩))
    have T9 := T8.below p9
    have c9 := c8.trans (p9.mono c8.size)
    clear x8 q8 B8 A8 T8 c8 L8 p9 q9
    have x9 := A9.t
    have B9 : Bds w9.drew := (hB1.later c9 (Nat.le_refl _)).drew
    have q9 : w9.drew.cell? ⟨wb, 22, none⟩ = some (.pointer (some ⟨c.tb, 0, none⟩)) ∧ (LyEx (.pointer (some ⟨lb, 0, none⟩))).run Tryz.prog w9.drew = .ok (.value (.agg #[.int .i64 1, .int .i64 z, .int .i64 27, .int .i64 29, .int .i64 4, .int .i64 33, .int .i64 1, .int .i64 34, .int .i64 1, .int .i64 35, .int .i64 D, .int .i64 (35 + (D : Int)), .int .i64 1, .int .i64 1, .int .i64 1, .int .i64 1, .int .i64 2, .int .i64 0, .int .i64 D, .int .i64 27])) w9.drew := ⟨A9.drew.t, lyEx_row (w := w9.drew) L9⟩
    go_wp2_with fail
    go_region_held3 (fun w' => w'.cell? ⟨wb, 22, none⟩ = some (.pointer (some ⟨c.tb, 0, none⟩)) ∧ (LyEx (.pointer (some ⟨lb, 0, none⟩))).run Tryz.prog w' = .ok (.value (.agg #[.int .i64 1, .int .i64 z, .int .i64 27, .int .i64 29, .int .i64 4, .int .i64 33, .int .i64 1, .int .i64 34, .int .i64 1, .int .i64 35, .int .i64 D, .int .i64 (35 + (D : Int)), .int .i64 1, .int .i64 1, .int .i64 1, .int .i64 1, .int .i64 2, .int .i64 0, .int .i64 D, .int .i64 27])) w')
      (first | with_reducible exact q9 | with_reducible exact q10)
      (first
        | (go_at_call 21; refine (has_sh (some ⟨c.tb, 0, none⟩) ⟨1, z, 27, 29, 4, 33, 1, 34, 1, 35, D, (35 + D), ⟨1, 1, 1, 1, 2, 0, D, 27⟩⟩ HO.out B9 b).mono ?_; rintro e w10 ⟨rfl, p10⟩; have p10 := Below.fromDrew p10; have A10 := A9.below p10; have L10 := (p10.block _ (heap_lt L9)).trans L9; have q10 : w10.cell? ⟨wb, 22, none⟩ = some (.pointer (some ⟨c.tb, 0, none⟩)) ∧ (LyEx (.pointer (some ⟨lb, 0, none⟩))).run Tryz.prog w10 = .ok (.value (.agg #[.int .i64 1, .int .i64 z, .int .i64 27, .int .i64 29, .int .i64 4, .int .i64 33, .int .i64 1, .int .i64 34, .int .i64 1, .int .i64 35, .int .i64 D, .int .i64 (35 + (D : Int)), .int .i64 1, .int .i64 1, .int .i64 1, .int .i64 1, .int .i64 2, .int .i64 0, .int .i64 D, .int .i64 27])) w10 := ⟨A10.t, lyEx_row L10⟩))
    have T10 := T9.below p10
    have c10 := c9.trans (p10.mono c9.size)
    clear x9 q9 B9 A9 T9 c9 L9 p10 q10
    have x10 := A10.t
    have B10 : Bds w10.drew := (hB1.later c10 (Nat.le_refl _)).drew
    have q10 : w10.drew.cell? ⟨wb, 22, none⟩ = some (.pointer (some ⟨c.tb, 0, none⟩)) ∧ (LyEx (.pointer (some ⟨lb, 0, none⟩))).run Tryz.prog w10.drew = .ok (.value (.agg #[.int .i64 1, .int .i64 z, .int .i64 27, .int .i64 29, .int .i64 4, .int .i64 33, .int .i64 1, .int .i64 34, .int .i64 1, .int .i64 35, .int .i64 D, .int .i64 (35 + (D : Int)), .int .i64 1, .int .i64 1, .int .i64 1, .int .i64 1, .int .i64 2, .int .i64 0, .int .i64 D, .int .i64 27])) w10.drew := ⟨A10.drew.t, lyEx_row (w := w10.drew) L10⟩
    go_wp2_with fail
    go_region_held3 (fun w' => w'.cell? ⟨wb, 22, none⟩ = some (.pointer (some ⟨c.tb, 0, none⟩)) ∧ (LyEx (.pointer (some ⟨lb, 0, none⟩))).run Tryz.prog w' = .ok (.value (.agg #[.int .i64 1, .int .i64 z, .int .i64 27, .int .i64 29, .int .i64 4, .int .i64 33, .int .i64 1, .int .i64 34, .int .i64 1, .int .i64 35, .int .i64 D, .int .i64 (35 + (D : Int)), .int .i64 1, .int .i64 1, .int .i64 1, .int .i64 1, .int .i64 2, .int .i64 0, .int .i64 D, .int .i64 27])) w')
      (first | with_reducible exact q10 | with_reducible exact q11)
      (first
        | (go_at_call 15; refine (used_sh (some ⟨c.tb, 0, none⟩) ⟨1, z, 27, 29, 4, 33, 1, 34, 1, 35, D, (35 + D), ⟨1, 1, 1, 1, 2, 0, D, 27⟩⟩ HO.out B10).mono ?_; rintro e w11 ⟨rfl, p11⟩; have p11 := Below.fromDrew p11; have A11 := A10.below p11; have L11 := (p11.block _ (heap_lt L10)).trans L10; have q11 : w11.cell? ⟨wb, 22, none⟩ = some (.pointer (some ⟨c.tb, 0, none⟩)) ∧ (LyEx (.pointer (some ⟨lb, 0, none⟩))).run Tryz.prog w11 = .ok (.value (.agg #[.int .i64 1, .int .i64 z, .int .i64 27, .int .i64 29, .int .i64 4, .int .i64 33, .int .i64 1, .int .i64 34, .int .i64 1, .int .i64 35, .int .i64 D, .int .i64 (35 + (D : Int)), .int .i64 1, .int .i64 1, .int .i64 1, .int .i64 1, .int .i64 2, .int .i64 0, .int .i64 D, .int .i64 27])) w11 := ⟨A11.t, lyEx_row L11⟩))
    have T11 := T10.below p11
    have c11 := c10.trans (p11.mono c10.size)
    clear x10 q10 B10 A10 T10 c10 L10 p11 q11
    have x11 := A11.t
    go_wp2_with fail
    refine (blocks_ok T11.tx T11.mp (by simp)).mono ?_
    rintro e w12 ⟨g, cq, rfl, _, p12⟩
    have c12 := c11.trans (p12.mono c11.size)
    clear x11 A11 T11 c11 L11 p12
    go_wp2_with fail
    refine (num8_any _ _).mono ?_
    rintro e wz ⟨rfl, hwz⟩
    subst wz
    go_wp2_with fail
    refine (num8_any _ _).mono ?_
    rintro e wz ⟨rfl, hwz⟩
    subst wz
    go_wp2_with fail
    refine (num8_any _ _).mono ?_
    rintro e wz ⟨rfl, hwz⟩
    subst wz
    go_wp2_with fail
    refine (num8_any _ _).mono ?_
    rintro e wz ⟨rfl, hwz⟩
    subst wz
    go_wp2_with fail
    go_ret
    exact ⟨rfl, b1.trans (c12.mono b1.size)⟩
set_option maxHeartbeats 4000000 in
theorem shapes_2 {D : Nat} (h1 : 8 ≤ D) (h2 : D ≤ 500) (which dy b : Int) (hwh : (which.tmod 13 + 13).tmod 13 = 2) (w : World) (hB : Bds w) {er : Nat → Addr} (hE : Errs w er) :
    Calls Tryz.prog 6 #[.int .i64 D, .int .i64 which, .int .i64 dy, .int .i64 b] w fun e w' => e = .returned (.bool true) ∧ Below w.heap.size w w' := by
  have HF : Hid (fitsB (D : Int) = true) := decide_eq_true ⟨by omega, by omega⟩
  have hD5 : (D : Int) ≤ 500 := by omega
  have hw1 : IntKind.i64.wrap (which.tmod 13 + 13) = which.tmod 13 + 13 := by
    have h1 : (which.tmod 13).natAbs < 13 := by
      rw [Int.natAbs_tmod]
      exact Nat.mod_lt _ (by decide)
    exact Go.IntWalk.i64_in _ ⟨by omega, by omega⟩
  obtain ⟨z, hz⟩ : ∃ z, IntKind.i64.wrap (27 + dy) = z := ⟨_, rfl⟩
  go_enter Tryz.func6, Tryz.ntmps6
  go_wp2_with fail
  refine (known_ok w hB hE).mono ?_
  rintro e w1 ⟨rfl, b1⟩
  have F1 := fits8_any (D : Int) w1
  rw [HF.out] at F1
  go_wp2_with fail
  refine F1.mono ?_
  rintro e w2 ⟨rfl, hw2⟩
  subst w2
  clear F1
  go_wp2_with fail
  have hB1 := hB.later b1 (Nat.le_refl _)
  refine (stood_ok h1 h2 w1 hB1 (hE.below b1 (Nat.le_refl _))).mono ?_
  rintro e w3 ⟨wb, c, rfl, A3, T3, b3⟩
  have s3 := b3.size
  have x3 := A3.t
  have l3 := A3.ldE
  go_wp2_with fail
  obtain ⟨W4, hW4⟩ : ∃ W, w3.alloc (.cells #[.int .i64 1, .int .i64 2, .int .i64 z, .int .i64 29, .int .i64 4, .int .i64 33, .int .i64 1, .int .i64 34, .int .i64 1, .int .i64 35, .int .i64 D, .int .i64 (35 + (D : Int)), .int .i64 1, .int .i64 1, .int .i64 1, .int .i64 1, .int .i64 2, .int .i64 0, .int .i64 D, .int .i64 27] 29) = W := ⟨_, rfl⟩
  have p4 : Below w3.heap.size w3 W4 := by rw [← hW4]; exact (Below.refl _ w3).alloc (Nat.le_refl _) _
  have L4 : W4.heap[w3.heap.size]? = some (.cells #[.int .i64 1, .int .i64 2, .int .i64 z, .int .i64 29, .int .i64 4, .int .i64 33, .int .i64 1, .int .i64 34, .int .i64 1, .int .i64 35, .int .i64 D, .int .i64 (35 + (D : Int)), .int .i64 1, .int .i64 1, .int .i64 1, .int .i64 1, .int .i64 2, .int .i64 0, .int .i64 D, .int .i64 27] 29 (0, 0)) := by rw [← hW4]; exact heap_alloc_last w3 _
  rw [hW4]
  obtain ⟨lb, hlb⟩ : ∃ lb, w3.heap.size = lb := ⟨_, rfl⟩
  have hp4 := p4
  rw [hlb] at L4 ⊢
  have A4 := A3.below p4
  have T4 := T3.below p4
  have b4 := b3.trans (p4.mono s3)
  have s4 := b4.size
  obtain ⟨sh, hsh⟩ : ∃ sh : Shp, sh = ⟨1, 1, 1, 1, 2, 0, D, 27⟩ := ⟨_, rfl⟩
  have R4 : Calls Tryz.prog 22 #[.agg #[.int .i64 1, .int .i64 1, .int .i64 1, .int .i64 1, .int .i64 2, .int .i64 0, .int .i64 D, .int .i64 27]] W4 fun e w' => e = .returned (.tuple #[lyV (planL sh), .int .i64 (planE sh)]) ∧ Below W4.heap.size W4 w' := by
    have := rplan_any sh W4
    rw [show shV sh = .agg #[.int .i64 1, .int .i64 1, .int .i64 1, .int .i64 1, .int .i64 2, .int .i64 0, .int .i64 D, .int .i64 27] by rw [hsh]] at this
    exact this
  have HS : Hid (sh = ⟨1, 1, 1, 1, 2, 0, D, 27⟩) := hsh
  obtain ⟨pl, hpl⟩ : ∃ l, planL sh = l := ⟨_, rfl⟩
  have hpe : planE sh = 0 := by rw [hsh]; exact plan8_e h1 h2
  rw [hpl, hpe] at R4
  have HP : Hid (planL sh = pl ∧ planE sh = 0) := ⟨hpl, hpe⟩
  clear x3 l3 A3 T3 b3 p4 hp4 hW4 hz hw1 hwh s3 hsh hpl hpe
  refine R4.mono ?_
  rintro e w5 ⟨rfl, b5⟩
  have L5 := (b5.block _ (heap_lt L4)).trans L4
  have A5 := A4.below b5
  have T5 := T4.below b5
  have c5 := b4.trans (b5.mono s4)
  have n6 := newBox w5 (.cells #[.int .i64 pl.bo, .int .i64 pl.jr, .int .i64 pl.jl, .int .i64 pl.le, .int .i64 pl.ll, .int .i64 pl.bi, .int .i64 pl.bl, .int .i64 pl.ta, .int .i64 pl.tl, .int .i64 pl.dt, .int .i64 pl.dl, .int .i64 pl.to, .int .i64 pl.sh.cl, .int .i64 pl.sh.wi, .int .i64 pl.sh.pl, .int .i64 pl.sh.ca, .int .i64 pl.sh.ino, .int .i64 pl.sh.qu, .int .i64 pl.sh.da, .int .i64 pl.sh.jo] 29)
  have L6 := (n6.block _ (heap_lt L5)).trans L5
  have hld := LyLoad.row L6 rfl
  have A6 := A5.below n6
  have T6 := T5.below n6
  have s5 := c5.size
  have c6 := c5.trans (n6.mono s5)
  clear R4 A4 T4 b4 s4 L4 b5 A5 T5
  go_wp2_with fail
  refine (sameLayout_any ⟨1, 2, z, 29, 4, 33, 1, 34, 1, 35, D, (35 + D), ⟨1, 1, 1, 1, 2, 0, D, 27⟩⟩ pl _).mono ?_
  rintro e w7 ⟨rfl, b7⟩
  have L7 := (b7.block _ (heap_lt L6)).trans L6
  have A7 := A6.below b7
  have T7 := T6.below b7
  have c7 := c6.trans (b7.mono c6.size)
  obtain ⟨q, hq⟩ : ∃ q, decide ((⟨1, 2, z, 29, 4, 33, 1, 34, 1, 35, D, (35 + D), ⟨1, 1, 1, 1, 2, 0, D, 27⟩⟩ : Lay) = pl) = q := ⟨_, rfl⟩
  rw [hq]
  have HQ : Hid (decide ((⟨1, 2, z, 29, 4, 33, 1, 34, 1, 35, D, (35 + D), ⟨1, 1, 1, 1, 2, 0, D, 27⟩⟩ : Lay) = pl) = q) := hq
  clear hq hld n6 L6 A6 T6 c6 b7 L5 c5 s5
  cases q with
  | true =>
    go_wp2_with fail
    go_ret
    exact ⟨rfl, b1.trans (c7.mono b1.size)⟩
  | false =>
    have HO : Hid (lyOk ⟨1, 2, z, 29, 4, 33, 1, 34, 1, 35, D, (35 + D), ⟨1, 1, 1, 1, 2, 0, D, 27⟩⟩ = false) := by
      apply not_ok
      rintro ⟨e1, e2⟩
      have h := HP.out
      rw [HS.out] at h
      have hq := HQ.out
      rw [← h.1, decide_eq_true e2] at hq
      cases hq
    have x7 := A7.t
    have B7 : Bds w7.drew := (hB1.later c7 (Nat.le_refl _)).drew
    have q7 : w7.drew.cell? ⟨wb, 22, none⟩ = some (.pointer (some ⟨c.tb, 0, none⟩)) ∧ (LyEx (.pointer (some ⟨lb, 0, none⟩))).run Tryz.prog w7.drew = .ok (.value (.agg #[.int .i64 1, .int .i64 2, .int .i64 z, .int .i64 29, .int .i64 4, .int .i64 33, .int .i64 1, .int .i64 34, .int .i64 1, .int .i64 35, .int .i64 D, .int .i64 (35 + (D : Int)), .int .i64 1, .int .i64 1, .int .i64 1, .int .i64 1, .int .i64 2, .int .i64 0, .int .i64 D, .int .i64 27])) w7.drew := ⟨A7.drew.t, lyEx_row (w := w7.drew) L7⟩
    go_wp2_with fail
    go_region_held3 (fun w' => w'.cell? ⟨wb, 22, none⟩ = some (.pointer (some ⟨c.tb, 0, none⟩)) ∧ (LyEx (.pointer (some ⟨lb, 0, none⟩))).run Tryz.prog w' = .ok (.value (.agg #[.int .i64 1, .int .i64 2, .int .i64 z, .int .i64 29, .int .i64 4, .int .i64 33, .int .i64 1, .int .i64 34, .int .i64 1, .int .i64 35, .int .i64 D, .int .i64 (35 + (D : Int)), .int .i64 1, .int .i64 1, .int .i64 1, .int .i64 1, .int .i64 2, .int .i64 0, .int .i64 D, .int .i64 27])) w')
      (first | with_reducible exact q7 | with_reducible exact q8)
      (first
        | (go_at_call 12; refine (alloc_sh (some ⟨c.tb, 0, none⟩) ⟨1, 2, z, 29, 4, 33, 1, 34, 1, 35, D, (35 + D), ⟨1, 1, 1, 1, 2, 0, D, 27⟩⟩ HO.out B7).mono ?_; rintro e w8 ⟨rfl, p8⟩; have p8 := Below.fromDrew p8; have A8 := A7.below p8; have L8 := (p8.block _ (heap_lt L7)).trans L7; have q8 : w8.cell? ⟨wb, 22, none⟩ = some (.pointer (some ⟨c.tb, 0, none⟩)) ∧ (LyEx (.pointer (some ⟨lb, 0, none⟩))).run Tryz.prog w8 = .ok (.value (.agg #[.int .i64 1, .int .i64 2, .int .i64 z, .int .i64 29, .int .i64 4, .int .i64 33, .int .i64 1, .int .i64 34, .int .i64 1, .int .i64 35, .int .i64 D, .int .i64 (35 + (D : Int)), .int .i64 1, .int .i64 1, .int .i64 1, .int .i64 1, .int .i64 2, .int .i64 0, .int .i64 D, .int .i64 27])) w8 := ⟨A8.t, lyEx_row L8⟩))
    have T8 := T7.below p8
    have c8 := c7.trans (p8.mono c7.size)
    clear x7 q7 B7 A7 T7 c7 L7 p8 q8
    have x8 := A8.t
    have B8 : Bds w8.drew := (hB1.later c8 (Nat.le_refl _)).drew
    have q8 : w8.drew.cell? ⟨wb, 22, none⟩ = some (.pointer (some ⟨c.tb, 0, none⟩)) ∧ (LyEx (.pointer (some ⟨lb, 0, none⟩))).run Tryz.prog w8.drew = .ok (.value (.agg #[.int .i64 1, .int .i64 2, .int .i64 z, .int .i64 29, .int .i64 4, .int .i64 33, .int .i64 1, .int .i64 34, .int .i64 1, .int .i64 35, .int .i64 D, .int .i64 (35 + (D : Int)), .int .i64 1, .int .i64 1, .int .i64 1, .int .i64 1, .int .i64 2, .int .i64 0, .int .i64 D, .int .i64 27])) w8.drew := ⟨A8.drew.t, lyEx_row (w := w8.drew) L8⟩
    go_wp2_with fail
    go_region_held3 (fun w' => w'.cell? ⟨wb, 22, none⟩ = some (.pointer (some ⟨c.tb, 0, none⟩)) ∧ (LyEx (.pointer (some ⟨lb, 0, none⟩))).run Tryz.prog w' = .ok (.value (.agg #[.int .i64 1, .int .i64 2, .int .i64 z, .int .i64 29, .int .i64 4, .int .i64 33, .int .i64 1, .int .i64 34, .int .i64 1, .int .i64 35, .int .i64 D, .int .i64 (35 + (D : Int)), .int .i64 1, .int .i64 1, .int .i64 1, .int .i64 1, .int .i64 2, .int .i64 0, .int .i64 D, .int .i64 27])) w')
      (first | with_reducible exact q8 | with_reducible exact q9)
      (first
        | (go_at_call 14; refine (free_sh (some ⟨c.tb, 0, none⟩) ⟨1, 2, z, 29, 4, 33, 1, 34, 1, 35, D, (35 + D), ⟨1, 1, 1, 1, 2, 0, D, 27⟩⟩ HO.out B8 b).mono ?_; rintro e w9 ⟨rfl, p9⟩; have p9 := Below.fromDrew p9; have A9 := A8.below p9; have L9 := (p9.block _ (heap_lt L8)).trans L8; have q9 : w9.cell? ⟨wb, 22, none⟩ = some (.pointer (some ⟨c.tb, 0, none⟩)) ∧ (LyEx (.pointer (some ⟨lb, 0, none⟩))).run Tryz.prog w9 = .ok (.value (.agg #[.int .i64 1, .int .i64 2, .int .i64 z, .int .i64 29, .int .i64 4, .int .i64 33, .int .i64 1, .int .i64 34, .int .i64 1, .int .i64 35, .int .i64 D, .int .i64 (35 + (D : Int)), .int .i64 1, .int .i64 1, .int .i64 1, .int .i64 1, .int .i64 2, .int .i64 0, .int .i64 D, .int .i64 27])) w9 := ⟨A9.t, lyEx_row L9⟩))
    have T9 := T8.below p9
    have c9 := c8.trans (p9.mono c8.size)
    clear x8 q8 B8 A8 T8 c8 L8 p9 q9
    have x9 := A9.t
    have B9 : Bds w9.drew := (hB1.later c9 (Nat.le_refl _)).drew
    have q9 : w9.drew.cell? ⟨wb, 22, none⟩ = some (.pointer (some ⟨c.tb, 0, none⟩)) ∧ (LyEx (.pointer (some ⟨lb, 0, none⟩))).run Tryz.prog w9.drew = .ok (.value (.agg #[.int .i64 1, .int .i64 2, .int .i64 z, .int .i64 29, .int .i64 4, .int .i64 33, .int .i64 1, .int .i64 34, .int .i64 1, .int .i64 35, .int .i64 D, .int .i64 (35 + (D : Int)), .int .i64 1, .int .i64 1, .int .i64 1, .int .i64 1, .int .i64 2, .int .i64 0, .int .i64 D, .int .i64 27])) w9.drew := ⟨A9.drew.t, lyEx_row (w := w9.drew) L9⟩
    go_wp2_with fail
    go_region_held3 (fun w' => w'.cell? ⟨wb, 22, none⟩ = some (.pointer (some ⟨c.tb, 0, none⟩)) ∧ (LyEx (.pointer (some ⟨lb, 0, none⟩))).run Tryz.prog w' = .ok (.value (.agg #[.int .i64 1, .int .i64 2, .int .i64 z, .int .i64 29, .int .i64 4, .int .i64 33, .int .i64 1, .int .i64 34, .int .i64 1, .int .i64 35, .int .i64 D, .int .i64 (35 + (D : Int)), .int .i64 1, .int .i64 1, .int .i64 1, .int .i64 1, .int .i64 2, .int .i64 0, .int .i64 D, .int .i64 27])) w')
      (first | with_reducible exact q9 | with_reducible exact q10)
      (first
        | (go_at_call 21; refine (has_sh (some ⟨c.tb, 0, none⟩) ⟨1, 2, z, 29, 4, 33, 1, 34, 1, 35, D, (35 + D), ⟨1, 1, 1, 1, 2, 0, D, 27⟩⟩ HO.out B9 b).mono ?_; rintro e w10 ⟨rfl, p10⟩; have p10 := Below.fromDrew p10; have A10 := A9.below p10; have L10 := (p10.block _ (heap_lt L9)).trans L9; have q10 : w10.cell? ⟨wb, 22, none⟩ = some (.pointer (some ⟨c.tb, 0, none⟩)) ∧ (LyEx (.pointer (some ⟨lb, 0, none⟩))).run Tryz.prog w10 = .ok (.value (.agg #[.int .i64 1, .int .i64 2, .int .i64 z, .int .i64 29, .int .i64 4, .int .i64 33, .int .i64 1, .int .i64 34, .int .i64 1, .int .i64 35, .int .i64 D, .int .i64 (35 + (D : Int)), .int .i64 1, .int .i64 1, .int .i64 1, .int .i64 1, .int .i64 2, .int .i64 0, .int .i64 D, .int .i64 27])) w10 := ⟨A10.t, lyEx_row L10⟩))
    have T10 := T9.below p10
    have c10 := c9.trans (p10.mono c9.size)
    clear x9 q9 B9 A9 T9 c9 L9 p10 q10
    have x10 := A10.t
    have B10 : Bds w10.drew := (hB1.later c10 (Nat.le_refl _)).drew
    have q10 : w10.drew.cell? ⟨wb, 22, none⟩ = some (.pointer (some ⟨c.tb, 0, none⟩)) ∧ (LyEx (.pointer (some ⟨lb, 0, none⟩))).run Tryz.prog w10.drew = .ok (.value (.agg #[.int .i64 1, .int .i64 2, .int .i64 z, .int .i64 29, .int .i64 4, .int .i64 33, .int .i64 1, .int .i64 34, .int .i64 1, .int .i64 35, .int .i64 D, .int .i64 (35 + (D : Int)), .int .i64 1, .int .i64 1, .int .i64 1, .int .i64 1, .int .i64 2, .int .i64 0, .int .i64 D, .int .i64 27])) w10.drew := ⟨A10.drew.t, lyEx_row (w := w10.drew) L10⟩
    go_wp2_with fail
    go_region_held3 (fun w' => w'.cell? ⟨wb, 22, none⟩ = some (.pointer (some ⟨c.tb, 0, none⟩)) ∧ (LyEx (.pointer (some ⟨lb, 0, none⟩))).run Tryz.prog w' = .ok (.value (.agg #[.int .i64 1, .int .i64 2, .int .i64 z, .int .i64 29, .int .i64 4, .int .i64 33, .int .i64 1, .int .i64 34, .int .i64 1, .int .i64 35, .int .i64 D, .int .i64 (35 + (D : Int)), .int .i64 1, .int .i64 1, .int .i64 1, .int .i64 1, .int .i64 2, .int .i64 0, .int .i64 D, .int .i64 27])) w')
      (first | with_reducible exact q10 | with_reducible exact q11)
      (first
        | (go_at_call 15; refine (used_sh (some ⟨c.tb, 0, none⟩) ⟨1, 2, z, 29, 4, 33, 1, 34, 1, 35, D, (35 + D), ⟨1, 1, 1, 1, 2, 0, D, 27⟩⟩ HO.out B10).mono ?_; rintro e w11 ⟨rfl, p11⟩; have p11 := Below.fromDrew p11; have A11 := A10.below p11; have L11 := (p11.block _ (heap_lt L10)).trans L10; have q11 : w11.cell? ⟨wb, 22, none⟩ = some (.pointer (some ⟨c.tb, 0, none⟩)) ∧ (LyEx (.pointer (some ⟨lb, 0, none⟩))).run Tryz.prog w11 = .ok (.value (.agg #[.int .i64 1, .int .i64 2, .int .i64 z, .int .i64 29, .int .i64 4, .int .i64 33, .int .i64 1, .int .i64 34, .int .i64 1, .int .i64 35, .int .i64 D, .int .i64 (35 + (D : Int)), .int .i64 1, .int .i64 1, .int .i64 1, .int .i64 1, .int .i64 2, .int .i64 0, .int .i64 D, .int .i64 27])) w11 := ⟨A11.t, lyEx_row L11⟩))
    have T11 := T10.below p11
    have c11 := c10.trans (p11.mono c10.size)
    clear x10 q10 B10 A10 T10 c10 L10 p11 q11
    have x11 := A11.t
    go_wp2_with fail
    refine (blocks_ok T11.tx T11.mp (by simp)).mono ?_
    rintro e w12 ⟨g, cq, rfl, _, p12⟩
    have c12 := c11.trans (p12.mono c11.size)
    clear x11 A11 T11 c11 L11 p12
    go_wp2_with fail
    refine (num8_any _ _).mono ?_
    rintro e wz ⟨rfl, hwz⟩
    subst wz
    go_wp2_with fail
    refine (num8_any _ _).mono ?_
    rintro e wz ⟨rfl, hwz⟩
    subst wz
    go_wp2_with fail
    refine (num8_any _ _).mono ?_
    rintro e wz ⟨rfl, hwz⟩
    subst wz
    go_wp2_with fail
    refine (num8_any _ _).mono ?_
    rintro e wz ⟨rfl, hwz⟩
    subst wz
    go_wp2_with fail
    go_ret
    exact ⟨rfl, b1.trans (c12.mono b1.size)⟩
end Go.Proofs.YtfmcbjlagdanjaaGreatDoor
