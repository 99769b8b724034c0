/- SpaceFills by its contract. -/
import Derived.Test.YtfmcbjlagdanjaaGreatDoorPk13
import Derived.BigQuiet
namespace Go.Proofs.YtfmcbjlagdanjaaGreatDoor
open Go.RowKit Go.Maps
set_option maxRecDepth 100000

/-- Which block is given back. -/
def backN (b : Int) (k : Nat) : Nat := ((b.tmod k + k).tmod k).toNat
theorem backN_bd (b : Int) (k : Nat) (h0 : 1 ≤ k) : backN b k < k ∧ (b.tmod k + k).tmod k = ((backN b k : Nat) : Int) := by
  have h1 : (b.tmod k).natAbs < k := by
    rw [Int.natAbs_tmod]
    exact Nat.mod_lt _ (by omega)
  have h2 : (b.tmod k + k).tmod k = (b.tmod k + k) % k := Int.tmod_eq_emod_of_nonneg (by omega)
  have h3 := Int.emod_nonneg (b.tmod k + k) (show (k : Int) ≠ 0 by omega)
  have h4 := Int.emod_lt_of_pos (b.tmod k + k) (show (0 : Int) < k by omega)
  unfold backN
  rw [h2]
  omega
theorem zero_bits (D : Nat) : Hid (∀ j, j < D → bitB zB j = decide (j < 0)) := by
  intro j _
  unfold bitB
  rw [show zB.getD (j / 8) 0 = 0 by unfold zB; rw [List.getD_eq_getElem?_getD, List.getElem?_replicate]; split <;> rfl]
  simp
theorem flip_next {bs : List Int} {D n : Nat} (hl : bs.length = 512) (hD : D ≤ 500) (hn : n < D) (h : ∀ j, j < D → bitB bs j = decide (j < n)) : ∀ j, j < D → bitB (flipB bs n) j = decide (j < n + 1) := by
  intro j hj
  rw [bitB_flip bs n j (by omega)]
  by_cases e : j = n
  · subst e
    simp [h j hj]
  · rw [if_neg e, h j hj]
    simp only [decide_eq_decide]
    omega
theorem flip_back {bs : List Int} {D r : Nat} (hl : bs.length = 512) (hD : D ≤ 500) (hr : r < D) (h : ∀ j, j < D → bitB bs j = true) : ∀ j, j < D → bitB (flipB bs r) j = decide (j ≠ r) := by
  intro j hj
  rw [bitB_flip bs r j (by omega)]
  by_cases e : j = r
  · subst e
    simp [h j hj]
  · rw [if_neg e, h j hj]
    simp [e]
theorem flip_again {bs : List Int} {D r : Nat} (hl : bs.length = 512) (hD : D ≤ 500) (hr : r < D) (h : ∀ j, j < D → bitB bs j = decide (j ≠ r)) : ∀ j, j < D → bitB (flipB bs r) j = true := by
  intro j hj
  rw [bitB_flip bs r j (by omega)]
  by_cases e : j = r
  · subst e
    simp [h j hj]
  · rw [if_neg e, h j hj]
    simp [e]
attribute [local go_sem ↓ 100000] ly_store ly_load ex_load
set_option maxHeartbeats 4000000 in
theorem fills_ok {D : Nat} (h1 : 8 ≤ D) (h2 : D ≤ 500) (back : Int) (w : World) (hB : Bds w) {er : Nat → Addr} (hE : Errs w er) :
    Calls Tryz.prog 3 #[.int .i64 D, .int .i64 back] w fun e w' => e = .returned (.bool true) ∧ Below w.heap.size w w' := by
  have HF : Hid (fitsB (D : Int) = true) := decide_eq_true ⟨by omega, by omega⟩
  have HR : Hid (backN back D < D ∧ (back.tmod D + D).tmod D = ((backN back D : Nat) : Int)) := backN_bd back D (by omega)
  have hD5 : (D : Int) ≤ 500 := by omega
  have hD0 : (0 : Int) < D := by omega
  have HW : Hid (IntKind.i64.wrap (back.tmod D + D) = back.tmod D + D) := by
    have h1 : (back.tmod D).natAbs < D := by
      rw [Int.natAbs_tmod]
      exact Nat.mod_lt _ (by omega)
    exact Go.IntWalk.i64_in _ ⟨by omega, by omega⟩
  go_enter Tryz.func3, Tryz.ntmps3
  go_wp2_with fail
  refine (known_ok w hB hE).mono ?_
  rintro e w1 ⟨rfl, b1⟩
  have F1 := fits8_any (D : Int) w1
  rw [HF.out] at F1
  go_wp2_with fail
  refine F1.mono ?_
  rintro e w2 ⟨rfl, hw2⟩
  subst w2
  clear F1
  go_wp2_with fail
  have hB1 := hB.later b1 (Nat.le_refl _)
  refine (stood_ok h1 h2 w1 hB1 (hE.below b1 (Nat.le_refl _))).mono ?_
  rintro e w3 ⟨wb, c, rfl, A3, T3, b3⟩
  have x3 := A3.t
  go_wp2_with fail
  clear x3
  go_loopw [8] (fun i wr => ∃ (n : Nat) (m : List (Nat × Nat)) (bs : List Int), i = .int .i64 n ∧ n ≤ D ∧ Wd w1 wr wb c D ∧ Ts wr c n m bs ∧ Hid (∀ j, j < D → bitB bs j = decide (j < n)) ∧ Below w1.heap.size w1 wr) (fun i _ => D - (intOf i).toNat)
  case atStart => exact ⟨0, [], zB, rfl, by omega, A3, T3, zero_bits D, b3⟩
  case round =>
    obtain ⟨n, m, bs, rfl, hn, A4, T4, HT, b4⟩ := hrel
    obtain ⟨w4, hw4⟩ : ∃ W, wr = W := ⟨_, rfl⟩
    subst wr
    have s4 := b4.size
    have x4 := A4.t
    have q4 := A4.drew.s
    have hbl := T4.len
    clear A3 T3 b3
    by_cases hlt : n < D
    · have hni : (n : Int) < D := by omega
      have HT5 : Hid (∀ j, j < D → bitB (flipB bs n) j = decide (j < n + 1)) := flip_next hbl h2 hlt HT.out
      have HL : Hid (lowZ bs D = (n : Int)) := lowZ_some hlt (by rw [HT.out n hlt]; simp) (fun j hj => by rw [HT.out j (by omega)]; simpa using hj)
      go_wp2_with fail
      have B4 : Bds w4.drew := (hB1.later b4 (Nat.le_refl _)).drew
      go_region_held3 (fun w' => w'.cell? ⟨wb, 22, none⟩ = some (.pointer (some ⟨c.tb, 0, none⟩)) ∧ (LyEx (.pointer (some ⟨wb, 0, none⟩))).run Tryz.prog w' = .ok (.value (lyV (lay8 D))) w')
        (first | with_reducible exact q4 | with_reducible exact q5)
        (first
          | (go_at_call 12; refine (alloc_ok T4.drew A4.fit B4 n hlt HL.out (by omega)).mono ?_; rintro e w5 ⟨g5, rfl, T5, t5⟩; have t5 := t5.fromDrew; have A5 := A4.later t5; have q5 := A5.s))
      have b5 := b4.trans (A4.turned t5 s4)
      have s5 := b5.size
      have x5 := A5.t
      have q5 := A5.drew.s
      clear x4 q4 A4 T4 b4 t5 B4 s4
      have y5 := A5.dt
      go_wp2_with fail
      refine (num8_any _ _).mono ?_
      rintro e wz ⟨rfl, hwz⟩
      subst wz
      go_wp2_with fail
      exact ⟨⟨n + 1, _, _, rfl, by omega, A5, T5, HT5, b5⟩, by simp [intOf]; omega⟩
    · obtain rfl : n = D := by omega
      have HA : Hid (∀ j, j < n → bitB bs j = true) := fun j hj => by rw [HT.out j hj]; simpa using hj
      go_wp2_with fail
      have B4 : Bds w4.drew := (hB1.later b4 (Nat.le_refl _)).drew
      go_region_held3 (fun w' => w'.cell? ⟨wb, 22, none⟩ = some (.pointer (some ⟨c.tb, 0, none⟩)) ∧ (LyEx (.pointer (some ⟨wb, 0, none⟩))).run Tryz.prog w' = .ok (.value (lyV (lay8 n))) w')
        (first | with_reducible exact q4 | with_reducible exact q5)
        (first
          | (go_at_call 12; refine (alloc_full T4.drew A4.fit B4 (lowZ_none HA.out)).mono ?_; rintro e w5 ⟨rfl, T5, t5⟩; have t5 := (t5.fromDrew).mono (G := fun i => c.G i ∨ i = c.wm) (fun _ _ => Or.inl); have A5 := A4.later t5; have q5 := A5.s))
      have b5 := b4.trans (A4.turned t5 s4)
      have s5 := b5.size
      have x5 := A5.t
      have q5 := A5.drew.s
      clear x4 q4 A4 T4 b4 t5 B4 s4
      have y5 := A5.dt
      have hw1 := HW.out
      have hw2 := HR.out.2
      obtain ⟨r, hr⟩ : ∃ r, backN back n = r := ⟨_, rfl⟩
      have hrn : r < n := by have := HR.out.1; omega
      rw [hr] at hw2
      have hw3 : IntKind.i64.wrap (35 + (r : Int)) = 35 + r := Go.IntWalk.i64_in _ ⟨by omega, by omega⟩
      have hnz : ¬ (n : Int) = 0 := by omega
      go_wp2_with fail
      go_quiet (fail)
      clear x5 y5 hw1 hw2 hw3 q5
      obtain ⟨w6, hw6⟩ : ∃ W, w5.drewN nq = W := ⟨_, rfl⟩
      have A6 : Wd w1 (w5.drewN nq) wb c n := { A5 with box := A5.box }
      have T6 := T5.turns (Turns.drewN c.G w5 nq) (T5.dev.turns (Turns.drewN (fun _ => False) w5 nq) (fun _ _ => id))
      have b6 : Below w1.heap.size w1 (w5.drewN nq) := ⟨b5.os, b5.tape, b5.output, b5.size, b5.block⟩
      rw [hw6] at A6 T6 b6 ⊢
      have s6 := b6.size
      have x6 := A6.t
      have q6 := A6.drew.s
      have HK : Hid (∀ j, j < n → bitB (flipB bs r) j = decide (j ≠ r)) := flip_back hbl h2 hrn HA.out
      have HM : Hid (∀ j, j < n → bitB (flipB (flipB bs r) r) j = true) := flip_again (by rw [flipB_length]; exact hbl) h2 hrn HK.out
      have HL : Hid (lowZ (flipB bs r) n = (r : Int)) := lowZ_some hrn (by rw [HK.out r hrn]; simp) (fun j hj => by rw [HK.out j (by omega)]; simp; omega)
      have HC : Hid (cntB (flipB (flipB bs r) r) n = n) := cntB_all HM.out
      clear A5 T5 b5 hw6 hr s5
      go_wp2_with fail
      have B6 : Bds w6.drew := (hB1.later b6 (Nat.le_refl _)).drew
      go_region_held3 (fun w' => w'.cell? ⟨wb, 22, none⟩ = some (.pointer (some ⟨c.tb, 0, none⟩)) ∧ (LyEx (.pointer (some ⟨wb, 0, none⟩))).run Tryz.prog w' = .ok (.value (lyV (lay8 n))) w')
        (first | with_reducible exact q6 | with_reducible exact q7)
        (first
          | (go_at_call 14; refine (free_ok T6.drew A6.fit B6 r hrn (HA.out r hrn) (by omega)).mono ?_; rintro e w7 ⟨g7, rfl, T7, t7⟩; have t7 := t7.fromDrew; have A7 := A6.later t7; have q7 := A7.s))
      have b7 := b6.trans (A6.turned t7 s6)
      have s7 := b7.size
      have x7 := A7.t
      have q7 := A7.drew.s
      clear x6 q6 A6 T6 b6 t7 B6 s6
      go_wp2_with fail
      have B7 : Bds w7.drew := (hB1.later b7 (Nat.le_refl _)).drew
      go_region_held3 (fun w' => w'.cell? ⟨wb, 22, none⟩ = some (.pointer (some ⟨c.tb, 0, none⟩)) ∧ (LyEx (.pointer (some ⟨wb, 0, none⟩))).run Tryz.prog w' = .ok (.value (lyV (lay8 n))) w')
        (first | with_reducible exact q7 | with_reducible exact q8)
        (first
          | (go_at_call 12; refine (alloc_ok T7.drew A7.fit B7 r hrn HL.out (by omega)).mono ?_; rintro e w8 ⟨g8, rfl, T8, t8⟩; have t8 := t8.fromDrew; have A8 := A7.later t8; have q8 := A8.s))
      have b8 := b7.trans (A7.turned t8 s7)
      have s8 := b8.size
      have x8 := A8.t
      have q8 := A8.drew.s
      clear x7 q7 A7 T7 b7 t8 B7 s7
      go_wp2_with fail
      have B8 : Bds w8.drew := (hB1.later b8 (Nat.le_refl _)).drew
      go_region_held3 (fun w' => w'.cell? ⟨wb, 22, none⟩ = some (.pointer (some ⟨c.tb, 0, none⟩)) ∧ (LyEx (.pointer (some ⟨wb, 0, none⟩))).run Tryz.prog w' = .ok (.value (lyV (lay8 n))) w')
        (first | with_reducible exact q8 | with_reducible exact q9)
        (first
          | (go_at_call 12; refine (alloc_full T8.drew A8.fit B8 (lowZ_none HM.out)).mono ?_; rintro e w9 ⟨rfl, T9, t9⟩; have t9 := (t9.fromDrew).mono (G := fun i => c.G i ∨ i = c.wm) (fun _ _ => Or.inl); have A9 := A8.later t9; have q9 := A9.s))
      have b9 := b8.trans (A8.turned t9 s8)
      have s9 := b9.size
      have x9 := A9.t
      have q9 := A9.drew.s
      clear x8 q8 A8 T8 b8 t9 B8 s8
      go_wp2_with fail
      have B9 : Bds w9.drew := (hB1.later b9 (Nat.le_refl _)).drew
      have U9 := used_ok T9.drew A9.fit B9
      rw [HC.out] at U9
      go_region_held3 (fun w' => w'.cell? ⟨wb, 22, none⟩ = some (.pointer (some ⟨c.tb, 0, none⟩)) ∧ (LyEx (.pointer (some ⟨wb, 0, none⟩))).run Tryz.prog w' = .ok (.value (lyV (lay8 n))) w')
        (first | with_reducible exact q9 | with_reducible exact q10)
        (first
          | (go_at_call 15; refine (U9).mono ?_; rintro e w10 ⟨rfl, T10, t10⟩; have t10 := (t10.fromDrew).mono (G := fun i => c.G i ∨ i = c.wm) (fun _ _ => Or.inl); have A10 := A9.later t10; have q10 := A10.s))
      have b10 := b9.trans (A9.turned t10 s9)
      have s10 := b10.size
      have x10 := A10.t
      have q10 := A10.drew.s
      clear x9 q9 A9 T9 b9 t10 B9 s9 U9
      go_wp2_with fail
      refine (num8_any _ _).mono ?_
      rintro e wz ⟨rfl, hwz⟩
      subst wz
      go_wp2_with fail
      refine (num8_any _ _).mono ?_
      rintro e wz ⟨rfl, hwz⟩
      subst wz
      go_wp2_with fail
      refine (num8_any _ _).mono ?_
      rintro e wz ⟨rfl, hwz⟩
      subst wz
      go_wp2_with fail
      refine (num8_any _ _).mono ?_
      rintro e wz ⟨rfl, hwz⟩
      subst wz
      go_wp2_with fail
      refine (num8_any _ _).mono ?_
      rintro e wz ⟨rfl, hwz⟩
      subst wz
      go_wp2_with fail
      go_ret
      exact ⟨rfl, b1.trans (b10.mono b1.size)⟩
set_option maxHeartbeats 1000000 in
theorem fills_un (data : Int) (back : Int) (hf : ¬ (8 ≤ data ∧ data ≤ 500)) (w : World) (hB : Bds w) {er : Nat → Addr} (hE : Errs w er) :
    Calls Tryz.prog 3 #[.int .i64 data, .int .i64 back] w fun e w' => e = .returned (.bool true) ∧ Below w.heap.size w w' := by
  have HF : Hid (fitsB data = false) := decide_eq_false hf
  clear hf
  go_enter Tryz.func3, Tryz.ntmps3
  go_wp2_with fail
  refine (known_ok w hB hE).mono ?_
  rintro e w1 ⟨rfl, b1⟩
  have F1 := fits8_any data w1
  rw [HF.out] at F1
  go_wp2_with fail
  refine F1.mono ?_
  rintro e w2 ⟨rfl, hw2⟩
  subst w2
  clear F1
  go_wp2_with fail
  go_ret
  exact ⟨rfl, b1⟩
theorem fills_any (data back : Int) (w : World) (hB : Bds w) {er : Nat → Addr} (hE : Errs w er) :
    Calls Tryz.prog 3 #[.int .i64 data, .int .i64 back] w fun e w' => e = .returned (.bool true) ∧ Below w.heap.size w w' := by
  by_cases hf : 8 ≤ data ∧ data ≤ 500
  · obtain ⟨D, rfl⟩ : ∃ D : Nat, data = D := ⟨data.toNat, by omega⟩
    exact fills_ok (by omega) (by omega) back w hB hE
  · exact fills_un data back hf w hB hE
end Go.Proofs.YtfmcbjlagdanjaaGreatDoor
