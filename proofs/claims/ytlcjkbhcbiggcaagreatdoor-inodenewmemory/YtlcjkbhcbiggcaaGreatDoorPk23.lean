/- inBounds by its contract. -/
import Derived.Test.YtlcjkbhcbiggcaaGreatDoorPk22
namespace Go.Proofs.YtlcjkbhcbiggcaaGreatDoor
open Go.RowKit
set_option maxRecDepth 100000
attribute [local go_sem] ix_bd0 ix_bd1 ix_bd2 ix_bd3 ix_bd4 ix_bd5 ix_bd6 ix_bd7

/-- The bounds of the numbers. -/
def bdl : List (Int × Int) := [(1, 8), (1, 8), (1, 8), (1, 64), (2, 256), (0, 524288), (1, 4096), (27, 512)]
/-- The first k numbers are in their bounds. -/
def InK (s : Shp) (k : Nat) : Prop := ∀ i, i < k → (bdl.getD i (0, 0)).1 ≤ s.nums.getD i 0 ∧ s.nums.getD i 0 ≤ (bdl.getD i (0, 0)).2
theorem InK.all {s : Shp} (h : InK s 8) : InB s :=
  ⟨(h 0 (by decide)).1, (h 0 (by decide)).2, (h 1 (by decide)).1, (h 1 (by decide)).2, (h 2 (by decide)).1, (h 2 (by decide)).2, (h 3 (by decide)).1, (h 3 (by decide)).2, (h 4 (by decide)).1, (h 4 (by decide)).2, (h 5 (by decide)).1, (h 5 (by decide)).2, (h 6 (by decide)).1, (h 6 (by decide)).2, (h 7 (by decide)).1, (h 7 (by decide)).2⟩
theorem InK.of {s : Shp} (h : InB s) (k : Nat) (hk : k < 8) : (bdl.getD k (0, 0)).1 ≤ s.nums.getD k 0 ∧ s.nums.getD k 0 ≤ (bdl.getD k (0, 0)).2 := by
  obtain rfl | rfl | rfl | rfl | rfl | rfl | rfl | rfl : k = 0 ∨ k = 1 ∨ k = 2 ∨ k = 3 ∨ k = 4 ∨ k = 5 ∨ k = 6 ∨ k = 7 := by omega
  · exact ⟨h.cl0, h.cl1⟩
  · exact ⟨h.wi0, h.wi1⟩
  · exact ⟨h.pl0, h.pl1⟩
  · exact ⟨h.ca0, h.ca1⟩
  · exact ⟨h.ino0, h.ino1⟩
  · exact ⟨h.qu0, h.qu1⟩
  · exact ⟨h.da0, h.da1⟩
  · exact ⟨h.jo0, h.jo1⟩
theorem InK.succ {s : Shp} {k : Nat} (h : InK s k) (h0 : (bdl.getD k (0, 0)).1 ≤ s.nums.getD k 0) (h1 : s.nums.getD k 0 ≤ (bdl.getD k (0, 0)).2) : InK s (k + 1) := fun i hi => by
  by_cases e : i = k
  · subst e; exact ⟨h0, h1⟩
  · exact h i (by omega)
theorem BNums.later {B : Nat} {w w' : World} {b : Nat} {s : Shp} (h : ∀ i, i < 8 → w.cell? ⟨b, i, none⟩ = some (.int .i64 (s.nums.getD i 0))) (hb : Below B w w') (hB : b < B) : ∀ i, i < 8 → w'.cell? ⟨b, i, none⟩ = some (.int .i64 (s.nums.getD i 0)) :=
  fun i hi => (hb.cell (p := ⟨b, i, none⟩) hB).trans (h i hi)
theorem BNums.new (w : World) (s : Shp) : ∀ i, i < 8 → (w.alloc (.cells #[.int .i64 s.cl, .int .i64 s.wi, .int .i64 s.pl, .int .i64 s.ca, .int .i64 s.ino, .int .i64 s.qu, .int .i64 s.da, .int .i64 s.jo] 36)).cell? ⟨w.heap.size, i, none⟩ = some (.int .i64 (s.nums.getD i 0)) := fun k hk => by
  obtain rfl | rfl | rfl | rfl | rfl | rfl | rfl | rfl : k = 0 ∨ k = 1 ∨ k = 2 ∨ k = 3 ∨ k = 4 ∨ k = 5 ∨ k = 6 ∨ k = 7 := by omega
  all_goals simp [go_sem, Shp.nums]

set_option maxHeartbeats 2000000 in
theorem inBounds_any (s : Shp) (w : World) (hB : Bds w) :
    Calls Tryz.prog 62 #[shV s] w fun e w' => e = .returned (.bool (decide (InB s))) ∧ Below w.heap.size w w' := by
  have hB0 := ShBox.new w s
  have hb0 := newBox w (.cells #[.int .i64 s.cl, .int .i64 s.wi, .int .i64 s.pl, .int .i64 s.ca, .int .i64 s.ino, .int .i64 s.qu, .int .i64 s.da, .int .i64 s.jo] 58)
  have hD0 := hB.later hb0 (Nat.le_refl _)
  go_enter Tryz.func62, Tryz.ntmps62
  go_wp2_with fail
  generalize w.alloc (.cells #[.int .i64 s.cl, .int .i64 s.wi, .int .i64 s.pl, .int .i64 s.ca, .int .i64 s.ino, .int .i64 s.qu, .int .i64 s.da, .int .i64 s.jo] 58) = w0 at *
  refine (numbers_any s _).mono ?_
  rintro e w1 ⟨rfl, hb1⟩
  have hb2 := newBox w1 (.cells #[.int .i64 s.cl, .int .i64 s.wi, .int .i64 s.pl, .int .i64 s.ca, .int .i64 s.ino, .int .i64 s.qu, .int .i64 s.da, .int .i64 s.jo] 36)
  have hN : ∀ i, i < 8 → (w1.alloc (.cells #[.int .i64 s.cl, .int .i64 s.wi, .int .i64 s.pl, .int .i64 s.ca, .int .i64 s.ino, .int .i64 s.qu, .int .i64 s.da, .int .i64 s.jo] 36)).cell? ⟨w1.heap.size, i, none⟩ = some (.int .i64 (s.nums.getD i 0)) := BNums.new w1 s
  have hs : w1.heap.size < (w1.alloc (.cells #[.int .i64 s.cl, .int .i64 s.wi, .int .i64 s.pl, .int .i64 s.ca, .int .i64 s.ino, .int .i64 s.qu, .int .i64 s.da, .int .i64 s.jo] 36)).heap.size := by simp
  have hq2 : Below w.heap.size w (w1.alloc (.cells #[.int .i64 s.cl, .int .i64 s.wi, .int .i64 s.pl, .int .i64 s.ca, .int .i64 s.ino, .int .i64 s.qu, .int .i64 s.da, .int .i64 s.jo] 36)) := (hb0.trans (hb1.mono hb0.size)).trans (hb2.mono (Nat.le_trans hb0.size hb1.size))
  obtain ⟨g0, g1, g2, g3, g4, g5, g6, g7, g8, g9, g10, g11, g12, g13, g14, g15⟩ := (hD0.later hb1 (Nat.le_refl _)).later hb2 (Nat.le_refl _)
  clear hB0 hD0 hB hb2 hb1 hb0
  go_wp2_with fail
  go_loopw [9] (fun v wr => ∃ k : Nat, k ≤ 8 ∧ v = .int .i64 k ∧ InK s k ∧ Below w.heap.size w wr ∧ w1.heap.size < wr.heap.size ∧ ∀ i, i < 8 → wr.cell? ⟨w1.heap.size, i, none⟩ = some (.int .i64 (s.nums.getD i 0))) (fun v _ => 8 - (intOf v).toNat)
  case atStart => exact ⟨0, by omega, rfl, fun i hi => absurd hi (Nat.not_lt_zero _), hq2, hs, hN⟩
  case round =>
    clear hN hs hq2 g0 g1 g2 g3 g4 g5 g6 g7 g8 g9 g10 g11 g12 g13 g14 g15
    obtain ⟨k, hk, rfl, hI, hb, hs, hN⟩ := hrel
    by_cases hlt : k < 8
    · have HI : Hid (InK s k) := hI
      have HN : Hid (∀ i, i < 8 → wr.cell? ⟨w1.heap.size, i, none⟩ = some (.int .i64 (s.nums.getD i 0))) := hN
      clear hI hN
      obtain rfl | rfl | rfl | rfl | rfl | rfl | rfl | rfl : k = 0 ∨ k = 1 ∨ k = 2 ∨ k = 3 ∨ k = 4 ∨ k = 5 ∨ k = 6 ∨ k = 7 := by omega
      · have hx : (wr.alloc (.cells #[.int .i64 1, .int .i64 8] 176)).cell? ⟨w1.heap.size, 0, none⟩ = some (.int .i64 s.cl) := ((newBox wr (.cells #[.int .i64 1, .int .i64 8] 176)).cell (p := ⟨w1.heap.size, 0, none⟩) hs).trans (HN.out 0 (by decide))
        have hb' : Below w.heap.size w (wr.alloc (.cells #[.int .i64 1, .int .i64 8] 176)) := hb.trans ((newBox wr _).mono hb.size)
        have hs' : w1.heap.size < (wr.alloc (.cells #[.int .i64 1, .int .i64 8] 176)).heap.size := Nat.lt_of_lt_of_le hs (newBox wr _).size
        have HN' : Hid (∀ i, i < 8 → (wr.alloc (.cells #[.int .i64 1, .int .i64 8] 176)).cell? ⟨w1.heap.size, i, none⟩ = some (.int .i64 (s.nums.getD i 0))) := BNums.later HN.out (newBox wr _) hs
        by_cases h0 : s.cl < 1
        · have d0 : decide (s.cl < 1) = true := decide_eq_true h0
          have no : ¬ InB s := fun h => absurd (InK.of h 0 (by decide)).1 (by show ¬ (1 : Int) ≤ s.cl; omega)
          clear hs' HN' HI
          go_wp2
          go_quiet (fail)
          go_wp2
          go_ret
          exact ⟨by rw [decide_eq_false no]; rfl, below_drewN hb' _⟩
        · have d0 : decide (s.cl < 1) = false := decide_eq_false h0
          by_cases h1 : 8 < s.cl
          · have d1 : decide (8 < s.cl) = true := decide_eq_true h1
            have no : ¬ InB s := fun h => absurd (InK.of h 0 (by decide)).2 (by show ¬ s.cl ≤ (8 : Int); omega)
            clear hs' HN' HI
            go_wp2
            go_quiet (fail)
            go_wp2
            go_ret
            exact ⟨by rw [decide_eq_false no]; rfl, below_drewN hb' _⟩
          · have d1 : decide (8 < s.cl) = false := decide_eq_false h1
            have HJ : Hid (InK s 1) := HI.out.succ (by show (1 : Int) ≤ s.cl; omega) (by show s.cl ≤ (8 : Int); omega)
            clear HI
            go_wp2
            go_quiet (fail)
            go_wp2
            go_roundw
            case rel => exact ⟨1, by omega, rfl, HJ.out, below_drewN hb' _, hs', HN'.out⟩
            case measure => simp [intOf]
      · have hx : (wr.alloc (.cells #[.int .i64 1, .int .i64 8] 176)).cell? ⟨w1.heap.size, 1, none⟩ = some (.int .i64 s.wi) := ((newBox wr (.cells #[.int .i64 1, .int .i64 8] 176)).cell (p := ⟨w1.heap.size, 1, none⟩) hs).trans (HN.out 1 (by decide))
        have hb' : Below w.heap.size w (wr.alloc (.cells #[.int .i64 1, .int .i64 8] 176)) := hb.trans ((newBox wr _).mono hb.size)
        have hs' : w1.heap.size < (wr.alloc (.cells #[.int .i64 1, .int .i64 8] 176)).heap.size := Nat.lt_of_lt_of_le hs (newBox wr _).size
        have HN' : Hid (∀ i, i < 8 → (wr.alloc (.cells #[.int .i64 1, .int .i64 8] 176)).cell? ⟨w1.heap.size, i, none⟩ = some (.int .i64 (s.nums.getD i 0))) := BNums.later HN.out (newBox wr _) hs
        by_cases h0 : s.wi < 1
        · have d0 : decide (s.wi < 1) = true := decide_eq_true h0
          have no : ¬ InB s := fun h => absurd (InK.of h 1 (by decide)).1 (by show ¬ (1 : Int) ≤ s.wi; omega)
          clear hs' HN' HI
          go_wp2
          go_quiet (fail)
          go_wp2
          go_ret
          exact ⟨by rw [decide_eq_false no]; rfl, below_drewN hb' _⟩
        · have d0 : decide (s.wi < 1) = false := decide_eq_false h0
          by_cases h1 : 8 < s.wi
          · have d1 : decide (8 < s.wi) = true := decide_eq_true h1
            have no : ¬ InB s := fun h => absurd (InK.of h 1 (by decide)).2 (by show ¬ s.wi ≤ (8 : Int); omega)
            clear hs' HN' HI
            go_wp2
            go_quiet (fail)
            go_wp2
            go_ret
            exact ⟨by rw [decide_eq_false no]; rfl, below_drewN hb' _⟩
          · have d1 : decide (8 < s.wi) = false := decide_eq_false h1
            have HJ : Hid (InK s 2) := HI.out.succ (by show (1 : Int) ≤ s.wi; omega) (by show s.wi ≤ (8 : Int); omega)
            clear HI
            go_wp2
            go_quiet (fail)
            go_wp2
            go_roundw
            case rel => exact ⟨2, by omega, rfl, HJ.out, below_drewN hb' _, hs', HN'.out⟩
            case measure => simp [intOf]
      · have hx : (wr.alloc (.cells #[.int .i64 1, .int .i64 8] 176)).cell? ⟨w1.heap.size, 2, none⟩ = some (.int .i64 s.pl) := ((newBox wr (.cells #[.int .i64 1, .int .i64 8] 176)).cell (p := ⟨w1.heap.size, 2, none⟩) hs).trans (HN.out 2 (by decide))
        have hb' : Below w.heap.size w (wr.alloc (.cells #[.int .i64 1, .int .i64 8] 176)) := hb.trans ((newBox wr _).mono hb.size)
        have hs' : w1.heap.size < (wr.alloc (.cells #[.int .i64 1, .int .i64 8] 176)).heap.size := Nat.lt_of_lt_of_le hs (newBox wr _).size
        have HN' : Hid (∀ i, i < 8 → (wr.alloc (.cells #[.int .i64 1, .int .i64 8] 176)).cell? ⟨w1.heap.size, i, none⟩ = some (.int .i64 (s.nums.getD i 0))) := BNums.later HN.out (newBox wr _) hs
        by_cases h0 : s.pl < 1
        · have d0 : decide (s.pl < 1) = true := decide_eq_true h0
          have no : ¬ InB s := fun h => absurd (InK.of h 2 (by decide)).1 (by show ¬ (1 : Int) ≤ s.pl; omega)
          clear hs' HN' HI
          go_wp2
          go_quiet (fail)
          go_wp2
          go_ret
          exact ⟨by rw [decide_eq_false no]; rfl, below_drewN hb' _⟩
        · have d0 : decide (s.pl < 1) = false := decide_eq_false h0
          by_cases h1 : 8 < s.pl
          · have d1 : decide (8 < s.pl) = true := decide_eq_true h1
            have no : ¬ InB s := fun h => absurd (InK.of h 2 (by decide)).2 (by show ¬ s.pl ≤ (8 : Int); omega)
            clear hs' HN' HI
            go_wp2
            go_quiet (fail)
            go_wp2
            go_ret
            exact ⟨by rw [decide_eq_false no]; rfl, below_drewN hb' _⟩
          · have d1 : decide (8 < s.pl) = false := decide_eq_false h1
            have HJ : Hid (InK s 3) := HI.out.succ (by show (1 : Int) ≤ s.pl; omega) (by show s.pl ≤ (8 : Int); omega)
            clear HI
            go_wp2
            go_quiet (fail)
            go_wp2
            go_roundw
            case rel => exact ⟨3, by omega, rfl, HJ.out, below_drewN hb' _, hs', HN'.out⟩
            case measure => simp [intOf]
      · have hx : (wr.alloc (.cells #[.int .i64 1, .int .i64 64] 176)).cell? ⟨w1.heap.size, 3, none⟩ = some (.int .i64 s.ca) := ((newBox wr (.cells #[.int .i64 1, .int .i64 64] 176)).cell (p := ⟨w1.heap.size, 3, none⟩) hs).trans (HN.out 3 (by decide))
        have hb' : Below w.heap.size w (wr.alloc (.cells #[.int .i64 1, .int .i64 64] 176)) := hb.trans ((newBox wr _).mono hb.size)
        have hs' : w1.heap.size < (wr.alloc (.cells #[.int .i64 1, .int .i64 64] 176)).heap.size := Nat.lt_of_lt_of_le hs (newBox wr _).size
        have HN' : Hid (∀ i, i < 8 → (wr.alloc (.cells #[.int .i64 1, .int .i64 64] 176)).cell? ⟨w1.heap.size, i, none⟩ = some (.int .i64 (s.nums.getD i 0))) := BNums.later HN.out (newBox wr _) hs
        by_cases h0 : s.ca < 1
        · have d0 : decide (s.ca < 1) = true := decide_eq_true h0
          have no : ¬ InB s := fun h => absurd (InK.of h 3 (by decide)).1 (by show ¬ (1 : Int) ≤ s.ca; omega)
          clear hs' HN' HI
          go_wp2
          go_quiet (fail)
          go_wp2
          go_ret
          exact ⟨by rw [decide_eq_false no]; rfl, below_drewN hb' _⟩
        · have d0 : decide (s.ca < 1) = false := decide_eq_false h0
          by_cases h1 : 64 < s.ca
          · have d1 : decide (64 < s.ca) = true := decide_eq_true h1
            have no : ¬ InB s := fun h => absurd (InK.of h 3 (by decide)).2 (by show ¬ s.ca ≤ (64 : Int); omega)
            clear hs' HN' HI
            go_wp2
            go_quiet (fail)
            go_wp2
            go_ret
            exact ⟨by rw [decide_eq_false no]; rfl, below_drewN hb' _⟩
          · have d1 : decide (64 < s.ca) = false := decide_eq_false h1
            have HJ : Hid (InK s 4) := HI.out.succ (by show (1 : Int) ≤ s.ca; omega) (by show s.ca ≤ (64 : Int); omega)
            clear HI
            go_wp2
            go_quiet (fail)
            go_wp2
            go_roundw
            case rel => exact ⟨4, by omega, rfl, HJ.out, below_drewN hb' _, hs', HN'.out⟩
            case measure => simp [intOf]
      · have hx : (wr.alloc (.cells #[.int .i64 2, .int .i64 256] 176)).cell? ⟨w1.heap.size, 4, none⟩ = some (.int .i64 s.ino) := ((newBox wr (.cells #[.int .i64 2, .int .i64 256] 176)).cell (p := ⟨w1.heap.size, 4, none⟩) hs).trans (HN.out 4 (by decide))
        have hb' : Below w.heap.size w (wr.alloc (.cells #[.int .i64 2, .int .i64 256] 176)) := hb.trans ((newBox wr _).mono hb.size)
        have hs' : w1.heap.size < (wr.alloc (.cells #[.int .i64 2, .int .i64 256] 176)).heap.size := Nat.lt_of_lt_of_le hs (newBox wr _).size
        have HN' : Hid (∀ i, i < 8 → (wr.alloc (.cells #[.int .i64 2, .int .i64 256] 176)).cell? ⟨w1.heap.size, i, none⟩ = some (.int .i64 (s.nums.getD i 0))) := BNums.later HN.out (newBox wr _) hs
        by_cases h0 : s.ino < 2
        · have d0 : decide (s.ino < 2) = true := decide_eq_true h0
          have no : ¬ InB s := fun h => absurd (InK.of h 4 (by decide)).1 (by show ¬ (2 : Int) ≤ s.ino; omega)
          clear hs' HN' HI
          go_wp2
          go_quiet (fail)
          go_wp2
          go_ret
          exact ⟨by rw [decide_eq_false no]; rfl, below_drewN hb' _⟩
        · have d0 : decide (s.ino < 2) = false := decide_eq_false h0
          by_cases h1 : 256 < s.ino
          · have d1 : decide (256 < s.ino) = true := decide_eq_true h1
            have no : ¬ InB s := fun h => absurd (InK.of h 4 (by decide)).2 (by show ¬ s.ino ≤ (256 : Int); omega)
            clear hs' HN' HI
            go_wp2
            go_quiet (fail)
            go_wp2
            go_ret
            exact ⟨by rw [decide_eq_false no]; rfl, below_drewN hb' _⟩
          · have d1 : decide (256 < s.ino) = false := decide_eq_false h1
            have HJ : Hid (InK s 5) := HI.out.succ (by show (2 : Int) ≤ s.ino; omega) (by show s.ino ≤ (256 : Int); omega)
            clear HI
            go_wp2
            go_quiet (fail)
            go_wp2
            go_roundw
            case rel => exact ⟨5, by omega, rfl, HJ.out, below_drewN hb' _, hs', HN'.out⟩
            case measure => simp [intOf]
      · have hx : (wr.alloc (.cells #[.int .i64 0, .int .i64 524288] 176)).cell? ⟨w1.heap.size, 5, none⟩ = some (.int .i64 s.qu) := ((newBox wr (.cells #[.int .i64 0, .int .i64 524288] 176)).cell (p := ⟨w1.heap.size, 5, none⟩) hs).trans (HN.out 5 (by decide))
        have hb' : Below w.heap.size w (wr.alloc (.cells #[.int .i64 0, .int .i64 524288] 176)) := hb.trans ((newBox wr _).mono hb.size)
        have hs' : w1.heap.size < (wr.alloc (.cells #[.int .i64 0, .int .i64 524288] 176)).heap.size := Nat.lt_of_lt_of_le hs (newBox wr _).size
        have HN' : Hid (∀ i, i < 8 → (wr.alloc (.cells #[.int .i64 0, .int .i64 524288] 176)).cell? ⟨w1.heap.size, i, none⟩ = some (.int .i64 (s.nums.getD i 0))) := BNums.later HN.out (newBox wr _) hs
        by_cases h0 : s.qu < 0
        · have d0 : decide (s.qu < 0) = true := decide_eq_true h0
          have no : ¬ InB s := fun h => absurd (InK.of h 5 (by decide)).1 (by show ¬ (0 : Int) ≤ s.qu; omega)
          clear hs' HN' HI
          go_wp2
          go_quiet (fail)
          go_wp2
          go_ret
          exact ⟨by rw [decide_eq_false no]; rfl, below_drewN hb' _⟩
        · have d0 : decide (s.qu < 0) = false := decide_eq_false h0
          by_cases h1 : 524288 < s.qu
          · have d1 : decide (524288 < s.qu) = true := decide_eq_true h1
            have no : ¬ InB s := fun h => absurd (InK.of h 5 (by decide)).2 (by show ¬ s.qu ≤ (524288 : Int); omega)
            clear hs' HN' HI
            go_wp2
            go_quiet (fail)
            go_wp2
            go_ret
            exact ⟨by rw [decide_eq_false no]; rfl, below_drewN hb' _⟩
          · have d1 : decide (524288 < s.qu) = false := decide_eq_false h1
            have HJ : Hid (InK s 6) := HI.out.succ (by show (0 : Int) ≤ s.qu; omega) (by show s.qu ≤ (524288 : Int); omega)
            clear HI
            go_wp2
            go_quiet (fail)
            go_wp2
            go_roundw
            case rel => exact ⟨6, by omega, rfl, HJ.out, below_drewN hb' _, hs', HN'.out⟩
            case measure => simp [intOf]
      · have hx : (wr.alloc (.cells #[.int .i64 1, .int .i64 4096] 176)).cell? ⟨w1.heap.size, 6, none⟩ = some (.int .i64 s.da) := ((newBox wr (.cells #[.int .i64 1, .int .i64 4096] 176)).cell (p := ⟨w1.heap.size, 6, none⟩) hs).trans (HN.out 6 (by decide))
        have hb' : Below w.heap.size w (wr.alloc (.cells #[.int .i64 1, .int .i64 4096] 176)) := hb.trans ((newBox wr _).mono hb.size)
        have hs' : w1.heap.size < (wr.alloc (.cells #[.int .i64 1, .int .i64 4096] 176)).heap.size := Nat.lt_of_lt_of_le hs (newBox wr _).size
        have HN' : Hid (∀ i, i < 8 → (wr.alloc (.cells #[.int .i64 1, .int .i64 4096] 176)).cell? ⟨w1.heap.size, i, none⟩ = some (.int .i64 (s.nums.getD i 0))) := BNums.later HN.out (newBox wr _) hs
        by_cases h0 : s.da < 1
        · have d0 : decide (s.da < 1) = true := decide_eq_true h0
          have no : ¬ InB s := fun h => absurd (InK.of h 6 (by decide)).1 (by show ¬ (1 : Int) ≤ s.da; omega)
          clear hs' HN' HI
          go_wp2
          go_quiet (fail)
          go_wp2
          go_ret
          exact ⟨by rw [decide_eq_false no]; rfl, below_drewN hb' _⟩
        · have d0 : decide (s.da < 1) = false := decide_eq_false h0
          by_cases h1 : 4096 < s.da
          · have d1 : decide (4096 < s.da) = true := decide_eq_true h1
            have no : ¬ InB s := fun h => absurd (InK.of h 6 (by decide)).2 (by show ¬ s.da ≤ (4096 : Int); omega)
            clear hs' HN' HI
            go_wp2
            go_quiet (fail)
            go_wp2
            go_ret
            exact ⟨by rw [decide_eq_false no]; rfl, below_drewN hb' _⟩
          · have d1 : decide (4096 < s.da) = false := decide_eq_false h1
            have HJ : Hid (InK s 7) := HI.out.succ (by show (1 : Int) ≤ s.da; omega) (by show s.da ≤ (4096 : Int); omega)
            clear HI
            go_wp2
            go_quiet (fail)
            go_wp2
            go_roundw
            case rel => exact ⟨7, by omega, rfl, HJ.out, below_drewN hb' _, hs', HN'.out⟩
            case measure => simp [intOf]
      · have hx : (wr.alloc (.cells #[.int .i64 27, .int .i64 512] 176)).cell? ⟨w1.heap.size, 7, none⟩ = some (.int .i64 s.jo) := ((newBox wr (.cells #[.int .i64 27, .int .i64 512] 176)).cell (p := ⟨w1.heap.size, 7, none⟩) hs).trans (HN.out 7 (by decide))
        have hb' : Below w.heap.size w (wr.alloc (.cells #[.int .i64 27, .int .i64 512] 176)) := hb.trans ((newBox wr _).mono hb.size)
        have hs' : w1.heap.size < (wr.alloc (.cells #[.int .i64 27, .int .i64 512] 176)).heap.size := Nat.lt_of_lt_of_le hs (newBox wr _).size
        have HN' : Hid (∀ i, i < 8 → (wr.alloc (.cells #[.int .i64 27, .int .i64 512] 176)).cell? ⟨w1.heap.size, i, none⟩ = some (.int .i64 (s.nums.getD i 0))) := BNums.later HN.out (newBox wr _) hs
        by_cases h0 : s.jo < 27
        · have d0 : decide (s.jo < 27) = true := decide_eq_true h0
          have no : ¬ InB s := fun h => absurd (InK.of h 7 (by decide)).1 (by show ¬ (27 : Int) ≤ s.jo; omega)
          clear hs' HN' HI
          go_wp2
          go_quiet (fail)
          go_wp2
          go_ret
          exact ⟨by rw [decide_eq_false no]; rfl, below_drewN hb' _⟩
        · have d0 : decide (s.jo < 27) = false := decide_eq_false h0
          by_cases h1 : 512 < s.jo
          · have d1 : decide (512 < s.jo) = true := decide_eq_true h1
            have no : ¬ InB s := fun h => absurd (InK.of h 7 (by decide)).2 (by show ¬ s.jo ≤ (512 : Int); omega)
            clear hs' HN' HI
            go_wp2
            go_quiet (fail)
            go_wp2
            go_ret
            exact ⟨by rw [decide_eq_false no]; rfl, below_drewN hb' _⟩
          · have d1 : decide (512 < s.jo) = false := decide_eq_false h1
            have HJ : Hid (InK s 8) := HI.out.succ (by show (27 : Int) ≤ s.jo; omega) (by show s.jo ≤ (512 : Int); omega)
            clear HI
            go_wp2
            go_quiet (fail)
            go_wp2
            go_roundw
            case rel => exact ⟨8, by omega, rfl, HJ.out, below_drewN hb' _, hs', HN'.out⟩
            case measure => simp [intOf]
    · obtain rfl : k = 8 := by omega
      have yes := hI.all
      clear hI hN
      go_wp2
      go_ret
      exact ⟨by rw [decide_eq_true yes]; rfl, hb⟩
end Go.Proofs.YtlcjkbhcbiggcaaGreatDoor

/- Plan by its contract. -/
namespace Go.Proofs.YtlcjkbhcbiggcaaGreatDoor
open Go.RowKit
set_option maxRecDepth 100000

attribute [local go_sem ↓ 100000] ly_store ly_load
attribute [local go_sem] LyStore.new LyStore.drew LyLoad.new LyLoad.drew

theorem ShBox.and {w : World} {b : Nat} {s : Shp} {Q : Prop} (h : ShBox w b s) (k : Q) : w.cell? ⟨b, 0, none⟩ = some (.int .i64 s.cl) ∧ w.cell? ⟨b, 1, none⟩ = some (.int .i64 s.wi) ∧ w.cell? ⟨b, 2, none⟩ = some (.int .i64 s.pl) ∧ w.cell? ⟨b, 3, none⟩ = some (.int .i64 s.ca) ∧ w.cell? ⟨b, 4, none⟩ = some (.int .i64 s.ino) ∧ w.cell? ⟨b, 5, none⟩ = some (.int .i64 s.qu) ∧ w.cell? ⟨b, 6, none⟩ = some (.int .i64 s.da) ∧ w.cell? ⟨b, 7, none⟩ = some (.int .i64 s.jo) ∧ Q := ⟨h.c0, h.c1, h.c2, h.c3, h.c4, h.c5, h.c6, h.c7, k⟩
set_option maxHeartbeats 2000000 in
theorem plan_any (s : Shp) (w : World) (hB : Bds w) :
    Calls Tryz.prog 29 #[shV s] w fun e w' => e = .returned (.tuple #[lyV (planL s), .int .i64 (planE s)]) ∧ Below w.heap.size w w' := by
  have hB0 : ShBox ((w.alloc (.cells #[.int .i64 s.cl, .int .i64 s.wi, .int .i64 s.pl, .int .i64 s.ca, .int .i64 s.ino, .int .i64 s.qu, .int .i64 s.da, .int .i64 s.jo] 58)).alloc (.cells #[.int .i64 0, .int .i64 0, .int .i64 0, .int .i64 0, .int .i64 0, .int .i64 0, .int .i64 0, .int .i64 0, .int .i64 0, .int .i64 0, .int .i64 0, .int .i64 0, .int .i64 0, .int .i64 0, .int .i64 0, .int .i64 0, .int .i64 0, .int .i64 0, .int .i64 0, .int .i64 0] 60)) w.heap.size s := (ShBox.new w s).later (newBox _ _) (by simp)
  have hZ0 : ((w.alloc (.cells #[.int .i64 s.cl, .int .i64 s.wi, .int .i64 s.pl, .int .i64 s.ca, .int .i64 s.ino, .int .i64 s.qu, .int .i64 s.da, .int .i64 s.jo] 58)).alloc (.cells #[.int .i64 0, .int .i64 0, .int .i64 0, .int .i64 0, .int .i64 0, .int .i64 0, .int .i64 0, .int .i64 0, .int .i64 0, .int .i64 0, .int .i64 0, .int .i64 0, .int .i64 0, .int .i64 0, .int .i64 0, .int .i64 0, .int .i64 0, .int .i64 0, .int .i64 0, .int .i64 0] 60)).heap[w.heap.size + 1]? = some (.cells #[.int .i64 0, .int .i64 0, .int .i64 0, .int .i64 0, .int .i64 0, .int .i64 0, .int .i64 0, .int .i64 0, .int .i64 0, .int .i64 0, .int .i64 0, .int .i64 0, .int .i64 0, .int .i64 0, .int .i64 0, .int .i64 0, .int .i64 0, .int .i64 0, .int .i64 0, .int .i64 0] 60 (0, 0)) := heap_new2 w _ _
  have hb0 : Below w.heap.size w ((w.alloc (.cells #[.int .i64 s.cl, .int .i64 s.wi, .int .i64 s.pl, .int .i64 s.ca, .int .i64 s.ino, .int .i64 s.qu, .int .i64 s.da, .int .i64 s.jo] 58)).alloc (.cells #[.int .i64 0, .int .i64 0, .int .i64 0, .int .i64 0, .int .i64 0, .int .i64 0, .int .i64 0, .int .i64 0, .int .i64 0, .int .i64 0, .int .i64 0, .int .i64 0, .int .i64 0, .int .i64 0, .int .i64 0, .int .i64 0, .int .i64 0, .int .i64 0, .int .i64 0, .int .i64 0] 60)) := (newBox w _).trans ((newBox _ _).mono (by simp))
  have hs0 : w.heap.size < ((w.alloc (.cells #[.int .i64 s.cl, .int .i64 s.wi, .int .i64 s.pl, .int .i64 s.ca, .int .i64 s.ino, .int .i64 s.qu, .int .i64 s.da, .int .i64 s.jo] 58)).alloc (.cells #[.int .i64 0, .int .i64 0, .int .i64 0, .int .i64 0, .int .i64 0, .int .i64 0, .int .i64 0, .int .i64 0, .int .i64 0, .int .i64 0, .int .i64 0, .int .i64 0, .int .i64 0, .int .i64 0, .int .i64 0, .int .i64 0, .int .i64 0, .int .i64 0, .int .i64 0, .int .i64 0] 60)).heap.size := by simp; omega
  have hD0 : Bds ((w.alloc (.cells #[.int .i64 s.cl, .int .i64 s.wi, .int .i64 s.pl, .int .i64 s.ca, .int .i64 s.ino, .int .i64 s.qu, .int .i64 s.da, .int .i64 s.jo] 58)).alloc (.cells #[.int .i64 0, .int .i64 0, .int .i64 0, .int .i64 0, .int .i64 0, .int .i64 0, .int .i64 0, .int .i64 0, .int .i64 0, .int .i64 0, .int .i64 0, .int .i64 0, .int .i64 0, .int .i64 0, .int .i64 0, .int .i64 0, .int .i64 0, .int .i64 0, .int .i64 0, .int .i64 0] 60)) := hB.later hb0 (Nat.le_refl _)
  go_enter Tryz.func29, Tryz.ntmps29
  go_wp2_with fail
  generalize ((w.alloc (.cells #[.int .i64 s.cl, .int .i64 s.wi, .int .i64 s.pl, .int .i64 s.ca, .int .i64 s.ino, .int .i64 s.qu, .int .i64 s.da, .int .i64 s.jo] 58)).alloc (.cells #[.int .i64 0, .int .i64 0, .int .i64 0, .int .i64 0, .int .i64 0, .int .i64 0, .int .i64 0, .int .i64 0, .int .i64 0, .int .i64 0, .int .i64 0, .int .i64 0, .int .i64 0, .int .i64 0, .int .i64 0, .int .i64 0, .int .i64 0, .int .i64 0, .int .i64 0, .int .i64 0] 60)) = w0 at *
  refine (inBounds_any s _ hD0).mono ?_
  rintro e w1 ⟨rfl, hb1⟩
  have hB1 := hB0.later hb1 hs0
  have hZ1 := (hb1.block _ (lt_of_block hZ0)).trans hZ0
  have hs1 := Nat.lt_of_lt_of_le hs0 hb1.size
  have hq1 := hb0.trans (hb1.mono hb0.size)
  clear hB0 hZ0 hs0 hb1 hb0 hD0 hB
  by_cases hin : InB s
  case neg =>
    simp only [decide_eq_false hin]
    have hst := LyStore.row hZ1 rfl
    clear hB1
    go_wp2
    refine bodyPost_ret (res2 rfl _ _ (w.heap.size + 1) 60 _ (0, 0) _ rfl (setRow_heap _ _ _ _ _ _ hZ1) Tryz.underlying60 rfl ly_size) rfl ?_
    have e : planE s = 2 := by unfold planE; rw [if_pos hin]
    refine ⟨?_, below_setRow hq1 (by omega) _⟩
    unfold planL
    rw [e]
    rfl
  simp only [decide_eq_true hin]
  obtain ⟨a0, a1, a2, a3, a4, a5, a6, a7⟩ := hB1
  go_wp2_with fail
  refine (layOut_any s hin _).mono ?_
  rintro e w2 ⟨rfl, hb2⟩
  have hB2 := (ShBox.mk a0 a1 a2 a3 a4 a5 a6 a7).later hb2 hs1
  have hZ2 := (hb2.block _ (lt_of_block hZ1)).trans hZ1
  have hs2 := Nat.lt_of_lt_of_le hs1 hb2.size
  have hq2 := hq1.trans (hb2.mono hq1.size)
  clear a0 a1 a2 a3 a4 a5 a6 a7 hZ1 hs1 hq1 hb2
  have hn := newBox w2 (.cells #[.int .i64 (layOf s).bo, .int .i64 (layOf s).jr, .int .i64 (layOf s).jl, .int .i64 (layOf s).le, .int .i64 (layOf s).ll, .int .i64 (layOf s).bi, .int .i64 (layOf s).bl, .int .i64 (layOf s).ta, .int .i64 (layOf s).tl, .int .i64 (layOf s).dt, .int .i64 (layOf s).dl, .int .i64 (layOf s).to, .int .i64 (layOf s).sh.cl, .int .i64 (layOf s).sh.wi, .int .i64 (layOf s).sh.pl, .int .i64 (layOf s).sh.ca, .int .i64 (layOf s).sh.ino, .int .i64 (layOf s).sh.qu, .int .i64 (layOf s).sh.da, .int .i64 (layOf s).sh.jo] 60)
  have hL3 : (w2.alloc (.cells #[.int .i64 (layOf s).bo, .int .i64 (layOf s).jr, .int .i64 (layOf s).jl, .int .i64 (layOf s).le, .int .i64 (layOf s).ll, .int .i64 (layOf s).bi, .int .i64 (layOf s).bl, .int .i64 (layOf s).ta, .int .i64 (layOf s).tl, .int .i64 (layOf s).dt, .int .i64 (layOf s).dl, .int .i64 (layOf s).to, .int .i64 (layOf s).sh.cl, .int .i64 (layOf s).sh.wi, .int .i64 (layOf s).sh.pl, .int .i64 (layOf s).sh.ca, .int .i64 (layOf s).sh.ino, .int .i64 (layOf s).sh.qu, .int .i64 (layOf s).sh.da, .int .i64 (layOf s).sh.jo] 60)).heap[w2.heap.size]? = some (.cells #[.int .i64 (layOf s).bo, .int .i64 (layOf s).jr, .int .i64 (layOf s).jl, .int .i64 (layOf s).le, .int .i64 (layOf s).ll, .int .i64 (layOf s).bi, .int .i64 (layOf s).bl, .int .i64 (layOf s).ta, .int .i64 (layOf s).tl, .int .i64 (layOf s).dt, .int .i64 (layOf s).dl, .int .i64 (layOf s).to, .int .i64 (layOf s).sh.cl, .int .i64 (layOf s).sh.wi, .int .i64 (layOf s).sh.pl, .int .i64 (layOf s).sh.ca, .int .i64 (layOf s).sh.ino, .int .i64 (layOf s).sh.qu, .int .i64 (layOf s).sh.da, .int .i64 (layOf s).sh.jo] 60 (0, 0)) := heap_alloc_last w2 _
  have hT3 : (w2.alloc (.cells #[.int .i64 (layOf s).bo, .int .i64 (layOf s).jr, .int .i64 (layOf s).jl, .int .i64 (layOf s).le, .int .i64 (layOf s).ll, .int .i64 (layOf s).bi, .int .i64 (layOf s).bl, .int .i64 (layOf s).ta, .int .i64 (layOf s).tl, .int .i64 (layOf s).dt, .int .i64 (layOf s).dl, .int .i64 (layOf s).to, .int .i64 (layOf s).sh.cl, .int .i64 (layOf s).sh.wi, .int .i64 (layOf s).sh.pl, .int .i64 (layOf s).sh.ca, .int .i64 (layOf s).sh.ino, .int .i64 (layOf s).sh.qu, .int .i64 (layOf s).sh.da, .int .i64 (layOf s).sh.jo] 60)).cell? ⟨w2.heap.size, 11, none⟩ = some (.int .i64 (layOf s).to) := (LyBox.new w2 (layOf s)).c11
  have hZ3 := (hn.block _ (lt_of_block hZ2)).trans hZ2
  have hB3 := hB2.later hn hs2
  have hs3 := Nat.lt_of_lt_of_le hs2 hn.size
  have hq3 := hq2.trans (hn.mono hq2.size)
  go_wp2
  clear hZ2 hB2 hs2 hq2 hn
  have hl3 : w2.heap.size < (w2.alloc (.cells #[.int .i64 (layOf s).bo, .int .i64 (layOf s).jr, .int .i64 (layOf s).jl, .int .i64 (layOf s).le, .int .i64 (layOf s).ll, .int .i64 (layOf s).bi, .int .i64 (layOf s).bl, .int .i64 (layOf s).ta, .int .i64 (layOf s).tl, .int .i64 (layOf s).dt, .int .i64 (layOf s).dl, .int .i64 (layOf s).to, .int .i64 (layOf s).sh.cl, .int .i64 (layOf s).sh.wi, .int .i64 (layOf s).sh.pl, .int .i64 (layOf s).sh.ca, .int .i64 (layOf s).sh.ino, .int .i64 (layOf s).sh.qu, .int .i64 (layOf s).sh.da, .int .i64 (layOf s).sh.jo] 60)).heap.size := by simp
  generalize w2.alloc (.cells #[.int .i64 (layOf s).bo, .int .i64 (layOf s).jr, .int .i64 (layOf s).jl, .int .i64 (layOf s).le, .int .i64 (layOf s).ll, .int .i64 (layOf s).bi, .int .i64 (layOf s).bl, .int .i64 (layOf s).ta, .int .i64 (layOf s).tl, .int .i64 (layOf s).dt, .int .i64 (layOf s).dl, .int .i64 (layOf s).to, .int .i64 (layOf s).sh.cl, .int .i64 (layOf s).sh.wi, .int .i64 (layOf s).sh.pl, .int .i64 (layOf s).sh.ca, .int .i64 (layOf s).sh.ino, .int .i64 (layOf s).sh.qu, .int .i64 (layOf s).sh.da, .int .i64 (layOf s).sh.jo] 60) = w3 at *
  have hB4 : ShBox w3.drew w.heap.size s := hB3.later (Below.refl w3.heap.size w3).drew hs3
  have hT4 : w3.drew.cell? ⟨w2.heap.size, 11, none⟩ = some (.int .i64 (layOf s).to) := hT3
  have hZ4 : w3.drew.heap[w.heap.size + 1]? = some (.cells #[.int .i64 0, .int .i64 0, .int .i64 0, .int .i64 0, .int .i64 0, .int .i64 0, .int .i64 0, .int .i64 0, .int .i64 0, .int .i64 0, .int .i64 0, .int .i64 0, .int .i64 0, .int .i64 0, .int .i64 0, .int .i64 0, .int .i64 0, .int .i64 0, .int .i64 0, .int .i64 0] 60 (0, 0)) := hZ3
  have hL4 : w3.drew.heap[w2.heap.size]? = some (.cells #[.int .i64 (layOf s).bo, .int .i64 (layOf s).jr, .int .i64 (layOf s).jl, .int .i64 (layOf s).le, .int .i64 (layOf s).ll, .int .i64 (layOf s).bi, .int .i64 (layOf s).bl, .int .i64 (layOf s).ta, .int .i64 (layOf s).tl, .int .i64 (layOf s).dt, .int .i64 (layOf s).dl, .int .i64 (layOf s).to, .int .i64 (layOf s).sh.cl, .int .i64 (layOf s).sh.wi, .int .i64 (layOf s).sh.pl, .int .i64 (layOf s).sh.ca, .int .i64 (layOf s).sh.ino, .int .i64 (layOf s).sh.qu, .int .i64 (layOf s).sh.da, .int .i64 (layOf s).sh.jo] 60 (0, 0)) := hL3
  have hq4 : Below w.heap.size w w3.drew := hq3.drew
  have hs3 : w.heap.size < w3.drew.heap.size := hs3
  have hl3 : w2.heap.size < w3.drew.heap.size := hl3
  clear hB3 hT3 hZ3 hL3 hq3
  by_cases h0 : s.da < leastD s
  · have d0 : decide (s.da < leastD s) = true := decide_eq_true h0
    obtain ⟨a0, a1, a2, a3, a4, a5, a6, a7⟩ := hB4
    first | (go_region_with (first
      | (go_at_call 64; refine (leastData_any s hin _).mono ?_; rintro e w4 ⟨rfl, hb4⟩; have a6' := (hb4.cell (p := ⟨w.heap.size, 6, none⟩) hs3).trans a6))) | fail
    all_goals
      have hZ5 := (hb4.block _ (lt_of_block hZ4)).trans hZ4
      have hst := LyStore.row hZ5 rfl
      have hq5 := hq4.trans (hb4.mono hq4.size)
      go_wp2
      refine bodyPost_ret (res2 rfl _ _ (w.heap.size + 1) 60 _ (0, 0) _ rfl (setRow_heap _ _ _ _ _ _ hZ5) Tryz.underlying60 rfl ly_size) rfl ?_
      have e : planE s = 63 := by unfold planE; rw [if_neg (fun h => h hin), if_pos (Or.inl h0)]
      refine ⟨?_, below_setRow hq5 (by omega) _⟩
      unfold planL
      rw [e]
      rfl
  have d0 : decide (s.da < leastD s) = false := decide_eq_false h0
  by_cases h1 : 4096 < (layOf s).to
  · have d1 : decide (4096 < (layOf s).to) = true := decide_eq_true h1
    go_region_held3 (fun w' => w'.cell? ⟨w.heap.size, 0, none⟩ = some (.int .i64 s.cl) ∧ w'.cell? ⟨w.heap.size, 1, none⟩ = some (.int .i64 s.wi) ∧ w'.cell? ⟨w.heap.size, 2, none⟩ = some (.int .i64 s.pl) ∧ w'.cell? ⟨w.heap.size, 3, none⟩ = some (.int .i64 s.ca) ∧ w'.cell? ⟨w.heap.size, 4, none⟩ = some (.int .i64 s.ino) ∧ w'.cell? ⟨w.heap.size, 5, none⟩ = some (.int .i64 s.qu) ∧ w'.cell? ⟨w.heap.size, 6, none⟩ = some (.int .i64 s.da) ∧ w'.cell? ⟨w.heap.size, 7, none⟩ = some (.int .i64 s.jo) ∧ w'.cell? ⟨w2.heap.size, 11, none⟩ = some (.int .i64 (layOf s).to))
      (first | with_reducible exact hB4.and hT4 | with_reducible exact hB5.and hT5)
      (first
        | (go_at_call 64; refine (leastData_any s hin _).mono ?_; rintro e w4 ⟨rfl, hb4⟩; have hB5 := hB4.later hb4 hs3; have hT5 := (hb4.cell (p := ⟨w2.heap.size, 11, none⟩) hl3).trans hT4))
    all_goals
      have hZ5 := (hb4.block _ (lt_of_block hZ4)).trans hZ4
      have hst := LyStore.row hZ5 rfl
      have hq5 := hq4.trans (hb4.mono hq4.size)
      go_wp2
      refine bodyPost_ret (res2 rfl _ _ (w.heap.size + 1) 60 _ (0, 0) _ rfl (setRow_heap _ _ _ _ _ _ hZ5) Tryz.underlying60 rfl ly_size) rfl ?_
      have e : planE s = 63 := by unfold planE; rw [if_neg (fun h => h hin), if_pos (Or.inr h1)]
      refine ⟨?_, below_setRow hq5 (by omega) _⟩
      unfold planL
      rw [e]
      rfl
  · have d1 : decide (4096 < (layOf s).to) = false := decide_eq_false h1
    go_region_held3 (fun w' => w'.cell? ⟨w.heap.size, 0, none⟩ = some (.int .i64 s.cl) ∧ w'.cell? ⟨w.heap.size, 1, none⟩ = some (.int .i64 s.wi) ∧ w'.cell? ⟨w.heap.size, 2, none⟩ = some (.int .i64 s.pl) ∧ w'.cell? ⟨w.heap.size, 3, none⟩ = some (.int .i64 s.ca) ∧ w'.cell? ⟨w.heap.size, 4, none⟩ = some (.int .i64 s.ino) ∧ w'.cell? ⟨w.heap.size, 5, none⟩ = some (.int .i64 s.qu) ∧ w'.cell? ⟨w.heap.size, 6, none⟩ = some (.int .i64 s.da) ∧ w'.cell? ⟨w.heap.size, 7, none⟩ = some (.int .i64 s.jo) ∧ w'.cell? ⟨w2.heap.size, 11, none⟩ = some (.int .i64 (layOf s).to))
      (first | with_reducible exact hB4.and hT4 | with_reducible exact hB5.and hT5)
      (first
        | (go_at_call 64; refine (leastData_any s hin _).mono ?_; rintro e w4 ⟨rfl, hb4⟩; have hB5 := hB4.later hb4 hs3; have hT5 := (hb4.cell (p := ⟨w2.heap.size, 11, none⟩) hl3).trans hT4))
    all_goals
      have hZ5 := (hb4.block _ (lt_of_block hZ4)).trans hZ4
      have hL5 := (hb4.block _ (lt_of_block hL4)).trans hL4
      have hld := LyLoad.row hL5 rfl
      have hst := LyStore.row hZ5 rfl
      have hq5 := hq4.trans (hb4.mono hq4.size)
      go_wp2
      refine bodyPost_ret (res2 rfl _ _ (w.heap.size + 1) 60 _ (0, 0) _ rfl (setRow_heap _ _ _ _ _ _ hZ5) Tryz.underlying60 rfl ly_size) rfl ?_
      have e : planE s = 0 := by unfold planE; rw [if_neg (fun h => h hin), if_neg (fun h => by omega)]
      refine ⟨?_, below_setRow hq5 (by omega) _⟩
      unfold planL
      rw [e]
      rfl
end Go.Proofs.YtlcjkbhcbiggcaaGreatDoor
