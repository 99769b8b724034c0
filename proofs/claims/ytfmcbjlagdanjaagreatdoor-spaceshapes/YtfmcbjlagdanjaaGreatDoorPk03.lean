/- inBounds by its contract. -/
import Derived.Test.YtfmcbjlagdanjaaGreatDoorPk02
namespace Go.Proofs.YtfmcbjlagdanjaaGreatDoor
open Go.RowKit
set_option maxRecDepth 100000
attribute [local go_sem] ix_bd0 ix_bd1 ix_bd2 ix_bd3 ix_bd4 ix_bd5 ix_bd6 ix_bd7

/-- The bounds of the numbers. -/
def bdl : List (Int × Int) := [(1, 8), (1, 8), (1, 8), (1, 64), (2, 256), (0, 524288), (1, 4096), (27, 512)]
/-- The first k numbers are in their bounds. -/
def InK (s : Shp) (k : Nat) : Prop := ∀ i, i < k → (bdl.getD i (0, 0)).1 ≤ s.nums.getD i 0 ∧ s.nums.getD i 0 ≤ (bdl.getD i (0, 0)).2
theorem InK.all {s : Shp} (h : InK s 8) : InB s :=
  ⟨(h 0 (by decide)).1, (h 0 (by decide)).2, (h 1 (by decide)).1, (h 1 (by decide)).2, (h 2 (by decide)).1, (h 2 (by decide)).2, (h 3 (by decide)).1, (h 3 (by decide)).2, (h 4 (by decide)).1, (h 4 (by decide)).2, (h 5 (by decide)).1, (h 5 (by decide)).2, (h 6 (by decide)).1, (h 6 (by decide)).2, (h 7 (by decide)).1, (h 7 (by decide)).2⟩
theorem InK.of {s : Shp} (h : InB s) (k : Nat) (hk : k < 8) : (bdl.getD k (0, 0)).1 ≤ s.nums.getD k 0 ∧ s.nums.getD k 0 ≤ (bdl.getD k (0, 0)).2 := by
  obtain rfl | rfl | rfl | rfl | rfl | rfl | rfl | rfl : k = 0 ∨ k = 1 ∨ k = 2 ∨ k = 3 ∨ k = 4 ∨ k = 5 ∨ k = 6 ∨ k = 7 := by omega
  · exact ⟨h.cl0, h.cl1⟩
  · exact ⟨h.wi0, h.wi1⟩
  · exact ⟨h.pl0, h.pl1⟩
  · exact ⟨h.ca0, h.ca1⟩
  · exact ⟨h.ino0, h.ino1⟩
  · exact ⟨h.qu0, h.qu1⟩
  · exact ⟨h.da0, h.da1⟩
  · exact ⟨h.jo0, h.jo1⟩
theorem InK.succ {s : Shp} {k : Nat} (h : InK s k) (h0 : (bdl.getD k (0, 0)).1 ≤ s.nums.getD k 0) (h1 : s.nums.getD k 0 ≤ (bdl.getD k (0, 0)).2) : InK s (k + 1) := fun i hi => by
  by_cases e : i = k
  · subst e; exact ⟨h0, h1⟩
  · exact h i (by omega)
theorem BNums.later {B : Nat} {w w' : World} {b : Nat} {s : Shp} (h : ∀ i, i < 8 → w.cell? ⟨b, i, none⟩ = some (.int .i64 (s.nums.getD i 0))) (hb : Below B w w') (hB : b < B) : ∀ i, i < 8 → w'.cell? ⟨b, i, none⟩ = some (.int .i64 (s.nums.getD i 0)) :=
  fun i hi => (hb.cell (p := ⟨b, i, none⟩) hB).trans (h i hi)
theorem BNums.new (w : World) (s : Shp) : ∀ i, i < 8 → (w.alloc (.cells #[.int .i64 s.cl, .int .i64 s.wi, .int .i64 s.pl, .int .i64 s.ca, .int .i64 s.ino, .int .i64 s.qu, .int .i64 s.da, .int .i64 s.jo] 203)).cell? ⟨w.heap.size, i, none⟩ = some (.int .i64 (s.nums.getD i 0)) := fun k hk => by
  obtain rfl | rfl | rfl | rfl | rfl | rfl | rfl | rfl : k = 0 ∨ k = 1 ∨ k = 2 ∨ k = 3 ∨ k = 4 ∨ k = 5 ∨ k = 6 ∨ k = 7 := by omega
  all_goals simp [go_sem, Shp.nums]

set_option maxHeartbeats 2000000 in
theorem inBounds_any (s : Shp) (w : World) (hB : Bds w) :
    Calls Tryz.prog 92 #[shV s] w fun e w' => e = .returned (.bool (decide (InB s))) ∧ Below w.heap.size w w' := by
  have hB0 := ShBox.new w s
  have hb0 := newBox w (.cells #[.int .i64 s.cl, .int .i64 s.wi, .int .i64 s.pl, .int .i64 s.ca, .int .i64 s.ino, .int .i64 s.qu, .int .i64 s.da, .int .i64 s.jo] 27)
  have hD0 := hB.later hb0 (Nat.le_refl _)
  go_enter Tryz.func92, Tryz.ntmps92
  go_wp2_with fail
  generalize w.alloc (.cells #[.int .i64 s.cl, .int .i64 s.wi, .int .i64 s.pl, .int .i64 s.ca, .int .i64 s.ino, .int .i64 s.qu, .int .i64 s.da, .int .i64 s.jo] 27) = w0 at *
  refine (numbers_any s _).mono ?_
  rintro e w1 ⟨rfl, hb1⟩
  have hb2 := newBox w1 (.cells #[.int .i64 s.cl, .int .i64 s.wi, .int .i64 s.pl, .int .i64 s.ca, .int .i64 s.ino, .int .i64 s.qu, .int .i64 s.da, .int .i64 s.jo] 203)
  have hN : ∀ i, i < 8 → (w1.alloc (.cells #[.int .i64 s.cl, .int .i64 s.wi, .int .i64 s.pl, .int .i64 s.ca, .int .i64 s.ino, .int .i64 s.qu, .int .i64 s.da, .int .i64 s.jo] 203)).cell? ⟨w1.heap.size, i, none⟩ = some (.int .i64 (s.nums.getD i 0)) := BNums.new w1 s
  have hs : w1.heap.size < (w1.alloc (.cells #[.int .i64 s.cl, .int .i64 s.wi, .int .i64 s.pl, .int .i64 s.ca, .int .i64 s.ino, .int .i64 s.qu, .int .i64 s.da, .int .i64 s.jo] 203)).heap.size := by simp
  have hq2 : Below w.heap.size w (w1.alloc (.cells #[.int .i64 s.cl, .int .i64 s.wi, .int .i64 s.pl, .int .i64 s.ca, .int .i64 s.ino, .int .i64 s.qu, .int .i64 s.da, .int .i64 s.jo] 203)) := (hb0.trans (hb1.mono hb0.size)).trans (hb2.mono (Nat.le_trans hb0.size hb1.size))
  obtain ⟨g0, g1, g2, g3, g4, g5, g6, g7, g8, g9, g10, g11, g12, g13, g14, g15⟩ := (hD0.later hb1 (Nat.le_refl _)).later hb2 (Nat.le_refl _)
  clear hB0 hD0 hB hb2 hb1 hb0
  go_wp2_with fail
  go_loopw [9] (fun v wr => ∃ k : Nat, k ≤ 8 ∧ v = .int .i64 k ∧ InK s k ∧ Below w.heap.size w wr ∧ w1.heap.size < wr.heap.size ∧ ∀ i, i < 8 → wr.cell? ⟨w1.heap.size, i, none⟩ = some (.int .i64 (s.nums.getD i 0))) (fun v _ => 8 - (intOf v).toNat)
  case atStart => exact ⟨0, by omega, rfl, fun i hi => absurd hi (Nat.not_lt_zero _), hq2, hs, hN⟩
  case round =>
    clear hN hs hq2 g0 g1 g2 g3 g4 g5 g6 g7 g8 g9 g10 g11 g12 g13 g14 g15
    obtain ⟨k, hk, rfl, hI, hb, hs, hN⟩ := hrel
    by_cases hlt : k < 8
    · have HI : Hid (InK s k) := hI
      have HN : Hid (∀ i, i < 8 → wr.cell? ⟨w1.heap.size, i, none⟩ = some (.int .i64 (s.nums.getD i 0))) := hN
      clear hI hN
      obtain rfl | rfl | rfl | rfl | rfl | rfl | rfl | rfl : k = 0 ∨ k = 1 ∨ k = 2 ∨ k = 3 ∨ k = 4 ∨ k = 5 ∨ k = 6 ∨ k = 7 := by omega
      · have hx : (wr.alloc (.cells #[.int .i64 1, .int .i64 8] 206)).cell? ⟨w1.heap.size, 0, none⟩ = some (.int .i64 s.cl) := ((newBox wr (.cells #[.int .i64 1, .int .i64 8] 206)).cell (p := ⟨w1.heap.size, 0, none⟩) hs).trans (HN.out 0 (by decide))
        have hb' : Below w.heap.size w (wr.alloc (.cells #[.int .i64 1, .int .i64 8] 206)) := hb.trans ((newBox wr _).mono hb.size)
        have hs' : w1.heap.size < (wr.alloc (.cells #[.int .i64 1, .int .i64 8] 206)).heap.size := Nat.lt_of_lt_of_le hs (newBox wr _).size
        have HN' : Hid (∀ i, i < 8 → (wr.alloc (.cells #[.int .i64 1, .int .i64 8] 206)).cell? ⟨w1.heap.size, i, none⟩ = some (.int .i64 (s.nums.getD i 0))) := BNums.later HN.out (newBox wr _) hs
        by_cases h0 : s.cl < 1
        · have d0 : decide (s.cl < 1) = true := decide_eq_true h0
          have no : ¬ InB s := fun h => absurd (InK.of h 0 (by decide)).1 (by show ¬ (1 : Int) ≤ s.cl; omega)
          clear hs' HN' HI
          go_wp2
          go_quiet (fail)
          go_wp2
          go_ret
          exact ⟨by rw [decide_eq_false no]; rfl, below_drewN hb' _⟩
        · have d0 : decide (s.cl < 1) = false := decide_eq_false h0
          by_cases h1 : 8 < s.cl
          · have d1 : decide (8 < s.cl) = true := decide_eq_true h1
            have no : ¬ InB s := fun h => absurd (InK.of h 0 (by decide)).2 (by show ¬ s.cl ≤ (8 : Int); omega)
            clear hs' HN' HI
            go_wp2
            go_quiet (fail)
            go_wp2
            go_ret
            exact ⟨by rw [decide_eq_false no]; rfl, below_drewN hb' _⟩
          · have d1 : decide (8 < s.cl) = false := decide_eq_false h1
            have HJ : Hid (InK s 1) := HI.out.succ (by show (1 : Int) ≤ s.cl; omega) (by show s.cl ≤ (8 : Int); omega)
            clear HI
            go_wp2
            go_quiet (fail)
            go_wp2
            go_roundw
            case rel => exact ⟨1, by omega, rfl, HJ.out, below_drewN hb' _, hs', HN'.out⟩
            case measure => simp [intOf]
      · have hx : (wr.alloc (.cells #[.int .i64 1, .int .i64 8] 206)).cell? ⟨w1.heap.size, 1, none⟩ = some (.int .i64 s.wi) := ((newBox wr (.cells #[.int .i64 1, .int .i64 8] 206)).cell (p := ⟨w1.heap.size, 1, none⟩) hs).trans (HN.out 1 (by decide))
        have hb' : Below w.heap.size w (wr.alloc (.cells #[.int .i64 1, .int .i64 8] 206)) := hb.trans ((newBox wr _).mono hb.size)
        have hs' : w1.heap.size < (wr.alloc (.cells #[.int .i64 1, .int .i64 8] 206)).heap.size := Nat.lt_of_lt_of_le hs (newBox wr _).size
        have HN' : Hid (∀ i, i < 8 → (wr.alloc (.cells #[.int .i64 1, .int .i64 8] 206)).cell? ⟨w1.heap.size, i, none⟩ = some (.int .i64 (s.nums.getD i 0))) := BNums.later HN.out (newBox wr _) hs
        by_cases h0 : s.wi < 1
        · have d0 : decide (s.wi < 1) = true := decide_eq_true h0
          have no : ¬ InB s := fun h => absurd (InK.of h 1 (by decide)).1 (by show ¬ (1 : Int) ≤ s.wi; omega)
          clear hs' HN' HI
          go_wp2
          go_quiet (fail)
          go_wp2
          go_ret
          exact ⟨by rw [decide_eq_false no]; rfl, below_drewN hb' _⟩
        · have d0 : decide (s.wi < 1) = false := decide_eq_false h0
          by_cases h1 : 8 < s.wi
          · have d1 : decide (8 < s.wi) = true := decide_eq_true h1
            have no : ¬ InB s := fun h => absurd (InK.of h 1 (by decide)).2 (by show ¬ s.wi ≤ (8 : Int); omega)
            clear hs' HN' HI
            go_wp2
            go_quiet (fail)
            go_wp2
            go_ret
            exact ⟨by rw [decide_eq_false no]; rfl, below_drewN hb' _⟩
          · have d1 : decide (8 < s.wi) = false := decide_eq_false h1
            have HJ : Hid (InK s 2) := HI.out.succ (by show (1 : Int) ≤ s.wi; omega) (by show s.wi ≤ (8 : Int); omega)
            clear HI
            go_wp2
            go_quiet (fail)
            go_wp2
            go_roundw
            case rel => exact ⟨2, by omega, rfl, HJ.out, below_drewN hb' _, hs', HN'.out⟩
            case measure => simp [intOf]
      · have hx : (wr.alloc (.cells #[.int .i64 1, .int .i64 8] 206)).cell? ⟨w1.heap.size, 2, none⟩ = some (.int .i64 s.pl) := ((newBox wr (.cells #[.int .i64 1, .int .i64 8] 206)).cell (p := ⟨w1.heap.size, 2, none⟩) hs).trans (HN.out 2 (by decide))
        have hb' : Below w.heap.size w (wr.alloc (.cells #[.int .i64 1, .int .i64 8] 206)) := hb.trans ((newBox wr _).mono hb.size)
        have hs' : w1.heap.size < (wr.alloc (.cells #[.int .i64 1, .int .i64 8] 206)).heap.size := Nat.lt_of_lt_of_le hs (newBox wr _).size
        have HN' : Hid (∀ i, i < 8 → (wr.alloc (.cells #[.int .i64 1, .int .i64 8] 206)).cell? ⟨w1.heap.size, i, none⟩ = some (.int .i64 (s.nums.getD i 0))) := BNums.later HN.out (newBox wr _) hs
        by_cases h0 : s.pl < 1
        · have d0 : decide (s.pl < 1) = true := decide_eq_true h0
          have no : ¬ InB s := fun h => absurd (InK.of h 2 (by decide)).1 (by show ¬ (1 : Int) ≤ s.pl; omega)
          clear hs' HN' HI
          go_wp2
          go_quiet (fail)
          go_wp2
          go_ret
          exact ⟨by rw [decide_eq_false no]; rfl, below_drewN hb' _⟩
        · have d0 : decide (s.pl < 1) = false := decide_eq_false h0
          by_cases h1 : 8 < s.pl
          · have d1 : decide (8 < s.pl) = true := decide_eq_true h1
            have no : ¬ InB s := fun h => absurd (InK.of h 2 (by decide)).2 (by show ¬ s.pl ≤ (8 : Int); omega)
            clear hs' HN' HI
            go_wp2
            go_quiet (fail)
            go_wp2
            go_ret
            exact ⟨by rw [decide_eq_false no]; rfl, below_drewN hb' _⟩
          · have d1 : decide (8 < s.pl) = false := decide_eq_false h1
            have HJ : Hid (InK s 3) := HI.out.succ (by show (1 : Int) ≤ s.pl; omega) (by show s.pl ≤ (8 : Int); omega)
            clear HI
            go_wp2
            go_quiet (fail)
            go_wp2
            go_roundw
            case rel => exact ⟨3, by omega, rfl, HJ.out, below_drewN hb' _, hs', HN'.out⟩
            case measure => simp [intOf]
      · have hx : (wr.alloc (.cells #[.int .i64 1, .int .i64 64] 206)).cell? ⟨w1.heap.size, 3, none⟩ = some (.int .i64 s.ca) := ((newBox wr (.cells #[.int .i64 1, .int .i64 64] 206)).cell (p := ⟨w1.heap.size, 3, none⟩) hs).trans (HN.out 3 (by decide))
        have hb' : Below w.heap.size w (wr.alloc (.cells #[.int .i64 1, .int .i64 64] 206)) := hb.trans ((newBox wr _).mono hb.size)
        have hs' : w1.heap.size < (wr.alloc (.cells #[.int .i64 1, .int .i64 64] 206)).heap.size := Nat.lt_of_lt_of_le hs (newBox wr _).size
        have HN' : Hid (∀ i, i < 8 → (wr.alloc (.cells #[.int .i64 1, .int .i64 64] 206)).cell? ⟨w1.heap.size, i, none⟩ = some (.int .i64 (s.nums.getD i 0))) := BNums.later HN.out (newBox wr _) hs
        by_cases h0 : s.ca < 1
        · have d0 : decide (s.ca < 1) = true := decide_eq_true h0
          have no : ¬ InB s := fun h => absurd (InK.of h 3 (by decide)).1 (by show ¬ (1 : Int) ≤ s.ca; omega)
          clear hs' HN' HI
          go_wp2
          go_quiet (fail)
          go_wp2
          go_ret
          exact ⟨by rw [decide_eq_false no]; rfl, below_drewN hb' _⟩
        · have d0 : decide (s.ca < 1) = false := decide_eq_false h0
          by_cases h1 : 64 < s.ca
          · have d1 : decide (64 < s.ca) = true := decide_eq_true h1
            have no : ¬ InB s := fun h => absurd (InK.of h 3 (by decide)).2 (by show ¬ s.ca ≤ (64 : Int); omega)
            clear hs' HN' HI
            go_wp2
            go_quiet (fail)
            go_wp2
            go_ret
            exact ⟨by rw [decide_eq_false no]; rfl, below_drewN hb' _⟩
          · have d1 : decide (64 < s.ca) = false := decide_eq_false h1
            have HJ : Hid (InK s 4) := HI.out.succ (by show (1 : Int) ≤ s.ca; omega) (by show s.ca ≤ (64 : Int); omega)
            clear HI
            go_wp2
            go_quiet (fail)
            go_wp2
            go_roundw
            case rel => exact ⟨4, by omega, rfl, HJ.out, below_drewN hb' _, hs', HN'.out⟩
            case measure => simp [intOf]
      · have hx : (wr.alloc (.cells #[.int .i64 2, .int .i64 256] 206)).cell? ⟨w1.heap.size, 4, none⟩ = some (.int .i64 s.ino) := ((newBox wr (.cells #[.int .i64 2, .int .i64 256] 206)).cell (p := ⟨w1.heap.size, 4, none⟩) hs).trans (HN.out 4 (by decide))
        have hb' : Below w.heap.size w (wr.alloc (.cells #[.int .i64 2, .int .i64 256] 206)) := hb.trans ((newBox wr _).mono hb.size)
        have hs' : w1.heap.size < (wr.alloc (.cells #[.int .i64 2, .int .i64 256] 206)).heap.size := Nat.lt_of_lt_of_le hs (newBox wr _).size
        have HN' : Hid (∀ i, i < 8 → (wr.alloc (.cells #[.int .i64 2, .int .i64 256] 206)).cell? ⟨w1.heap.size, i, none⟩ = some (.int .i64 (s.nums.getD i 0))) := BNums.later HN.out (newBox wr _) hs
        by_cases h0 : s.ino < 2
        · have d0 : decide (s.ino < 2) = true := decide_eq_true h0
          have no : ¬ InB s := fun h => absurd (InK.of h 4 (by decide)).1 (by show ¬ (2 : Int) ≤ s.ino; omega)
          clear hs' HN' HI
          go_wp2
          go_quiet (fail)
          go_wp2
          go_ret
          exact ⟨by rw [decide_eq_false no]; rfl, below_drewN hb' _⟩
        · have d0 : decide (s.ino < 2) = false := decide_eq_false h0
          by_cases h1 : 256 < s.ino
          · have d1 : decide (256 < s.ino) = true := decide_eq_true h1
            have no : ¬ InB s := fun h => absurd (InK.of h 4 (by decide)).2 (by show ¬ s.ino ≤ (256 : Int); omega)
            clear hs' HN' HI
            go_wp2
            go_quiet (fail)
            go_wp2
            go_ret
            exact ⟨by rw [decide_eq_false no]; rfl, below_drewN hb' _⟩
          · have d1 : decide (256 < s.ino) = false := decide_eq_false h1
            have HJ : Hid (InK s 5) := HI.out.succ (by show (2 : Int) ≤ s.ino; omega) (by show s.ino ≤ (256 : Int); omega)
            clear HI
            go_wp2
            go_quiet (fail)
            go_wp2
            go_roundw
            case rel => exact ⟨5, by omega, rfl, HJ.out, below_drewN hb' _, hs', HN'.out⟩
            case measure => simp [intOf]
      · have hx : (wr.alloc (.cells #[.int .i64 0, .int .i64 524288] 206)).cell? ⟨w1.heap.size, 5, none⟩ = some (.int .i64 s.qu) := ((newBox wr (.cells #[.int .i64 0, .int .i64 524288] 206)).cell (p := ⟨w1.heap.size, 5, none⟩) hs).trans (HN.out 5 (by decide))
        have hb' : Below w.heap.size w (wr.alloc (.cells #[.int .i64 0, .int .i64 524288] 206)) := hb.trans ((newBox wr _).mono hb.size)
        have hs' : w1.heap.size < (wr.alloc (.cells #[.int .i64 0, .int .i64 524288] 206)).heap.size := Nat.lt_of_lt_of_le hs (newBox wr _).size
        have HN' : Hid (∀ i, i < 8 → (wr.alloc (.cells #[.int .i64 0, .int .i64 524288] 206)).cell? ⟨w1.heap.size, i, none⟩ = some (.int .i64 (s.nums.getD i 0))) := BNums.later HN.out (newBox wr _) hs
        by_cases h0 : s.qu < 0
        · have d0 : decide (s.qu < 0) = true := decide_eq_true h0
          have no : ¬ InB s := fun h => absurd (InK.of h 5 (by decide)).1 (by show ¬ (0 : Int) ≤ s.qu; omega)
          clear hs' HN' HI
          go_wp2
          go_quiet (fail)
          go_wp2
          go_ret
          exact ⟨by rw [decide_eq_false no]; rfl, below_drewN hb' _⟩
        · have d0 : decide (s.qu < 0) = false := decide_eq_false h0
          by_cases h1 : 524288 < s.qu
          · have d1 : decide (524288 < s.qu) = true := decide_eq_true h1
            have no : ¬ InB s := fun h => absurd (InK.of h 5 (by decide)).2 (by show ¬ s.qu ≤ (524288 : Int); omega)
            clear hs' HN' HI
            go_wp2
            go_quiet (fail)
            go_wp2
            go_ret
            exact ⟨by rw [decide_eq_false no]; rfl, below_drewN hb' _⟩
          · have d1 : decide (524288 < s.qu) = false := decide_eq_false h1
            have HJ : Hid (InK s 6) := HI.out.succ (by show (0 : Int) ≤ s.qu; omega) (by show s.qu ≤ (524288 : Int); omega)
            clear HI
            go_wp2
            go_quiet (fail)
            go_wp2
            go_roundw
            case rel => exact ⟨6, by omega, rfl, HJ.out, below_drewN hb' _, hs', HN'.out⟩
            case measure => simp [intOf]
      · have hx : (wr.alloc (.cells #[.int .i64 1, .int .i64 4096] 206)).cell? ⟨w1.heap.size, 6, none⟩ = some (.int .i64 s.da) := ((newBox wr (.cells #[.int .i64 1, .int .i64 4096] 206)).cell (p := ⟨w1.heap.size, 6, none⟩) hs).trans (HN.out 6 (by decide))
        have hb' : Below w.heap.size w (wr.alloc (.cells #[.int .i64 1, .int .i64 4096] 206)) := hb.trans ((newBox wr _).mono hb.size)
        have hs' : w1.heap.size < (wr.alloc (.cells #[.int .i64 1, .int .i64 4096] 206)).heap.size := Nat.lt_of_lt_of_le hs (newBox wr _).size
        have HN' : Hid (∀ i, i < 8 → (wr.alloc (.cells #[.int .i64 1, .int .i64 4096] 206)).cell? ⟨w1.heap.size, i, none⟩ = some (.int .i64 (s.nums.getD i 0))) := BNums.later HN.out (newBox wr _) hs
        by_cases h0 : s.da < 1
        · have d0 : decide (s.da < 1) = true := decide_eq_true h0
          have no : ¬ InB s := fun h => absurd (InK.of h 6 (by decide)).1 (by show ¬ (1 : Int) ≤ s.da; omega)
          clear hs' HN' HI
          go_wp2
          go_quiet (fail)
          go_wp2
          go_ret
          exact ⟨by rw [decide_eq_false no]; rfl, below_drewN hb' _⟩
        · have d0 : decide (s.da < 1) = false := decide_eq_false h0
          by_cases h1 : 4096 < s.da
          · have d1 : decide (4096 < s.da) = true := decide_eq_true h1
            have no : ¬ InB s := fun h => absurd (InK.of h 6 (by decide)).2 (by show ¬ s.da ≤ (4096 : Int); omega)
            clear hs' HN' HI
            go_wp2
            go_quiet (fail)
            go_wp2
            go_ret
            exact ⟨by rw [decide_eq_false no]; rfl, below_drewN hb' _⟩
          · have d1 : decide (4096 < s.da) = false := decide_eq_false h1
            have HJ : Hid (InK s 7) := HI.out.succ (by show (1 : Int) ≤ s.da; omega) (by show s.da ≤ (4096 : Int); omega)
            clear HI
            go_wp2
            go_quiet (fail)
            go_wp2
            go_roundw
            case rel => exact ⟨7, by omega, rfl, HJ.out, below_drewN hb' _, hs', HN'.out⟩
            case measure => simp [intOf]
      · have hx : (wr.alloc (.cells #[.int .i64 27, .int .i64 512] 206)).cell? ⟨w1.heap.size, 7, none⟩ = some (.int .i64 s.jo) := ((newBox wr (.cells #[.int .i64 27, .int .i64 512] 206)).cell (p := ⟨w1.heap.size, 7, none⟩) hs).trans (HN.out 7 (by decide))
        have hb' : Below w.heap.size w (wr.alloc (.cells #[.int .i64 27, .int .i64 512] 206)) := hb.trans ((newBox wr _).mono hb.size)
        have hs' : w1.heap.size < (wr.alloc (.cells #[.int .i64 27, .int .i64 512] 206)).heap.size := Nat.lt_of_lt_of_le hs (newBox wr _).size
        have HN' : Hid (∀ i, i < 8 → (wr.alloc (.cells #[.int .i64 27, .int .i64 512] 206)).cell? ⟨w1.heap.size, i, none⟩ = some (.int .i64 (s.nums.getD i 0))) := BNums.later HN.out (newBox wr _) hs
        by_cases h0 : s.jo < 27
        · have d0 : decide (s.jo < 27) = true := decide_eq_true h0
          have no : ¬ InB s := fun h => absurd (InK.of h 7 (by decide)).1 (by show ¬ (27 : Int) ≤ s.jo; omega)
          clear hs' HN' HI
          go_wp2
          go_quiet (fail)
          go_wp2
          go_ret
          exact ⟨by rw [decide_eq_false no]; rfl, below_drewN hb' _⟩
        · have d0 : decide (s.jo < 27) = false := decide_eq_false h0
          by_cases h1 : 512 < s.jo
          · have d1 : decide (512 < s.jo) = true := decide_eq_true h1
            have no : ¬ InB s := fun h => absurd (InK.of h 7 (by decide)).2 (by show ¬ s.jo ≤ (512 : Int); omega)
            clear hs' HN' HI
            go_wp2
            go_quiet (fail)
            go_wp2
            go_ret
            exact ⟨by rw [decide_eq_false no]; rfl, below_drewN hb' _⟩
          · have d1 : decide (512 < s.jo) = false := decide_eq_false h1
            have HJ : Hid (InK s 8) := HI.out.succ (by show (27 : Int) ≤ s.jo; omega) (by show s.jo ≤ (512 : Int); omega)
            clear HI
            go_wp2
            go_quiet (fail)
            go_wp2
            go_roundw
            case rel => exact ⟨8, by omega, rfl, HJ.out, below_drewN hb' _, hs', HN'.out⟩
            case measure => simp [intOf]
    · obtain rfl : k = 8 := by omega
      have yes := hI.all
      clear hI hN
      go_wp2
      go_ret
      exact ⟨by rw [decide_eq_true yes]; rfl, hb⟩
end Go.Proofs.YtfmcbjlagdanjaaGreatDoor
