/- PlanSupers, walked. -/
import Derived.Test.YtgpeefedboomoabDoorP15
import Derived.Test.YtgpeefedboomoabDoorP25
namespace Go.Proofs.YtgpeefedboomoabDoor
open Go.RowKit
set_option maxRecDepth 100000

attribute [local go_sem ↓ 100000] ly_store ly_load
attribute [local go_sem] LyStore.new LyLoad.new LyStore.at LyLoad.at

set_option maxHeartbeats 4000000 in
theorem supers_any (s : Shp) (w : World) (hB : Bds w) : Calls Tryd.prog 5 #[shV s] w fun e w' => e = .returned (.bool true) ∧ Below w.heap.size w w' := by
  have hq := Below.refl w.heap.size w
  go_enter Tryd.func5, Tryd.ntmps5
  have hn := newBox w (.cells #[.int .i64 s.cl, .int .i64 s.wi, .int .i64 s.pl, .int .i64 s.ca, .int .i64 s.ino, .int .i64 s.qu, .int .i64 s.da, .int .i64 s.jo] 33)
  have hS_1 := ShBox.new w s
  have lt_hS_1 : w.heap.size < (w.alloc (.cells #[.int .i64 s.cl, .int .i64 s.wi, .int .i64 s.pl, .int .i64 s.ca, .int .i64 s.ino, .int .i64 s.qu, .int .i64 s.da, .int .i64 s.jo] 33)).heap.size := by simp
  have hB_1 := hB.later hn (Nat.le_refl _)
  have hq_1 := hq.trans (hn.mono hq.size)
  clear hB hq hn
  go_wp2_with fail
  generalize (w.alloc (.cells #[.int .i64 s.cl, .int .i64 s.wi, .int .i64 s.pl, .int .i64 s.ca, .int .i64 s.ino, .int .i64 s.qu, .int .i64 s.da, .int .i64 s.jo] 33)) = w1 at *
  refine (first_any _ hB_1).mono ?_
  rintro e w2 ⟨rfl, hb⟩
  have hB_2 := hB_1.later hb (Nat.le_refl _)
  have hq_2 := hq_1.trans (hb.mono hq_1.size)
  have hS_2 := hS_1.later hb (by first | exact lt_hS_1 | omega)
  have lt_hS_2 := Nat.lt_of_lt_of_le lt_hS_1 hb.size
  clear hB_1 hq_1 hS_1 lt_hS_1 hb
  obtain ⟨a0, a1, a2, a3, a4, a5, a6, a7⟩ := hS_2
  go_wp2_with fail
  have hS_2 := ShBox.mk a0 a1 a2 a3 a4 a5 a6 a7
  clear a0 a1 a2 a3 a4 a5 a6 a7
  refine (super_any s _ hB_2).mono ?_
  rintro e w3 ⟨ao, n, c, rfl, hb, hno, hok⟩
  have hB_3 := hB_2.later hb (Nat.le_refl _)
  have hq_3 := hq_2.trans (hb.mono hq_2.size)
  have hS_3 := hS_2.later hb (by first | exact lt_hS_2 | omega)
  have lt_hS_3 := Nat.lt_of_lt_of_le lt_hS_2 hb.size
  clear hB_2 hq_2 hS_2 lt_hS_2 hb
  by_cases hp : planE s = 0
  case neg =>
    obtain ⟨rfl, rfl, rfl⟩ := hno hp
    clear hno hok
    obtain ⟨a0, a1, a2, a3, a4, a5, a6, a7⟩ := hS_3
    go_wp2_with fail
    have hS_3 := ShBox.mk a0 a1 a2 a3 a4 a5 a6 a7
    clear a0 a1 a2 a3 a4 a5 a6 a7
    refine (rsuper_any s _).mono ?_
    rintro e w4 ⟨bo, m, d, rfl, hb, hno2, hok2⟩
    have hB_4 := hB_3.later hb (Nat.le_refl _)
    have hq_4 := hq_3.trans (hb.mono hq_3.size)
    have hS_4 := hS_3.later hb (by first | exact lt_hS_3 | omega)
    have lt_hS_4 := Nat.lt_of_lt_of_le lt_hS_3 hb.size
    clear hB_3 hq_3 hS_3 lt_hS_3 hb
    obtain ⟨rfl, rfl, rfl⟩ := hno2 hp
    clear hno2 hok2
    go_wp2_with fail
    refine (same_any none none 0 0 0 0 [] [] _ (by omega) (Lies.nil _) (Lies.nil _)).mono ?_
    rintro e w5 ⟨rfl, k, hk⟩
    have hb : Below w4.heap.size w4 w5 := by rw [hk]; exact below_drewN (Below.refl _ _) k
    clear hk
    have hB_5 := hB_4.later hb (Nat.le_refl _)
    have hq_5 := hq_4.trans (hb.mono hq_4.size)
    have hS_5 := hS_4.later hb (by first | exact lt_hS_4 | omega)
    have lt_hS_5 := Nat.lt_of_lt_of_le lt_hS_4 hb.size
    clear hB_4 hq_4 hS_4 lt_hS_4 hb
    rw [decide_eq_true rfl]
    clear hp
    go_wp2_with (go_at_call 13; refine (num_id _ _).mono ?_; rintro e wn ⟨rfl, hwn⟩; subst wn)
    go_ret
    exact ⟨rfl, hq_5⟩
  obtain ⟨rfl, rfl, g, rfl, hg, hr⟩ := hok hp
  clear hno hok hg
  obtain ⟨a0, a1, a2, a3, a4, a5, a6, a7⟩ := hS_3
  go_wp2_with fail
  have hS_3 := ShBox.mk a0 a1 a2 a3 a4 a5 a6 a7
  clear a0 a1 a2 a3 a4 a5 a6 a7
  refine (rsuper_any s _).mono ?_
  rintro e w4 ⟨bo, m, d, rfl, hb, hno2, hok2⟩
  have hB_4 := hB_3.later hb (Nat.le_refl _)
  have hq_4 := hq_3.trans (hb.mono hq_3.size)
  have hS_4 := hS_3.later hb (by first | exact lt_hS_3 | omega)
  have hr_4 := (hb.block _ (lt_of_block hr)).trans hr
  have lt_hS_4 := Nat.lt_of_lt_of_le lt_hS_3 hb.size
  clear hB_3 hq_3 hS_3 lt_hS_3 hr hb
  obtain ⟨rfl, hL2⟩ := hok2 hp
  clear hno2 hok2
  go_wp2_with fail
  refine (same_any (some ⟨g, 0, none⟩) bo 512 512 512 d (superB s) (superB s) _ (by omega) (lies_bl hr_4 (superB_length _)) hL2).mono ?_
  rintro e w5 ⟨rfl, k, hk⟩
  have hb : Below w4.heap.size w4 w5 := by rw [hk]; exact below_drewN (Below.refl _ _) k
  clear hk hL2
  have hB_5 := hB_4.later hb (Nat.le_refl _)
  have hq_5 := hq_4.trans (hb.mono hq_4.size)
  have hS_5 := hS_4.later hb (by first | exact lt_hS_4 | omega)
  have hr_5 := (hb.block _ (lt_of_block hr_4)).trans hr_4
  have lt_hS_5 := Nat.lt_of_lt_of_le lt_hS_4 hb.size
  clear hB_4 hq_4 hS_4 lt_hS_4 hr_4 hb
  rw [decide_eq_true rfl]
  clear hp
  go_wp2_with (go_at_call 13; refine (num_id _ _).mono ?_; rintro e wn ⟨rfl, hwn⟩; subst wn)
  go_ret
  exact ⟨rfl, hq_5⟩
end Go.Proofs.YtgpeefedboomoabDoor
