/- Where by its contract. -/
import Derived.Test.YtgpeefedboomoabDoorP11
namespace Go.Proofs.YtgpeefedboomoabDoor
open Go.RowKit
set_option maxRecDepth 100000

attribute [local go_sem ↓ 100000] ly_store ly_load
attribute [local go_sem] LyStore.new LyStore.drew LyLoad.new LyLoad.drew

/-- Are two layouts the same? -/
def lyEq (a b : Lay) : Bool := decide (a = b)
theorem eq_ly_lit (x0 x1 x2 x3 x4 x5 x6 x7 x8 x9 x10 x11 x12 x13 x14 x15 x16 x17 x18 x19 y0 y1 y2 y3 y4 y5 y6 y7 y8 y9 y10 y11 y12 y13 y14 y15 y16 y17 y18 y19 : Int) (w : World) : (Op.equalIn 10000 40 (.agg #[.int .i64 x0, .int .i64 x1, .int .i64 x2, .int .i64 x3, .int .i64 x4, .int .i64 x5, .int .i64 x6, .int .i64 x7, .int .i64 x8, .int .i64 x9, .int .i64 x10, .int .i64 x11, .int .i64 x12, .int .i64 x13, .int .i64 x14, .int .i64 x15, .int .i64 x16, .int .i64 x17, .int .i64 x18, .int .i64 x19]) (.agg #[.int .i64 y0, .int .i64 y1, .int .i64 y2, .int .i64 y3, .int .i64 y4, .int .i64 y5, .int .i64 y6, .int .i64 y7, .int .i64 y8, .int .i64 y9, .int .i64 y10, .int .i64 y11, .int .i64 y12, .int .i64 y13, .int .i64 y14, .int .i64 y15, .int .i64 y16, .int .i64 y17, .int .i64 y18, .int .i64 y19])).run Tryd.prog w = .ok (lyEq (⟨x0, x1, x2, x3, x4, x5, x6, x7, x8, x9, x10, x11, ⟨x12, x13, x14, x15, x16, x17, x18, x19⟩⟩ : Lay) (⟨y0, y1, y2, y3, y4, y5, y6, y7, y8, y9, y10, y11, ⟨y12, y13, y14, y15, y16, y17, y18, y19⟩⟩ : Lay)) w := eq_ly 9997 (⟨x0, x1, x2, x3, x4, x5, x6, x7, x8, x9, x10, x11, ⟨x12, x13, x14, x15, x16, x17, x18, x19⟩⟩ : Lay) (⟨y0, y1, y2, y3, y4, y5, y6, y7, y8, y9, y10, y11, ⟨y12, y13, y14, y15, y16, y17, y18, y19⟩⟩ : Lay) w
attribute [local go_sem 100000] eq_ly_lit

/-- What Where answers, of a block that is there. -/
def whR (l : Lay) (b : Int) : Int × Int :=
  if l.dt ≤ b then (7, b - l.dt) else if l.ta ≤ b then (6, b - l.ta) else if l.bi ≤ b then (5, b - l.bi) else if l.le ≤ b then (4, b - l.le) else if l.jr ≤ b then (3, b - l.jr) else if l.bo ≤ b then (2, b - l.bo) else (1, b)
/-- What Where answers. -/
def whA (l : Lay) (b : Int) : Int × Int :=
  if planE l.sh ≠ 0 ∨ planL l.sh ≠ l then (0, 0) else if b < 0 ∨ l.to ≤ b then (0, 0) else whR l b

theorem planE_to {s : Shp} (h : planE s = 0) : (layOf s).to ≤ 4096 := by
  unfold planE at h
  by_cases hi : ¬ InB s
  · rw [if_pos hi] at h; omega
  · rw [if_neg hi] at h
    by_cases hc : s.da < leastD s ∨ 4096 < (layOf s).to
    · rw [if_pos hc] at h; omega
    · omega

set_option maxHeartbeats 1000000 in
theorem firstBlocks_any (l : Lay) (w : World) :
    Calls Tryd.prog 25 #[lyV l] w fun e w' => e = .returned (.agg #[.int .i64 0, .int .i64 l.bo, .int .i64 l.jr, .int .i64 l.le, .int .i64 l.bi, .int .i64 l.ta, .int .i64 l.dt]) ∧ Below w.heap.size w w' := by
  go_enter Tryd.func25, Tryd.ntmps25
  go_wp2
  refine bodyPost_ret (results_cell_row rfl _ _ (w.heap.size + 1) 60 _ (0, 0) _ rfl (heap_new2 w _ _) Tryd.underlying60 rfl (by kernel_rfl)) rfl ?_
  exact ⟨rfl, (newBox w _).trans ((newBox _ _).mono (by simp))⟩

set_option maxHeartbeats 4000000 in
theorem where_any (l : Lay) (b : Int) (w : World) (hB : Bds w) (_hb0 : -9223372036854775808 ≤ b) (hb1 : b ≤ 9223372036854775807) :
    Calls Tryd.prog 14 #[lyV l, .int .i64 b] w fun e w' => e = .returned (.tuple #[.int .i64 (whA l b).1, .int .i64 (whA l b).2]) ∧ Below w.heap.size w w' := by
  have hn0 := newBox w (.cells #[.int .i64 l.bo, .int .i64 l.jr, .int .i64 l.jl, .int .i64 l.le, .int .i64 l.ll, .int .i64 l.bi, .int .i64 l.bl, .int .i64 l.ta, .int .i64 l.tl, .int .i64 l.dt, .int .i64 l.dl, .int .i64 l.to, .int .i64 l.sh.cl, .int .i64 l.sh.wi, .int .i64 l.sh.pl, .int .i64 l.sh.ca, .int .i64 l.sh.ino, .int .i64 l.sh.qu, .int .i64 l.sh.da, .int .i64 l.sh.jo] 40)
  have hr0 : (w.alloc (.cells #[.int .i64 l.bo, .int .i64 l.jr, .int .i64 l.jl, .int .i64 l.le, .int .i64 l.ll, .int .i64 l.bi, .int .i64 l.bl, .int .i64 l.ta, .int .i64 l.tl, .int .i64 l.dt, .int .i64 l.dl, .int .i64 l.to, .int .i64 l.sh.cl, .int .i64 l.sh.wi, .int .i64 l.sh.pl, .int .i64 l.sh.ca, .int .i64 l.sh.ino, .int .i64 l.sh.qu, .int .i64 l.sh.da, .int .i64 l.sh.jo] 40)).heap[w.heap.size]? = some (.cells #[.int .i64 l.bo, .int .i64 l.jr, .int .i64 l.jl, .int .i64 l.le, .int .i64 l.ll, .int .i64 l.bi, .int .i64 l.bl, .int .i64 l.ta, .int .i64 l.tl, .int .i64 l.dt, .int .i64 l.dl, .int .i64 l.to, .int .i64 l.sh.cl, .int .i64 l.sh.wi, .int .i64 l.sh.pl, .int .i64 l.sh.ca, .int .i64 l.sh.ino, .int .i64 l.sh.qu, .int .i64 l.sh.da, .int .i64 l.sh.jo] 40 (0, 0)) := heap_alloc_last w _
  have hD0 := hB.later hn0 (Nat.le_refl _)
  go_enter Tryd.func14, Tryd.ntmps14
  go_wp2_with fail
  generalize (w.alloc (.cells #[.int .i64 l.bo, .int .i64 l.jr, .int .i64 l.jl, .int .i64 l.le, .int .i64 l.ll, .int .i64 l.bi, .int .i64 l.bl, .int .i64 l.ta, .int .i64 l.tl, .int .i64 l.dt, .int .i64 l.dl, .int .i64 l.to, .int .i64 l.sh.cl, .int .i64 l.sh.wi, .int .i64 l.sh.pl, .int .i64 l.sh.ca, .int .i64 l.sh.ino, .int .i64 l.sh.qu, .int .i64 l.sh.da, .int .i64 l.sh.jo] 40)) = w0 at *
  refine (plan_any l.sh _ hD0).mono ?_
  rintro e w1 ⟨rfl, hn1⟩
  have hr1 := (hn1.block _ (lt_of_block hr0)).trans hr0
  have hq1 := hn0.trans (hn1.mono hn0.size)
  clear hn0 hn1 hr0 hD0 hB
  have hn := newBox w1 (.cells #[.int .i64 (planL l.sh).bo, .int .i64 (planL l.sh).jr, .int .i64 (planL l.sh).jl, .int .i64 (planL l.sh).le, .int .i64 (planL l.sh).ll, .int .i64 (planL l.sh).bi, .int .i64 (planL l.sh).bl, .int .i64 (planL l.sh).ta, .int .i64 (planL l.sh).tl, .int .i64 (planL l.sh).dt, .int .i64 (planL l.sh).dl, .int .i64 (planL l.sh).to, .int .i64 (planL l.sh).sh.cl, .int .i64 (planL l.sh).sh.wi, .int .i64 (planL l.sh).sh.pl, .int .i64 (planL l.sh).sh.ca, .int .i64 (planL l.sh).sh.ino, .int .i64 (planL l.sh).sh.qu, .int .i64 (planL l.sh).sh.da, .int .i64 (planL l.sh).sh.jo] 40)
  have hr2 := (hn.block _ (lt_of_block hr1)).trans hr1
  have hq2 := hq1.trans (hn.mono hq1.size)
  have hld := LyLoad.row hr2 rfl
  by_cases hp : planE l.sh = 0
  case neg =>
    have hx : (planE l.sh != 0) = true := by simpa using hp
    have e : whA l b = (0, 0) := by unfold whA; rw [if_pos (Or.inl hp)]
    have HE : Hid (whA l b = (0, 0)) := e
    clear hp e hr1 hr2 hld
    go_wp2_with fail
    go_ret2
    exact ⟨by rw [HE.out]; rfl, hq2⟩
  have hx : (planE l.sh != 0) = false := by simp [hp]
  by_cases hl : planL l.sh = l
  case neg =>
    have hd : lyEq (planL l.sh) l = false := decide_eq_false hl
    have hd2 : lyEq ⟨(planL l.sh).bo, (planL l.sh).jr, (planL l.sh).jl, (planL l.sh).le, (planL l.sh).ll, (planL l.sh).bi, (planL l.sh).bl, (planL l.sh).ta, (planL l.sh).tl, (planL l.sh).dt, (planL l.sh).dl, (planL l.sh).to, ⟨(planL l.sh).sh.cl, (planL l.sh).sh.wi, (planL l.sh).sh.pl, (planL l.sh).sh.ca, (planL l.sh).sh.ino, (planL l.sh).sh.qu, (planL l.sh).sh.da, (planL l.sh).sh.jo⟩⟩ ⟨l.bo, l.jr, l.jl, l.le, l.ll, l.bi, l.bl, l.ta, l.tl, l.dt, l.dl, l.to, ⟨l.sh.cl, l.sh.wi, l.sh.pl, l.sh.ca, l.sh.ino, l.sh.qu, l.sh.da, l.sh.jo⟩⟩ = false := hd
    have e : whA l b = (0, 0) := by unfold whA; rw [if_pos (Or.inr hl)]
    have HE : Hid (whA l b = (0, 0)) := e
    clear e hp hl
    go_wp2_with fail
    go_ret2
    exact ⟨by rw [HE.out]; rfl, hq2⟩
  have hd : lyEq (planL l.sh) l = true := decide_eq_true hl
  have hd2 : lyEq ⟨(planL l.sh).bo, (planL l.sh).jr, (planL l.sh).jl, (planL l.sh).le, (planL l.sh).ll, (planL l.sh).bi, (planL l.sh).bl, (planL l.sh).ta, (planL l.sh).tl, (planL l.sh).dt, (planL l.sh).dl, (planL l.sh).to, ⟨(planL l.sh).sh.cl, (planL l.sh).sh.wi, (planL l.sh).sh.pl, (planL l.sh).sh.ca, (planL l.sh).sh.ino, (planL l.sh).sh.qu, (planL l.sh).sh.da, (planL l.sh).sh.jo⟩⟩ ⟨l.bo, l.jr, l.jl, l.le, l.ll, l.bi, l.bl, l.ta, l.tl, l.dt, l.dl, l.to, ⟨l.sh.cl, l.sh.wi, l.sh.pl, l.sh.ca, l.sh.ino, l.sh.qu, l.sh.da, l.sh.jo⟩⟩ = true := hd
  have HW : Hid (whA l b = if b < 0 ∨ l.to ≤ b then (0, 0) else whR l b) := by show _ = _; unfold whA; rw [if_neg (fun h => h.elim (fun h => h hp) (fun h => h hl))]
  have hi := planE_in hp
  have hle : l = layOf l.sh := by unfold planL at hl; rw [if_pos hp] at hl; exact hl.symm
  have hto := planE_to hp
  have bnd : Hid (0 ≤ l.bo ∧ l.bo ≤ l.jr ∧ l.jr ≤ l.le ∧ l.le ≤ l.bi ∧ l.bi ≤ l.ta ∧ l.ta ≤ l.dt ∧ l.dt ≤ l.to ∧ l.to ≤ 4096) := by
    have j0 := hi.jo0
    have c0 := hi.ca0
    have i0 := hi.ino0
    have d0 := hi.da0
    have hh : 0 ≤ (layOf l.sh).bo ∧ (layOf l.sh).bo ≤ (layOf l.sh).jr ∧ (layOf l.sh).jr ≤ (layOf l.sh).le ∧ (layOf l.sh).le ≤ (layOf l.sh).bi ∧ (layOf l.sh).bi ≤ (layOf l.sh).ta ∧ (layOf l.sh).ta ≤ (layOf l.sh).dt ∧ (layOf l.sh).dt ≤ (layOf l.sh).to ∧ (layOf l.sh).to ≤ 4096 := by
      simp only [layOf] at hto ⊢
      refine ⟨by omega, by omega, by omega, by omega, by omega, by omega, by omega, by omega⟩
    rw [← hle] at hh
    exact hh
  clear hp hl hi hle hto
  obtain ⟨n1, n2, n3, n4, n5, n6, n7, n8⟩ := bnd.out
  clear bnd
  have cT : (w1.alloc (.cells #[.int .i64 (planL l.sh).bo, .int .i64 (planL l.sh).jr, .int .i64 (planL l.sh).jl, .int .i64 (planL l.sh).le, .int .i64 (planL l.sh).ll, .int .i64 (planL l.sh).bi, .int .i64 (planL l.sh).bl, .int .i64 (planL l.sh).ta, .int .i64 (planL l.sh).tl, .int .i64 (planL l.sh).dt, .int .i64 (planL l.sh).dl, .int .i64 (planL l.sh).to, .int .i64 (planL l.sh).sh.cl, .int .i64 (planL l.sh).sh.wi, .int .i64 (planL l.sh).sh.pl, .int .i64 (planL l.sh).sh.ca, .int .i64 (planL l.sh).sh.ino, .int .i64 (planL l.sh).sh.qu, .int .i64 (planL l.sh).sh.da, .int .i64 (planL l.sh).sh.jo] 40)).cell? ⟨w.heap.size, 11, none⟩ = some (.int .i64 l.to) := by simp only [World.cell?, hr2]; rfl
  by_cases hb : b < 0
  · have d0 : decide (b < 0) = true := decide_eq_true hb
    have HE : Hid (whA l b = (0, 0)) := by show _ = _; rw [HW.out, if_pos (Or.inl hb)]
    go_wp2_with fail
    go_ret2
    exact ⟨by rw [HE.out]; rfl, hq2⟩
  have d0 : decide (b < 0) = false := decide_eq_false hb
  by_cases ht : l.to ≤ b
  · have d1 : decide (l.to ≤ b) = true := decide_eq_true ht
    have HE : Hid (whA l b = (0, 0)) := by show _ = _; rw [HW.out, if_pos (Or.inr ht)]
    go_wp2_with fail
    go_ret2
    exact ⟨by rw [HE.out]; rfl, hq2⟩
  have d1 : decide (l.to ≤ b) = false := decide_eq_false ht
  have HE : Hid (whA l b = whR l b) := by show _ = _; rw [HW.out, if_neg (by omega)]
  clear HW
  go_wp2_with fail
  refine (firstBlocks_any l _).mono ?_
  rintro e w3 ⟨rfl, hn3⟩
  have hq3 := hq2.trans (hn3.mono hq2.size)
  have hq4 := hq3.trans ((newBox w3 (.cells #[.int .i64 0, .int .i64 l.bo, .int .i64 l.jr, .int .i64 l.le, .int .i64 l.bi, .int .i64 l.ta, .int .i64 l.dt] 60)).mono hq3.size)
  have f0 : (w3.alloc (.cells #[.int .i64 0, .int .i64 l.bo, .int .i64 l.jr, .int .i64 l.le, .int .i64 l.bi, .int .i64 l.ta, .int .i64 l.dt] 60)).cell? ⟨w3.heap.size, 0, none⟩ = some (.int .i64 0) := by simp [go_sem]
  have f1 : (w3.alloc (.cells #[.int .i64 0, .int .i64 l.bo, .int .i64 l.jr, .int .i64 l.le, .int .i64 l.bi, .int .i64 l.ta, .int .i64 l.dt] 60)).cell? ⟨w3.heap.size, 1, none⟩ = some (.int .i64 l.bo) := by simp [go_sem]
  have f2 : (w3.alloc (.cells #[.int .i64 0, .int .i64 l.bo, .int .i64 l.jr, .int .i64 l.le, .int .i64 l.bi, .int .i64 l.ta, .int .i64 l.dt] 60)).cell? ⟨w3.heap.size, 2, none⟩ = some (.int .i64 l.jr) := by simp [go_sem]
  have f3 : (w3.alloc (.cells #[.int .i64 0, .int .i64 l.bo, .int .i64 l.jr, .int .i64 l.le, .int .i64 l.bi, .int .i64 l.ta, .int .i64 l.dt] 60)).cell? ⟨w3.heap.size, 3, none⟩ = some (.int .i64 l.le) := by simp [go_sem]
  have f4 : (w3.alloc (.cells #[.int .i64 0, .int .i64 l.bo, .int .i64 l.jr, .int .i64 l.le, .int .i64 l.bi, .int .i64 l.ta, .int .i64 l.dt] 60)).cell? ⟨w3.heap.size, 4, none⟩ = some (.int .i64 l.bi) := by simp [go_sem]
  have f5 : (w3.alloc (.cells #[.int .i64 0, .int .i64 l.bo, .int .i64 l.jr, .int .i64 l.le, .int .i64 l.bi, .int .i64 l.ta, .int .i64 l.dt] 60)).cell? ⟨w3.heap.size, 5, none⟩ = some (.int .i64 l.ta) := by simp [go_sem]
  have f6 : (w3.alloc (.cells #[.int .i64 0, .int .i64 l.bo, .int .i64 l.jr, .int .i64 l.le, .int .i64 l.bi, .int .i64 l.ta, .int .i64 l.dt] 60)).cell? ⟨w3.heap.size, 6, none⟩ = some (.int .i64 l.dt) := by simp [go_sem]
  clear hr1 hr2 hld hq1 hq2 hn hn3 hq3 cT hd hd2 hx d0 d1
  go_wp2_with fail
  generalize w3.alloc (.cells #[.int .i64 0, .int .i64 l.bo, .int .i64 l.jr, .int .i64 l.le, .int .i64 l.bi, .int .i64 l.ta, .int .i64 l.dt] 60) = wx at *
  go_loopw [9] (fun v wr => ∃ r : Nat, 1 ≤ r ∧ r ≤ 7 ∧ v = .int .i64 r ∧ wr = wx ∧ ∀ j, r ≤ j → j < 7 → b < [0, l.bo, l.jr, l.le, l.bi, l.ta, l.dt].getD j 0) (fun v _ => (intOf v).toNat)
  case atStart => exact ⟨7, by omega, by omega, rfl, rfl, fun j h1 h2 => absurd h2 (by omega)⟩
  case round =>
    obtain ⟨r, hr0, hr7, rfl, rfl, hI⟩ := hrel
    have HI : Hid (∀ j, r ≤ j → j < 7 → b < [0, l.bo, l.jr, l.le, l.bi, l.ta, l.dt].getD j 0) := hI
    clear hI
    obtain rfl | rfl | rfl | rfl | rfl | rfl | rfl : r = 7 ∨ r = 6 ∨ r = 5 ∨ r = 4 ∨ r = 3 ∨ r = 2 ∨ r = 1 := by omega
    · by_cases hc : b < l.dt
      · have HJ : Hid (∀ j, 6 ≤ j → j < 7 → b < [0, l.bo, l.jr, l.le, l.bi, l.ta, l.dt].getD j 0) := fun j h1 h2 => by
          by_cases e : j = 6
          · subst e; exact hc
          · exact HI.out j (by omega) h2
        clear HI
        go_wp2_with fail
        go_roundw
        case rel => exact ⟨6, by omega, by omega, rfl, by first | rfl | trivial, HJ.out⟩
        case measure => simp [intOf]
      · have HR : Hid (whR l b = (7, b - l.dt)) := by
          show _ = _

          unfold whR
          repeat (first | rw [if_neg (by omega)] | rw [if_pos (by omega)])
        clear HI
        go_wp2_with fail
        go_quiet (fail)
        go_wp2_with fail
        go_ret2
        exact ⟨by rw [HE.out, HR.out]; rfl, below_drewN hq4 _⟩
    · by_cases hc : b < l.ta
      · have HJ : Hid (∀ j, 5 ≤ j → j < 7 → b < [0, l.bo, l.jr, l.le, l.bi, l.ta, l.dt].getD j 0) := fun j h1 h2 => by
          by_cases e : j = 5
          · subst e; exact hc
          · exact HI.out j (by omega) h2
        clear HI
        go_wp2_with fail
        go_roundw
        case rel => exact ⟨5, by omega, by omega, rfl, by first | rfl | trivial, HJ.out⟩
        case measure => simp [intOf]
      · have HR : Hid (whR l b = (6, b - l.ta)) := by
          show _ = _
          have u6 : b < l.dt := HI.out 6 (by omega) (by omega)
          unfold whR
          repeat (first | rw [if_neg (by omega)] | rw [if_pos (by omega)])
        clear HI
        go_wp2_with fail
        go_quiet (fail)
        go_wp2_with fail
        go_ret2
        exact ⟨by rw [HE.out, HR.out]; rfl, below_drewN hq4 _⟩
    · by_cases hc : b < l.bi
      · have HJ : Hid (∀ j, 4 ≤ j → j < 7 → b < [0, l.bo, l.jr, l.le, l.bi, l.ta, l.dt].getD j 0) := fun j h1 h2 => by
          by_cases e : j = 4
          · subst e; exact hc
          · exact HI.out j (by omega) h2
        clear HI
        go_wp2_with fail
        go_roundw
        case rel => exact ⟨4, by omega, by omega, rfl, by first | rfl | trivial, HJ.out⟩
        case measure => simp [intOf]
      · have HR : Hid (whR l b = (5, b - l.bi)) := by
          show _ = _
          have u5 : b < l.ta := HI.out 5 (by omega) (by omega)
          have u6 : b < l.dt := HI.out 6 (by omega) (by omega)
          unfold whR
          repeat (first | rw [if_neg (by omega)] | rw [if_pos (by omega)])
        clear HI
        go_wp2_with fail
        go_quiet (fail)
        go_wp2_with fail
        go_ret2
        exact ⟨by rw [HE.out, HR.out]; rfl, below_drewN hq4 _⟩
    · by_cases hc : b < l.le
      · have HJ : Hid (∀ j, 3 ≤ j → j < 7 → b < [0, l.bo, l.jr, l.le, l.bi, l.ta, l.dt].getD j 0) := fun j h1 h2 => by
          by_cases e : j = 3
          · subst e; exact hc
          · exact HI.out j (by omega) h2
        clear HI
        go_wp2_with fail
        go_roundw
        case rel => exact ⟨3, by omega, by omega, rfl, by first | rfl | trivial, HJ.out⟩
        case measure => simp [intOf]
      · have HR : Hid (whR l b = (4, b - l.le)) := by
          show _ = _
          have u4 : b < l.bi := HI.out 4 (by omega) (by omega)
          have u5 : b < l.ta := HI.out 5 (by omega) (by omega)
          have u6 : b < l.dt := HI.out 6 (by omega) (by omega)
          unfold whR
          repeat (first | rw [if_neg (by omega)] | rw [if_pos (by omega)])
        clear HI
        go_wp2_with fail
        go_quiet (fail)
        go_wp2_with fail
        go_ret2
        exact ⟨by rw [HE.out, HR.out]; rfl, below_drewN hq4 _⟩
    · by_cases hc : b < l.jr
      · have HJ : Hid (∀ j, 2 ≤ j → j < 7 → b < [0, l.bo, l.jr, l.le, l.bi, l.ta, l.dt].getD j 0) := fun j h1 h2 => by
          by_cases e : j = 2
          · subst e; exact hc
          · exact HI.out j (by omega) h2
        clear HI
        go_wp2_with fail
        go_roundw
        case rel => exact ⟨2, by omega, by omega, rfl, by first | rfl | trivial, HJ.out⟩
        case measure => simp [intOf]
      · have HR : Hid (whR l b = (3, b - l.jr)) := by
          show _ = _
          have u3 : b < l.le := HI.out 3 (by omega) (by omega)
          have u4 : b < l.bi := HI.out 4 (by omega) (by omega)
          have u5 : b < l.ta := HI.out 5 (by omega) (by omega)
          have u6 : b < l.dt := HI.out 6 (by omega) (by omega)
          unfold whR
          repeat (first | rw [if_neg (by omega)] | rw [if_pos (by omega)])
        clear HI
        go_wp2_with fail
        go_quiet (fail)
        go_wp2_with fail
        go_ret2
        exact ⟨by rw [HE.out, HR.out]; rfl, below_drewN hq4 _⟩
    · by_cases hc : b < l.bo
      · have HJ : Hid (∀ j, 1 ≤ j → j < 7 → b < [0, l.bo, l.jr, l.le, l.bi, l.ta, l.dt].getD j 0) := fun j h1 h2 => by
          by_cases e : j = 1
          · subst e; exact hc
          · exact HI.out j (by omega) h2
        clear HI
        go_wp2_with fail
        go_roundw
        case rel => exact ⟨1, by omega, by omega, rfl, by first | rfl | trivial, HJ.out⟩
        case measure => simp [intOf]
      · have HR : Hid (whR l b = (2, b - l.bo)) := by
          show _ = _
          have u2 : b < l.jr := HI.out 2 (by omega) (by omega)
          have u3 : b < l.le := HI.out 3 (by omega) (by omega)
          have u4 : b < l.bi := HI.out 4 (by omega) (by omega)
          have u5 : b < l.ta := HI.out 5 (by omega) (by omega)
          have u6 : b < l.dt := HI.out 6 (by omega) (by omega)
          unfold whR
          repeat (first | rw [if_neg (by omega)] | rw [if_pos (by omega)])
        clear HI
        go_wp2_with fail
        go_quiet (fail)
        go_wp2_with fail
        go_ret2
        exact ⟨by rw [HE.out, HR.out]; rfl, below_drewN hq4 _⟩
    · have HR : Hid (whR l b = (1, b - 0)) := by
        show _ = _
        have u1 : b < l.bo := HI.out 1 (by omega) (by omega)
        have u2 : b < l.jr := HI.out 2 (by omega) (by omega)
        have u3 : b < l.le := HI.out 3 (by omega) (by omega)
        have u4 : b < l.bi := HI.out 4 (by omega) (by omega)
        have u5 : b < l.ta := HI.out 5 (by omega) (by omega)
        have u6 : b < l.dt := HI.out 6 (by omega) (by omega)
        unfold whR
        repeat (first | rw [if_neg (by omega)] | rw [if_pos (by omega)])
        rw [Int.sub_zero]
      clear HI
      go_wp2_with fail
      go_quiet (fail)
      go_wp2_with fail
      go_ret2
      exact ⟨by rw [HE.out, HR.out]; simp, below_drewN hq4 _⟩
end Go.Proofs.YtgpeefedboomoabDoor
