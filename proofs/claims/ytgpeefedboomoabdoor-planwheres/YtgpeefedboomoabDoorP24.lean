/- The document's own Where by its contract. -/
import Derived.Test.YtgpeefedboomoabDoorP19
namespace Go.Proofs.YtgpeefedboomoabDoor
open Go.RowKit
set_option maxRecDepth 100000

attribute [local go_sem ↓ 100000] ly_store ly_load
attribute [local go_sem] LyStore.new LyLoad.new LyStore.at LyLoad.at
theorem sh_mid {w : World} {b : Nat} {l : Lay} (h : w.heap[b]? = some (.cells #[.int .i64 l.bo, .int .i64 l.jr, .int .i64 l.jl, .int .i64 l.le, .int .i64 l.ll, .int .i64 l.bi, .int .i64 l.bl, .int .i64 l.ta, .int .i64 l.tl, .int .i64 l.dt, .int .i64 l.dl, .int .i64 l.to, .int .i64 l.sh.cl, .int .i64 l.sh.wi, .int .i64 l.sh.pl, .int .i64 l.sh.ca, .int .i64 l.sh.ino, .int .i64 l.sh.qu, .int .i64 l.sh.da, .int .i64 l.sh.jo] 40 (0, 0))) : w.cell? ⟨b, 12, none⟩ = some (.int .i64 l.sh.cl) ∧ w.cell? ⟨b, 13, none⟩ = some (.int .i64 l.sh.wi) ∧ w.cell? ⟨b, 14, none⟩ = some (.int .i64 l.sh.pl) ∧ w.cell? ⟨b, 15, none⟩ = some (.int .i64 l.sh.ca) ∧ w.cell? ⟨b, 16, none⟩ = some (.int .i64 l.sh.ino) ∧ w.cell? ⟨b, 17, none⟩ = some (.int .i64 l.sh.qu) ∧ w.cell? ⟨b, 18, none⟩ = some (.int .i64 l.sh.da) ∧ w.cell? ⟨b, 19, none⟩ = some (.int .i64 l.sh.jo) := by
  simp only [World.cell?, h]
  exact ⟨rfl, rfl, rfl, rfl, rfl, rfl, rfl, rfl⟩
theorem wh_ref {s : Shp} {b : Int} {r : Nat} (hr : r ≤ 6) (hI : ∀ j, r < j → j ≤ 6 → b < beg s j) (hc : beg s r ≤ b) (_hb : 0 ≤ b) : whR (layOf s) b = ((r : Int) + 1, b - beg s r) := by
  obtain ⟨g1, g2, g3, g4, g5, g6, _⟩ := begs s
  have g0 : beg s 0 = 0 := rfl
  have f1 : (layOf s).bo = 1 := rfl
  have f2 : (layOf s).jr = 2 := rfl
  unfold whR
  obtain rfl | rfl | rfl | rfl | rfl | rfl | rfl : r = 0 ∨ r = 1 ∨ r = 2 ∨ r = 3 ∨ r = 4 ∨ r = 5 ∨ r = 6 := by omega
  · have u6 := hI 6 (by omega) (by omega)
    have u5 := hI 5 (by omega) (by omega)
    have u4 := hI 4 (by omega) (by omega)
    have u3 := hI 3 (by omega) (by omega)
    have u2 := hI 2 (by omega) (by omega)
    have u1 := hI 1 (by omega) (by omega)
    rw [if_neg (by omega), if_neg (by omega), if_neg (by omega), if_neg (by omega), if_neg (by omega), if_neg (by omega)]
    exact Prod.ext (by simp) (by show _ = _; omega)
  · have u6 := hI 6 (by omega) (by omega)
    have u5 := hI 5 (by omega) (by omega)
    have u4 := hI 4 (by omega) (by omega)
    have u3 := hI 3 (by omega) (by omega)
    have u2 := hI 2 (by omega) (by omega)
    rw [if_neg (by omega), if_neg (by omega), if_neg (by omega), if_neg (by omega), if_neg (by omega), if_pos (by omega)]
    exact Prod.ext (by simp) (by show _ = _; omega)
  · have u6 := hI 6 (by omega) (by omega)
    have u5 := hI 5 (by omega) (by omega)
    have u4 := hI 4 (by omega) (by omega)
    have u3 := hI 3 (by omega) (by omega)
    rw [if_neg (by omega), if_neg (by omega), if_neg (by omega), if_neg (by omega), if_pos (by omega)]
    exact Prod.ext (by simp) (by show _ = _; omega)
  · have u6 := hI 6 (by omega) (by omega)
    have u5 := hI 5 (by omega) (by omega)
    have u4 := hI 4 (by omega) (by omega)
    rw [if_neg (by omega), if_neg (by omega), if_neg (by omega), if_pos (by omega)]
    exact Prod.ext (by simp) (by show _ = _; omega)
  · have u6 := hI 6 (by omega) (by omega)
    have u5 := hI 5 (by omega) (by omega)
    rw [if_neg (by omega), if_neg (by omega), if_pos (by omega)]
    exact Prod.ext (by simp) (by show _ = _; omega)
  · have u6 := hI 6 (by omega) (by omega)
    rw [if_neg (by omega), if_pos (by omega)]
    exact Prod.ext (by simp) (by show _ = _; omega)
  · rw [if_pos (by omega)]
    exact Prod.ext (by simp) (by show _ = _; omega)

set_option maxHeartbeats 8000000 in
theorem rwhere_any (l : Lay) (b : Int) (w : World) (_hb0 : -9223372036854775808 ≤ b) (_hb1 : b ≤ 9223372036854775807) :
    Calls Tryd.prog 15 #[lyV l, .int .i64 b] w fun e w' => e = .returned (.tuple #[.int .i64 (whA l b).1, .int .i64 (whA l b).2]) ∧ Below w.heap.size w w' := by
  have hq := Below.refl w.heap.size w
  go_enter Tryd.func15, Tryd.ntmps15
  have hn := newBox w (.cells #[.int .i64 l.bo, .int .i64 l.jr, .int .i64 l.jl, .int .i64 l.le, .int .i64 l.ll, .int .i64 l.bi, .int .i64 l.bl, .int .i64 l.ta, .int .i64 l.tl, .int .i64 l.dt, .int .i64 l.dl, .int .i64 l.to, .int .i64 l.sh.cl, .int .i64 l.sh.wi, .int .i64 l.sh.pl, .int .i64 l.sh.ca, .int .i64 l.sh.ino, .int .i64 l.sh.qu, .int .i64 l.sh.da, .int .i64 l.sh.jo] 40)
  have hr_1 : (w.alloc (.cells #[.int .i64 l.bo, .int .i64 l.jr, .int .i64 l.jl, .int .i64 l.le, .int .i64 l.ll, .int .i64 l.bi, .int .i64 l.bl, .int .i64 l.ta, .int .i64 l.tl, .int .i64 l.dt, .int .i64 l.dl, .int .i64 l.to, .int .i64 l.sh.cl, .int .i64 l.sh.wi, .int .i64 l.sh.pl, .int .i64 l.sh.ca, .int .i64 l.sh.ino, .int .i64 l.sh.qu, .int .i64 l.sh.da, .int .i64 l.sh.jo] 40)).heap[w.heap.size]? = some (.cells #[.int .i64 l.bo, .int .i64 l.jr, .int .i64 l.jl, .int .i64 l.le, .int .i64 l.ll, .int .i64 l.bi, .int .i64 l.bl, .int .i64 l.ta, .int .i64 l.tl, .int .i64 l.dt, .int .i64 l.dl, .int .i64 l.to, .int .i64 l.sh.cl, .int .i64 l.sh.wi, .int .i64 l.sh.pl, .int .i64 l.sh.ca, .int .i64 l.sh.ino, .int .i64 l.sh.qu, .int .i64 l.sh.da, .int .i64 l.sh.jo] 40 (0, 0)) := heap_alloc_last w _
  have hq_1 := hq.trans (hn.mono hq.size)
  clear hq hn
  go_wp2_with fail
  generalize (w.alloc (.cells #[.int .i64 l.bo, .int .i64 l.jr, .int .i64 l.jl, .int .i64 l.le, .int .i64 l.ll, .int .i64 l.bi, .int .i64 l.bl, .int .i64 l.ta, .int .i64 l.tl, .int .i64 l.dt, .int .i64 l.dl, .int .i64 l.to, .int .i64 l.sh.cl, .int .i64 l.sh.wi, .int .i64 l.sh.pl, .int .i64 l.sh.ca, .int .i64 l.sh.ino, .int .i64 l.sh.qu, .int .i64 l.sh.da, .int .i64 l.sh.jo] 40)) = w1 at *
  refine (rplan_any l.sh _).mono ?_
  rintro e w2 ⟨rfl, hb⟩
  have hq_2 := hq_1.trans (hb.mono hq_1.size)
  have hr_2 := (hb.block _ (lt_of_block hr_1)).trans hr_1
  clear hq_1 hr_1 hb
  have hn := newBox w2 (.cells #[.int .i64 (planL l.sh).bo, .int .i64 (planL l.sh).jr, .int .i64 (planL l.sh).jl, .int .i64 (planL l.sh).le, .int .i64 (planL l.sh).ll, .int .i64 (planL l.sh).bi, .int .i64 (planL l.sh).bl, .int .i64 (planL l.sh).ta, .int .i64 (planL l.sh).tl, .int .i64 (planL l.sh).dt, .int .i64 (planL l.sh).dl, .int .i64 (planL l.sh).to, .int .i64 (planL l.sh).sh.cl, .int .i64 (planL l.sh).sh.wi, .int .i64 (planL l.sh).sh.pl, .int .i64 (planL l.sh).sh.ca, .int .i64 (planL l.sh).sh.ino, .int .i64 (planL l.sh).sh.qu, .int .i64 (planL l.sh).sh.da, .int .i64 (planL l.sh).sh.jo] 40)
  have hq_3 := hq_2.trans (hn.mono hq_2.size)
  have hr_3 := (hn.block _ (lt_of_block hr_2)).trans hr_2
  clear hq_2 hr_2 hn
  have hld := LyLoad.row hr_3 rfl
  go_wp2_with fail
  clear hld
  generalize (w2.alloc (.cells #[.int .i64 (planL l.sh).bo, .int .i64 (planL l.sh).jr, .int .i64 (planL l.sh).jl, .int .i64 (planL l.sh).le, .int .i64 (planL l.sh).ll, .int .i64 (planL l.sh).bi, .int .i64 (planL l.sh).bl, .int .i64 (planL l.sh).ta, .int .i64 (planL l.sh).tl, .int .i64 (planL l.sh).dt, .int .i64 (planL l.sh).dl, .int .i64 (planL l.sh).to, .int .i64 (planL l.sh).sh.cl, .int .i64 (planL l.sh).sh.wi, .int .i64 (planL l.sh).sh.pl, .int .i64 (planL l.sh).sh.ca, .int .i64 (planL l.sh).sh.ino, .int .i64 (planL l.sh).sh.qu, .int .i64 (planL l.sh).sh.da, .int .i64 (planL l.sh).sh.jo] 40)) = w3 at *
  refine (sameLayout_any (planL l.sh) l _).mono ?_
  rintro e w4 ⟨rfl, hb⟩
  have hq_4 := hq_3.trans (hb.mono hq_3.size)
  have hr_4 := (hb.block _ (lt_of_block hr_3)).trans hr_3
  clear hq_3 hr_3 hb
  by_cases hp : planE l.sh = 0
  case neg =>
    have hx : (planE l.sh != 0) = true := by simpa using hp
    have HE : Hid (whA l b = (0, 0)) := by show _ = _; unfold whA; rw [if_pos (Or.inl hp)]
    clear hp
    go_wp2_with fail
    go_ret2
    exact ⟨by rw [HE.out]; rfl, hq_4⟩
  have hx : (planE l.sh != 0) = false := by simp [hp]
  by_cases hl : planL l.sh = l
  case neg =>
    have HE : Hid (whA l b = (0, 0)) := by show _ = _; unfold whA; rw [if_pos (Or.inr hl)]
    rw [decide_eq_false hl]
    clear hl hp
    go_wp2_with fail
    go_ret2
    exact ⟨by rw [HE.out]; rfl, hq_4⟩
  rw [decide_eq_true hl]
  have HW : Hid (whA l b = if b < 0 ∨ l.to ≤ b then (0, 0) else whR l b) := by show _ = _; unfold whA; rw [if_neg (fun h => h.elim (fun h => h hp) (fun h => h hl))]
  have HL : Hid (l = layOf l.sh) := by show _ = _; have h := hl; unfold planL at h; rw [if_pos hp] at h; exact h.symm
  have hin := planE_in hp
  have hto : Hid (l.to ≤ 4096) := by show _ ≤ _; rw [HL.out]; exact planE_to hp
  clear hl hp
  have cT : w4.cell? ⟨w.heap.size, 11, none⟩ = some (.int .i64 l.to) := by simp only [World.cell?, hr_4]; rfl
  by_cases hb0 : b < 0
  · have d0 : decide (b < 0) = true := decide_eq_true hb0
    have HE : Hid (whA l b = (0, 0)) := by show _ = _; rw [HW.out, if_pos (Or.inl hb0)]
    go_wp2_with fail
    go_ret2
    exact ⟨by rw [HE.out]; rfl, hq_4⟩
  have d0 : decide (b < 0) = false := decide_eq_false hb0
  by_cases ht : l.to ≤ b
  · have d1 : decide (l.to ≤ b) = true := decide_eq_true ht
    have HE : Hid (whA l b = (0, 0)) := by show _ = _; rw [HW.out, if_pos (Or.inr ht)]
    go_wp2_with fail
    go_ret2
    exact ⟨by rw [HE.out]; rfl, hq_4⟩
  have d1 : decide (l.to ≤ b) = false := decide_eq_false ht
  have HE : Hid (whA l b = whR l b) := by show _ = _; rw [HW.out, if_neg (fun h => h.elim hb0 ht)]
  have hb1 : b < 4096 := by have := hto.out; omega
  clear HW hto
  go_wp2_with fail
  clear d0 d1 hx cT
  go_loopw [9] (fun v wr => ∃ r : Nat, r ≤ 6 ∧ v = .int .i64 r ∧ wr.heap[w.heap.size]? = some (.cells #[.int .i64 l.bo, .int .i64 l.jr, .int .i64 l.jl, .int .i64 l.le, .int .i64 l.ll, .int .i64 l.bi, .int .i64 l.bl, .int .i64 l.ta, .int .i64 l.tl, .int .i64 l.dt, .int .i64 l.dl, .int .i64 l.to, .int .i64 l.sh.cl, .int .i64 l.sh.wi, .int .i64 l.sh.pl, .int .i64 l.sh.ca, .int .i64 l.sh.ino, .int .i64 l.sh.qu, .int .i64 l.sh.da, .int .i64 l.sh.jo] 40 (0, 0)) ∧ Below w.heap.size w wr ∧ ∀ j, r < j → j ≤ 6 → b < beg l.sh j) (fun v _ => (intOf v).toNat)
  case atStart => exact ⟨6, by omega, rfl, hr_4, hq_4, fun j h1 h2 => absurd h2 (by omega)⟩
  case round =>
    clear hr_4 hq_4
    obtain ⟨r, hr6, rfl, hr, hq, hI⟩ := hrel
    have HI : Hid (∀ j, r < j → j ≤ 6 → b < beg l.sh j) := hI
    clear hI
    obtain ⟨a0, a1, a2, a3, a4, a5, a6, a7⟩ := sh_mid hr
    go_wp2_with fail
    clear a0 a1 a2 a3 a4 a5 a6 a7
    refine (rbegins_any l.sh hin r (by omega) _).mono ?_
    rintro e w9 ⟨rfl, hb9⟩
    have hr9 := (hb9.block _ (lt_of_block hr)).trans hr
    have hq9 := hq.trans (hb9.mono hq.size)
    clear hr hq hb9
    have hbd := beg_bd hin r (by omega)
    by_cases hc : b < beg l.sh r
    · have d0 : decide (b < beg l.sh r) = true := decide_eq_true hc
      have hr1 : 1 ≤ r := by
        rcases Nat.eq_zero_or_pos r with rfl | h
        · exact absurd hc (by show ¬ b < 0; omega)
        · exact h
      have HJ : Hid (∀ j, r - 1 < j → j ≤ 6 → b < beg l.sh j) := fun j h1 h2 => by
        by_cases e : j = r
        · subst e; exact hc
        · exact HI.out j (by omega) h2
      have er : (r : Int) - 1 = ((r - 1 : Nat) : Int) := by omega
      have HR : Hid ((r : Int) - 1 = ((r - 1 : Nat) : Int)) := er
      clear er HI
      generalize beg l.sh r = f at *
      go_wp2_with fail
      go_roundw
      case rel => exact ⟨r - 1, by omega, by rw [← HR.out], hr9, hq9, HJ.out⟩
      case measure => simp [intOf]; omega
    · have d0 : decide (b < beg l.sh r) = false := decide_eq_false hc
      have HR : Hid (whR l b = ((r : Int) + 1, b - beg l.sh r)) := by show _ = _; exact (congrArg (fun z => whR z b) HL.out).trans <| wh_ref hr6 HI.out (by omega) (by omega)
      clear HI
      have HF : Hid (beg l.sh r = beg l.sh r) := rfl
      obtain ⟨a0, a1, a2, a3, a4, a5, a6, a7⟩ := sh_mid hr9
      go_wp2_with fail
      clear a0 a1 a2 a3 a4 a5 a6 a7
      refine (rbegins_any l.sh hin r (by omega) _).mono ?_
      rintro e w10 ⟨rfl, hb10⟩
      have hq10 := hq9.trans (hb10.mono hq9.size)
      clear hr9 hq9 hb10 HF
      generalize hf : beg l.sh r = f at *
      clear hf
      go_wp2_with fail
      go_ret2
      exact ⟨by rw [HE.out, HR.out]; rfl, hq10⟩
end Go.Proofs.YtgpeefedboomoabDoor
