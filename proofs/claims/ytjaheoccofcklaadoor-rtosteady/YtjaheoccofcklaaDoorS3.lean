/- RtoSteady. -/
import Derived.Test.YtjaheoccofcklaaDoorS0
namespace Go.Proofs.YtjaheoccofcklaaDoor
open Go.RowKit
set_option maxRecDepth 100000

set_option maxHeartbeats 4000000 in
theorem steady_any (p : Par) (r n : Int) (w : World) (hR : Rws w) :
    Calls Tryd.prog 4 #[paV p, .int .i64 r, .int .i64 n] w fun r w' => r = .returned (.bool true) ∧ Below w.heap.size w w' := by
  have hP := PB.new w p
  have hf := newBox w (paO p)
  have hT := hR.next hf
  have hg0 := hR.lt
  go_enter Tryd.func4, Tryd.ntmps4
  go_wp2_with fail
  refine (known_any (w.alloc (paO p)) hT).mono ?_
  rintro r w1 ⟨he, hb⟩
  subst he
  have hP1 := hP.later hb
  have hF2 := frN hf hb
  have hT3 := hT.next hb
  clear hP hf hT hb
  have hk := hP1.box
  obtain ⟨Pq0, Pq1, Pq2⟩ := hk
  go_wp2_with fail
  clear Pq0 Pq1 Pq2
  refine (Start_any p _ hT3).mono ?_
  rintro r w2 ⟨he, hb⟩
  subst he
  have hP4 := hP1.later hb
  have hF5 := frN hF2 hb
  have hT6 := hT3.next hb
  clear hP1 hF2 hT3 hb
  have hge : w.heap.size ≤ w2.heap.size := hF5.size
  have hne : w.heap.size ≠ w2.heap.size := Nat.ne_of_lt hP4.lt
  have hgt : 0 < w2.heap.size := Nat.lt_of_lt_of_le hg0 hge
  have hnE := EB.new w2 (startF p)
  have hn := newBox w2 (esO (startF p))
  have hP7 := hP4.later hn
  have hF8 := frN hF5 hn
  have hT9 := hT6.next hn
  clear hP4 hF5 hT6 hn
  have hE10 := hnE
  clear hnE
  have hk := hP7.box
  obtain ⟨Pq0, Pq1, Pq2⟩ := hk
  go_wp2_with fail
  clear Pq0 Pq1 Pq2
  refine (right_any p _).mono ?_
  rintro r w3 ⟨he, hb⟩
  subst he
  have hP11 := hP7.later hb
  have hF12 := frN hF8 hb
  have hT13 := hT9.next hb
  have he14 := hE10.later hb
  clear hP7 hF8 hT9 hE10 hb
  go_wp2_with fail
  refine (num_any (startE p) _).mono ?_
  rintro r w4 ⟨he, hb⟩
  subst he
  have hP15 := hP11.later hb
  have hF16 := frN hF12 hb
  have hT17 := hT13.next hb
  have he18 := he14.later hb
  clear hP11 hF12 hT13 he14 hb
  rcases (Decidable.em (Ok p)).symm with ho | ho
  · have hE0 : startE p = 1 := by unfold startE; rw [if_neg ho]
    rw [hE0, decide_eq_false ho]
    go_wp2
    go_ret
    exact ⟨rfl, hF16⟩
  have hE0 : startE p = 0 := by unfold startE; rw [if_pos ho]
  rw [hE0, decide_eq_true ho]
  clear hE0
  by_cases h0 : r < 1
  · have d0 : decide (r < 1) = true := decide_eq_true h0
    go_wp2
    go_ret
    exact ⟨rfl, hF16⟩
  by_cases h1 : 1048576 < r
  · have d0 : decide (r < 1) = false := decide_eq_false h0
    have d1 : decide (1048576 < r) = true := decide_eq_true h1
    go_wp2
    go_ret
    exact ⟨rfl, hF16⟩
  have hL : Lp w w4 w.heap.size w2.heap.size p (stE p r 0) := ⟨hT17, hP15, he18, hF16, hne, hge, hgt⟩
  clear hT17 hP15 he18 hF16 hne hge hgt
  have d0 : decide (r < 1) = false := decide_eq_false h0
  have d1 : decide (1048576 < r) = false := decide_eq_false h1
  go_wp2_with fail
  clear d0 d1
  generalize w2.heap.size = be at *
  go_loopw [11, 12] (fun l v wr => ∃ k : Nat, k ≤ 300 ∧ ((k : Int) ≤ n ∨ k = 0) ∧ v = .int .i64 k ∧ l = .int .i64 (lastF r k) ∧ Lp w wr w.heap.size be p (stE p r k)) (fun _ v _ => 300 - (intOf v).toNat)
  case atStart => exact ⟨0, by omega, Or.inr rfl, rfl, rfl, hL⟩
  case round =>
    clear hL
    obtain ⟨k, hk, hkn, rfl, rfl, hL⟩ := hrel
    by_cases c0 : (k : Int) < n
    · have d0 : decide ((k : Int) < n) = true := decide_eq_true c0
      by_cases c1 : (k : Int) < 300
      · have d1 : decide ((k : Int) < 300) = true := decide_eq_true c1
        have HL := hL
        obtain ⟨pq0, pq1, pq2⟩ := hL.P.box
        obtain ⟨eq0, eq1, eq2, eq3, eq4, fq0, fq1, fq2, fq3, fq4⟩ := hL.E.box
        go_wp2_with fail
        clear hL pq0 pq1 pq2 eq0 eq1 eq2 eq3 eq4 fq0 fq1 fq2 fq3 fq4
        refine (Sample_any p (stE p r k) r _ HL.T).mono ?_
        rintro z w9 ⟨hz, hb9⟩
        obtain ⟨R, hRk⟩ := stE_succ ho (by omega) (by omega) k
        have hz' : z = Ending.returned (esV ⟨8 * r, vv r k, R, 0, true⟩) := by rw [← hRk]; exact hz
        clear hz
        subst hz'
        have HL9 := (HL.later hb9)
        have HS : Lp w (eset w9 be ⟨8 * r, vv r k, R, 0, true⟩) w.heap.size be p (stE p r (k + 1)) := by rw [hRk]; exact HL9.set _
        have HS' := Hid.mk HS
        have HK := Hid.mk hRk
        clear HS hRk HL hb9
        have hvb := vv_bounds r (by omega) (by omega) k
        have hlast : vv r k ≤ lastF r k := by
          cases k with
          | zero => simp only [lastF, vv]; omega
          | succ j =>
            have hj := vv_bounds r (by omega) (by omega) j
            simp only [lastF, vv]
            omega
        have dl : decide (lastF r k < vv r k) = false := decide_eq_false (by omega)
        have hkk : ((k : Int) + 1) ≤ n := by omega
        obtain ⟨eq0, eq1, eq2, eq3, eq4, fq0, fq1, fq2, fq3, fq4⟩ := HL9.E.box
        by_cases c2 : (64 : Int) ≤ k
        · have d2 : decide ((64 : Int) ≤ k) = true := decide_eq_true c2
          have hv3 : vv r k ≤ 3 := by
            have a := vv_small (k - 64)
            rw [show 64 + (k - 64) = k from by omega] at a
            omega
          have d3 : decide (3 < vv r k) = false := decide_eq_false (by omega)
          clear hvb hlast
          go_wp2
          go_roundw
          case rel => exact ⟨k + 1, by omega, Or.inl (by omega), by go_num, rfl, HS'.out⟩
          case measure => simp [intOf]; omega
        · have d2 : decide ((64 : Int) ≤ k) = false := decide_eq_false c2
          clear hvb hlast
          go_wp2
          go_roundw
          case rel => exact ⟨k + 1, by omega, Or.inl (by omega), by go_num, rfl, HS'.out⟩
          case measure => simp [intOf]; omega
      · have d1 : decide ((k : Int) < 300) = false := decide_eq_false c1
        go_wp2
        go_ret
        exact ⟨rfl, hL.F⟩
    · have d0 : decide ((k : Int) < n) = false := decide_eq_false c0
      go_wp2
      go_ret
      exact ⟨rfl, hL.F⟩
end Go.Proofs.YtjaheoccofcklaaDoor
