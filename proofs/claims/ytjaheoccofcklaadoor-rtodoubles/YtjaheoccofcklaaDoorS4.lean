/- RtoDoubles. -/
import Derived.Test.YtjaheoccofcklaaDoorS0b
namespace Go.Proofs.YtjaheoccofcklaaDoor
open Go.RowKit
set_option maxRecDepth 100000

/-- A loop's world with a second estimate that stays. -/
structure Lq (w0 w : World) (bp b1 be : Nat) (p : Par) (e f : Est) : Prop where
  L : Lp w0 w bp be p f
  E : EB w b1 e
  n1 : b1 ≠ be
theorem Lq.later {w0 w w' : World} {bp b1 be : Nat} {p : Par} {e f : Est} (h : Lq w0 w bp b1 be p e f) (hb : Below w.heap.size w w') : Lq w0 w' bp b1 be p e f := ⟨h.L.later hb, h.E.later hb, h.n1⟩
theorem Lq.set {w0 w : World} {bp b1 be : Nat} {p : Par} {e f : Est} (h : Lq w0 w bp b1 be p e f) (f' : Est) : Lq w0 (eset w be f') bp b1 be p e f' := ⟨h.L.set f', h.E.eset h.n1 f', h.n1⟩

set_option maxHeartbeats 4000000 in
theorem doubles_any (p : Par) (e : Est) (x : Int) (w : World) (hR : Rws w) :
    Calls Tryd.prog 7 #[paV p, esV e, .int .i64 x] w fun r w' => r = .returned (.bool true) ∧ Below w.heap.size w w' := by
  have hf := newBox2 w (paO p) (esO e)
  have hT := hR.next hf
  have hg0 := hR.lt
  have hP : PB ((w.alloc (paO p)).alloc (esO e)) w.heap.size p := (PB.new w p).later (newBox _ _)
  have hE : EB ((w.alloc (paO p)).alloc (esO e)) (w.heap.size + 1) e := ⟨EBox.of (heap_new2 w _ _), by simp⟩
  go_enter Tryd.func7, Tryd.ntmps7
  go_wp2_with fail
  refine (known_any ((w.alloc (paO p)).alloc (esO e)) hT).mono ?_
  rintro r w1 ⟨he, hb⟩
  subst he
  have hP1 := hP.later hb
  have hF2 := frN hf hb
  have hT3 := hT.next hb
  have he4 := hE.later hb
  clear hP hf hT hE hb
  have hk := hP1.box
  obtain ⟨Pq0, Pq1, Pq2⟩ := hk
  go_wp2_with fail
  clear Pq0 Pq1 Pq2
  refine (right_any p _).mono ?_
  rintro r w2 ⟨he, hb⟩
  subst he
  have hP5 := hP1.later hb
  have hF6 := frN hF2 hb
  have hT7 := hT3.next hb
  have he8 := he4.later hb
  clear hP1 hF2 hT3 he4 hb
  rcases (Decidable.em (Ok p)).symm with ho | ho
  · rw [decide_eq_false ho]
    go_wp2
    go_ret
    exact ⟨rfl, hF6⟩
  rw [decide_eq_true ho]
  have hk := hP5.box
  obtain ⟨Pq0, Pq1, Pq2⟩ := hk
  have hk := he8.box
  obtain ⟨eq0, eq1, eq2, eq3, eq4, eq5, eq6, eq7, eq8, eq9⟩ := hk
  go_wp2_with fail
  clear Pq0 Pq1 Pq2 eq0 eq1 eq2 eq3 eq4 eq5 eq6 eq7 eq8 eq9
  refine (may_any p e _).mono ?_
  rintro r w3 ⟨he, hb⟩
  subst he
  have hP9 := hP5.later hb
  have hF10 := frN hF6 hb
  have hT11 := hT7.next hb
  have he12 := he8.later hb
  clear hP5 hF6 hT7 he8 hb
  rcases (Decidable.em (Fit p e)).symm with hfi | hfi
  · rw [decide_eq_false hfi]
    go_wp2
    go_ret
    exact ⟨rfl, hF10⟩
  rw [decide_eq_true hfi]
  have hm : May p e := ⟨ho, hfi⟩
  have hk := hP9.box
  obtain ⟨Pq0, Pq1, Pq2⟩ := hk
  have hk := he12.box
  obtain ⟨eq0, eq1, eq2, eq3, eq4, eq5, eq6, eq7, eq8, eq9⟩ := hk
  go_wp2_with fail
  clear Pq0 Pq1 Pq2 eq0 eq1 eq2 eq3 eq4 eq5 eq6 eq7 eq8 eq9
  refine (Wait_any p e _ hT11).mono ?_
  rintro r w4 ⟨he, hb⟩
  subst he
  have hP13 := hP9.later hb
  have hF14 := frN hF10 hb
  have hT15 := hT11.next hb
  have he16 := he12.later hb
  clear hP9 hF10 hT11 he12 hb
  have hge : w.heap.size ≤ w4.heap.size := hF14.size
  have hne : w.heap.size ≠ w4.heap.size := Nat.ne_of_lt hP13.lt
  have hn1 : w.heap.size + 1 ≠ w4.heap.size := Nat.ne_of_lt he16.lt
  have hgt : 0 < w4.heap.size := Nat.lt_of_lt_of_le hg0 hge
  have hk := he16.box
  obtain ⟨eq0, eq1, eq2, eq3, eq4, eq5, eq6, eq7, eq8, eq9⟩ := hk
  go_wp2_with fail
  clear eq0 eq1 eq2 eq3 eq4 eq5 eq6 eq7 eq8 eq9
  have hnE := EB.new w4 e
  have hn := newBox w4 (esO e)
  have hP17 := hP13.later hn
  have hF18 := frN hF14 hn
  have hT19 := hT15.next hn
  have he20 := he16.later hn
  clear hP13 hF14 hT15 he16 hn
  have hE21 := hnE
  clear hnE
  have hQ : Lq w (w4.alloc (esO e)) w.heap.size (w.heap.size + 1) w4.heap.size p e (exI p e 0) := ⟨⟨hT19, hP17, hE21, hF18, hne, hge, hgt⟩, he20, hn1⟩
  clear hT19 hP17 he20 hE21 hF18 hne hge hgt hn1
  generalize w4.heap.size = be at *
  go_loopw [9, 11] (fun u v wr => ∃ k : Nat, k ≤ 20 ∧ v = .int .i64 k ∧ u = .int .i64 (waitF p (exI p e k)) ∧ Lq w wr w.heap.size (w.heap.size + 1) be p e (exI p e k)) (fun _ v _ => 20 - (intOf v).toNat)
  case atStart => exact ⟨0, by omega, rfl, rfl, hQ⟩
  case round =>
    clear hQ
    obtain ⟨k, hk, rfl, rfl, hQ⟩ := hrel
    by_cases c0 : (k : Int) < 20
    · have d0 : decide ((k : Int) < 20) = true := decide_eq_true c0
      have HQ := hQ
      obtain ⟨pq0, pq1, pq2⟩ := hQ.L.P.box
      obtain ⟨eq0, eq1, eq2, eq3, eq4, fq0, fq1, fq2, fq3, fq4⟩ := hQ.L.E.box
      go_wp2_with fail
      clear hQ pq0 pq1 pq2 eq0 eq1 eq2 eq3 eq4 fq0 fq1 fq2 fq3 fq4
      refine (Expire_any p (exI p e k) _ HQ.L.T).mono ?_
      rintro z w9 ⟨rfl, hb9⟩
      have HQ9 := HQ.later hb9
      clear HQ hb9
      obtain ⟨eq0, eq1, eq2, eq3, eq4, fq0, fq1, fq2, fq3, fq4⟩ := HQ9.L.E.box
      have HS : Lq w (eset w9 be (expF p (exI p e k))) w.heap.size (w.heap.size + 1) be p e (exI p e (k + 1)) := HQ9.set _
      obtain ⟨pq0, pq1, pq2⟩ := HS.L.P.box
      obtain ⟨sq0, sq1, sq2, sq3, sq4, tq0, tq1, tq2, tq3, tq4⟩ := HS.L.E.box
      have hwe : waitF p (exI p e (k + 1)) = min p.ma (2 * waitF p (exI p e k)) := wait_exp (exI_may hm k)
      have hwb := wait_bounds (exI_may hm k)
      obtain ⟨g0, g1, g2, g3⟩ := exI_form hm (k + 1)
      simp only [exI] at sq0 sq1 sq2 sq3 sq4 g0 g1 g2 g3 hwe
      simp only [eset] at HS pq0 pq1 pq2 sq0 sq1 sq2 sq3 sq4 tq0 tq1 tq2 tq3 tq4
      have HS2 := Hid.mk HS
      have HE := Hid.mk hwe
      have HG := Hid.mk (And.intro g0 (And.intro g1 (And.intro g2 g3)))
      clear hwe g0 g1 g2 g3 HS
      go_wp2_with fail
      clear eq0 eq1 eq2 eq3 eq4 fq0 fq1 fq2 fq3 fq4 pq0 pq1 pq2 sq0 sq1 sq2 sq3 sq4 tq0 tq1 tq2 tq3 tq4 HQ9
      refine (Wait_any p (expF p (exI p e k)) _ HS2.out.L.T).mono ?_
      rintro z w10 ⟨hz, hb10⟩
      rw [HE.out] at hz
      have HQ10 : Lq w w10 w.heap.size (w.heap.size + 1) be p e (exI p e (k + 1)) := HS2.out.later hb10
      clear HS2 hb10
      obtain ⟨pq0, pq1, pq2⟩ := HQ10.L.P.box
      obtain ⟨sq0, sq1, sq2, sq3, sq4, _, _, _, _, _⟩ := HQ10.L.E.box
      obtain ⟨eq0, eq1, eq2, eq3, eq4, _, _, _, _, _⟩ := HQ10.E.box
      obtain ⟨g0, g1, g2, g3⟩ := exI_form hm (k + 1)
      rw [g0] at sq0
      rw [g1] at sq1
      rw [g2] at sq2
      rw [g3] at sq4
      have HX := Hid.mk HQ10
      have hwm : p.ma ≤ 1048576 := ho.2.2.2
      have hkk : k + 1 ≤ 20 := by omega
      clear g0 g1 g2 g3 HQ10 HG
      by_cases hmi : p.ma ≤ 2 * waitF p (exI p e k)
      · rw [Int.min_eq_left hmi] at hz
        subst hz
        have hW : waitF p (exI p e (k + 1)) = p.ma := by show waitF p (expF p (exI p e k)) = p.ma; rw [HE.out, Int.min_eq_left hmi]
        have HW := Hid.mk hW
        clear HE hW
        have hmi' : ¬ 2 * waitF p (exI p e k) < p.ma := by omega
        have d2 : decide (2 * waitF p (exI p e k) < p.ma) = false := decide_eq_false hmi'
        go_wp2
        go_roundw
        case rel => exact ⟨k + 1, hkk, by go_num, by rw [HW.out], HX.out⟩
        case measure => simp [intOf]; omega
      · have hmi' : 2 * waitF p (exI p e k) < p.ma := by omega
        rw [Int.min_eq_right (by omega)] at hz
        subst hz
        have hW : waitF p (exI p e (k + 1)) = 2 * waitF p (exI p e k) := by show waitF p (expF p (exI p e k)) = _; rw [HE.out, Int.min_eq_right (by omega)]
        have HW := Hid.mk hW
        clear HE hW
        have d2 : decide (2 * waitF p (exI p e k) < p.ma) = true := decide_eq_true hmi'
        go_wp2
        go_roundw
        case rel => exact ⟨k + 1, hkk, by go_num, by rw [HW.out], HX.out⟩
        case measure => simp [intOf]; omega
    · have d0 : decide ((k : Int) < 20) = false := decide_eq_false c0
      obtain rfl : k = 20 := by omega
      have hW := exI_full hm
      have hmk := exI_may hm 20
      obtain ⟨g0, g1, g2, g3⟩ := exI_form hm 20
      have hsa := samp_same hm hmk g0 g1 g3 x
      rw [hW]
      clear hW g0 g1 g2 g3
      generalize hF : exI p e 20 = F at *
      clear hF hk
      have HSA := Hid.mk hsa
      clear hsa
      obtain ⟨⟨hT, hP, hF, hf, _, _, _⟩, hE, _⟩ := hQ
      have hk := hP.box
      obtain ⟨Pq0, Pq1, Pq2⟩ := hk
      have hk := hF.box
      obtain ⟨fq0, fq1, fq2, fq3, fq4, fq5, fq6, fq7, fq8, fq9⟩ := hk
      go_wp2_with fail
      clear Pq0 Pq1 Pq2 fq0 fq1 fq2 fq3 fq4 fq5 fq6 fq7 fq8 fq9
      refine (Sample_any p F x _ hT).mono ?_
      rintro r w21 ⟨he, hb⟩
      rw [HSA.out] at he
      subst he
      have hP1 := hP.later hb
      have hF2 := frN hf hb
      have hT3 := hT.next hb
      have he4 := hE.later hb
      have hf5 := hF.later hb
      clear hP hf hT hE hF hb
      have hnE := EB.new w21 (sampF p e x)
      have hn := newBox w21 (esO (sampF p e x))
      have hP6 := hP1.later hn
      have hF7 := frN hF2 hn
      have hT8 := hT3.next hn
      have he9 := he4.later hn
      have hf10 := hf5.later hn
      clear hP1 hF2 hT3 he4 hf5 hn
      have hE11 := hnE
      clear hnE
      have hk := hP6.box
      obtain ⟨Pq0, Pq1, Pq2⟩ := hk
      have hk := he9.box
      obtain ⟨eq0, eq1, eq2, eq3, eq4, eq5, eq6, eq7, eq8, eq9⟩ := hk
      go_wp2_with fail
      clear Pq0 Pq1 Pq2 eq0 eq1 eq2 eq3 eq4 eq5 eq6 eq7 eq8 eq9
      refine (Sample_any p e x _ hT8).mono ?_
      rintro r w22 ⟨he, hb⟩
      subst he
      have hP12 := hP6.later hb
      have hF13 := frN hF7 hb
      have hT14 := hT8.next hb
      have he15 := he9.later hb
      have hf16 := hf10.later hb
      have hg17 := hE11.later hb
      clear hP6 hF7 hT8 he9 hf10 hE11 hb
      have hnE := EB.new w22 (sampF p e x)
      have hn := newBox w22 (esO (sampF p e x))
      have hP18 := hP12.later hn
      have hF19 := frN hF13 hn
      have hT20 := hT14.next hn
      have he21 := he15.later hn
      have hf22 := hf16.later hn
      have hg23 := hg17.later hn
      clear hP12 hF13 hT14 he15 hf16 hg17 hn
      have hE24 := hnE
      clear hnE
      have hk := hg23.box
      obtain ⟨gq0, gq1, gq2, gq3, gq4, gq5, gq6, gq7, gq8, gq9⟩ := hk
      have hk := hE24.box
      obtain ⟨hq0, hq1, hq2, hq3, hq4, hq5, hq6, hq7, hq8, hq9⟩ := hk
      go_wp2_with fail
      clear gq0 gq1 gq2 gq3 gq4 gq5 gq6 gq7 gq8 gq9 hq0 hq1 hq2 hq3 hq4 hq5 hq6 hq7 hq8 hq9
      refine (same_any (sampF p e x) (sampF p e x) _).mono ?_
      rintro r w23 ⟨he, hb⟩
      rw [decide_eq_true rfl] at he
      subst he
      have hP25 := hP18.later hb
      have hF26 := frN hF19 hb
      have hT27 := hT20.next hb
      have he28 := he21.later hb
      have hf29 := hf22.later hb
      have hg30 := hg23.later hb
      have hh31 := hE24.later hb
      clear hP18 hF19 hT20 he21 hf22 hg23 hE24 hb
      go_wp2_with fail
      have hd : Below w23.heap.size w23 w23.drew := (Below.refl _ w23).drew
      have hP32 := hP25.later hd
      have hF33 := frN hF26 hd
      have hT34 := hT27.next hd
      have he35 := he28.later hd
      have hf36 := hf29.later hd
      have hg37 := hg30.later hd
      have hh38 := hh31.later hd
      clear hP25 hF26 hT27 he28 hf29 hg30 hh31 hd
      refine wp_region_held_drew (S := fun w' => PB w' w.heap.size p ∧ EB w' w21.heap.size (sampF p e x)) (by kernel_rfl) ⟨hP32, hg37⟩ (fun hHeld => ?_)
      refine wpAnyH_take (i := 0) (oi := ⟨some 89, .move (.tmp 9), 3, "law.go:158", #[], none⟩) (v := (.int .i64 p.ma)) rfl (by kernel_rfl) (by kernel_rfl) (by kernel_rfl) (fun _ _ _ h => h) (Or.inl ⟨by rfl, fun _ _ => by rfl⟩) hHeld ?_
      simp only [Act.put, List.setIfInBounds_toArray, List.set_cons_zero, List.set_cons_succ]
      refine wpAnyH_take (i := 1) (oi := ⟨some 90, .fieldAddr 23 (.tmp 3) 2, 0, "law.go:158", #[], none⟩) (v := (.pointer (some ⟨w.heap.size, 2, none⟩))) rfl (by kernel_rfl) (by kernel_rfl) (by kernel_rfl) (fun _ _ _ h => h) (Or.inl ⟨by rfl, fun w' h' => by unfold execOp; go_simp⟩) hHeld ?_
      simp only [Act.put, List.setIfInBounds_toArray, List.set_cons_zero, List.set_cons_succ]
      refine wpAnyH_take (i := 2) (oi := ⟨some 91, .load 3 (.tmp 90), 3, "law.go:158", #[⟨1, .data⟩], none⟩) (v := (.int .i64 p.ma)) rfl (by kernel_rfl) (by kernel_rfl) (by kernel_rfl) (fun _ _ _ h => h) (Or.inl ⟨by rfl, fun w' h' => by have c0 := h'.1.box.c2; unfold execOp; go_simp⟩) hHeld ?_
      simp only [Act.put, List.setIfInBounds_toArray, List.set_cons_zero, List.set_cons_succ]
      refine wpAnyH_take (i := 3) (oi := ⟨some 92, .binOp .eql 3 (.tmp 89) (.tmp 91) 3, 4, "law.go:158", #[⟨0, .data⟩, ⟨2, .data⟩], none⟩) (v := (.bool true)) rfl (by kernel_rfl) (by kernel_rfl) (by kernel_rfl) (fun _ _ _ h => h) (Or.inl ⟨by rfl, fun w' h' => by unfold execOp; go_simp⟩) hHeld ?_
      simp only [Act.put, List.setIfInBounds_toArray, List.set_cons_zero, List.set_cons_succ]
      refine wpAnyH_take (i := 4) (oi := ⟨some 93, .move (.tmp 92), 4, "law.go:158", #[⟨3, .data⟩], none⟩) (v := (.bool true)) rfl (by kernel_rfl) (by kernel_rfl) (by kernel_rfl) (fun _ _ _ h => h) (Or.inl ⟨by rfl, fun _ _ => by rfl⟩) hHeld ?_
      simp only [Act.put, List.setIfInBounds_toArray, List.set_cons_zero, List.set_cons_succ]
      refine wpAnyH_take (i := 5) (oi := ⟨some 94, .move (.tmp 15), 4, "law.go:158", #[⟨4, .guard⟩], some (4, true)⟩) (v := (.bool true)) rfl (by kernel_rfl) (by kernel_rfl) (by kernel_rfl) (fun _ _ _ h => h) (Or.inl ⟨by rfl, fun _ _ => by rfl⟩) hHeld ?_
      simp only [Act.put, List.setIfInBounds_toArray, List.set_cons_zero, List.set_cons_succ]
      refine wpAnyH_take (i := 6) (oi := ⟨some 95, .pick (.tmp 93) (.tmp 94) (.const (.bool false)), 4, "law.go:158", #[⟨4, .data⟩, ⟨5, .data⟩], none⟩) (v := (.bool true)) rfl (by kernel_rfl) (by kernel_rfl) (by kernel_rfl) (fun _ _ _ h => h) (Or.inl ⟨by rfl, fun w' h' => by unfold execOp; go_simp⟩) hHeld ?_
      simp only [Act.put, List.setIfInBounds_toArray, List.set_cons_zero, List.set_cons_succ]
      refine wpAnyH_take (i := 7) (oi := ⟨some 96, .move (.tmp 95), 4, "law.go:158", #[⟨6, .data⟩, ⟨4, .chain⟩], none⟩) (v := (.bool true)) rfl (by kernel_rfl) (by kernel_rfl) (by kernel_rfl) (fun _ _ _ h => h) (Or.inl ⟨by rfl, fun _ _ => by rfl⟩) hHeld ?_
      simp only [Act.put, List.setIfInBounds_toArray, List.set_cons_zero, List.set_cons_succ]
      refine wpAnyH_take (i := 8) (oi := ⟨some 97, .load 23 (.tmp 3), 23, "law.go:158", #[⟨7, .guard⟩], some (7, true)⟩) (v := (paV p)) rfl (by kernel_rfl) (by kernel_rfl) (by kernel_rfl) (fun _ _ _ h => h) (Or.inl ⟨by rfl, fun w' h' => by have c0 := h'.1.box.c0; have c1 := h'.1.box.c1; have c2 := h'.1.box.c2; unfold execOp; go_simp⟩) hHeld ?_
      simp only [Act.put, List.setIfInBounds_toArray, List.set_cons_zero, List.set_cons_succ]
      refine wpAnyH_take (i := 9) (oi := ⟨some 98, .load 27 (.tmp 13), 27, "law.go:158", #[⟨7, .guard⟩], some (7, true)⟩) (v := (esV (sampF p e x))) rfl (by kernel_rfl) (by kernel_rfl) (by kernel_rfl) (fun _ _ _ h => h) (Or.inl ⟨by rfl, fun w' h' => by have c0 := h'.2.box.c0; have c1 := h'.2.box.c1; have c2 := h'.2.box.c2; have c3 := h'.2.box.c3; have c4 := h'.2.box.c4; unfold execOp; go_simp⟩) hHeld ?_
      simp only [Act.put, List.setIfInBounds_toArray, List.set_cons_zero, List.set_cons_succ]
      refine wpAnyH_take (i := 11) (oi := ⟨some 100, .fieldAddr 27 (.tmp 13) 2, 0, "law.go:158", #[⟨7, .guard⟩], some (7, true)⟩) (v := (.pointer (some ⟨w21.heap.size, 2, none⟩))) rfl (by kernel_rfl) (by kernel_rfl) (by kernel_rfl) (fun _ _ _ h => h) (Or.inl ⟨by rfl, fun w' h' => by unfold execOp; go_simp⟩) hHeld ?_
      simp only [Act.put, List.setIfInBounds_toArray, List.set_cons_zero, List.set_cons_succ]
      refine wpAnyH_take (i := 12) (oi := ⟨some 101, .load 3 (.tmp 100), 3, "law.go:158", #[⟨11, .data⟩, ⟨7, .guard⟩], some (7, true)⟩) (v := (.int .i64 (sampF p e x).r)) rfl (by kernel_rfl) (by kernel_rfl) (by kernel_rfl) (fun _ _ _ h => h) (Or.inl ⟨by rfl, fun w' h' => by have c0 := h'.2.box.c2; unfold execOp; go_simp⟩) hHeld ?_
      simp only [Act.put, List.setIfInBounds_toArray, List.set_cons_zero, List.set_cons_succ]
      refine wpAnyH_ready (rs := [10]) (by kernel_rfl) (by simp) ?_
      refine AllReadyH.cons (o := ⟨some 99, .call ⟨.value (.func 18), #[.tmp 97, .tmp 98], #[23, 27]⟩, 3, "law.go:158", #[⟨8, .data⟩, ⟨9, .data⟩, ⟨7, .chain⟩, ⟨7, .guard⟩], some (7, true)⟩) rfl (fun KK hK => ?_) (AllReadyH.nil)
      go_simp
      refine (Wait_any p (sampF p e x) _ hT34).mono ?_
      rintro z w30 ⟨hz, hb30⟩
      rw [samp_wait hm x] at hz
      subst hz
      have hP30 := hP32.later hb30
      have hG30 := hg37.later hb30
      have hF30 := frN hF33 hb30
      dsimp only
      refine hK.out _ _ ⟨hP30, hG30⟩ (fun hHeld => ?_)
      clear hK KK
      try simp only [Act.put, List.setIfInBounds_toArray, List.set_cons_zero, List.set_cons_succ]
      refine wpAnyH_take (i := 13) (oi := ⟨some 102, .binOp .eql 3 (.tmp 99) (.tmp 101) 3, 4, "law.go:158", #[⟨10, .data⟩, ⟨12, .data⟩, ⟨7, .guard⟩], some (7, true)⟩) (v := (.bool true)) rfl (by kernel_rfl) (by kernel_rfl) (by kernel_rfl) (fun _ _ _ h => h) (Or.inl ⟨by rfl, fun w' h' => by unfold execOp; go_simp⟩) hHeld ?_
      simp only [Act.put, List.setIfInBounds_toArray, List.set_cons_zero, List.set_cons_succ]
      refine wpAnyH_take (i := 14) (oi := ⟨some 103, .pick (.tmp 96) (.tmp 102) (.const (.bool false)), 4, "law.go:158", #[⟨7, .data⟩, ⟨13, .data⟩], none⟩) (v := (.bool true)) rfl (by kernel_rfl) (by kernel_rfl) (by kernel_rfl) (fun _ _ _ h => h) (Or.inl ⟨by rfl, fun w' h' => by unfold execOp; go_simp⟩) hHeld ?_
      simp only [Act.put, List.setIfInBounds_toArray, List.set_cons_zero, List.set_cons_succ]
      refine wpAnyH_take (i := 15) (oi := ⟨some 6, .assign (.tmp 103), 4, "law.go:158", #[⟨14, .data⟩, ⟨10, .chain⟩, ⟨0, .phase⟩, ⟨1, .phase⟩, ⟨2, .phase⟩, ⟨3, .phase⟩, ⟨4, .phase⟩, ⟨5, .phase⟩, ⟨6, .phase⟩, ⟨7, .phase⟩, ⟨8, .phase⟩, ⟨9, .phase⟩, ⟨10, .phase⟩, ⟨11, .phase⟩, ⟨12, .phase⟩, ⟨13, .phase⟩, ⟨14, .phase⟩], none⟩) (v := (.bool true)) rfl (by kernel_rfl) (by kernel_rfl) (by kernel_rfl) (fun _ _ _ h => h) (Or.inl ⟨by rfl, fun _ _ => by rfl⟩) hHeld ?_
      simp only [Act.put, List.setIfInBounds_toArray, List.set_cons_zero, List.set_cons_succ]
      refine wpAnyH_done (by kernel_rfl) ?_ _
      go_wp2
      go_ret
      exact ⟨rfl, hF30⟩
end Go.Proofs.YtjaheoccofcklaaDoor
