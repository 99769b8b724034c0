/- RtoRuns. -/
import Derived.Test.YtjaheoccofcklabDoorR13
import Derived.Test.YtjaheoccofcklabDoorSL
namespace Go.Proofs.YtjaheoccofcklabDoor
open Go.RowKit
set_option maxRecDepth 100000

theorem Li.cellAt {w : World} {sb so n c k : Nat} {xs : List Int} {x : Int} (h : Li w (some ⟨sb, so, none⟩) n c xs) (hk : k < n) (hx : xs.getD k 0 = x) : w.cell? ⟨sb, so + k, none⟩ = some (.int .i64 x) := by
  have := h.hcells _ rfl k hk
  rw [hx, Addr.add_lit] at this
  exact this
/-- The loop's world: the table, the params, the program's estimate and the document's. -/
structure Lr (w0 w : World) (bp ba bb : Nat) (p : Par) (ea eb : Est) : Prop where
  T : Rws w
  P : PB w bp p
  A : EB w ba ea
  B : EB w bb eb
  F : Below w0.heap.size w0 w
  na : bp ≠ ba
  nb : bp ≠ bb
  nab : ba ≠ bb
  ga : w0.heap.size ≤ ba
  gb : w0.heap.size ≤ bb
  ta : 0 < ba
  tb : 0 < bb
theorem Lr.later {w0 w w' : World} {bp ba bb : Nat} {p : Par} {ea eb : Est} (h : Lr w0 w bp ba bb p ea eb) (hb : Below w.heap.size w w') : Lr w0 w' bp ba bb p ea eb :=
  ⟨h.T.next hb, h.P.later hb, h.A.later hb, h.B.later hb, frN h.F hb, h.na, h.nb, h.nab, h.ga, h.gb, h.ta, h.tb⟩
theorem Lr.setA {w0 w : World} {bp ba bb : Nat} {p : Par} {ea eb : Est} (h : Lr w0 w bp ba bb p ea eb) (x : Est) : Lr w0 (eset w ba x) bp ba bb p x eb :=
  ⟨h.T.eset h.ta x, h.P.eset h.na x, h.A.set x, h.B.eset (Ne.symm h.nab) x, below_eset h.F h.ga x, h.na, h.nb, h.nab, h.ga, h.gb, h.ta, h.tb⟩
theorem Lr.setB {w0 w : World} {bp ba bb : Nat} {p : Par} {ea eb : Est} (h : Lr w0 w bp ba bb p ea eb) (x : Est) : Lr w0 (eset w bb x) bp ba bb p ea x :=
  ⟨h.T.eset h.tb x, h.P.eset h.nb x, h.A.eset h.nab x, h.B.set x, below_eset h.F h.gb x, h.na, h.nb, h.nab, h.ga, h.gb, h.ta, h.tb⟩

set_option maxHeartbeats 4000000 in
theorem runs_any (p : Par) (a : Option Addr) (n c : Nat) (xs : List Int) (w : World) (hR : Rws w) (hn : n ≤ 140737488351232) (hL : Li w a n c xs) :
    Calls Tryd.prog 5 #[paV p, .slice a n c] w fun r w' => r = .returned (.bool true) ∧ Below w.heap.size w w' := by
  have hP := PB.new w p
  have hf := newBox w (paO p)
  have hT := hR.next hf
  have hg0 := hR.lt
  go_enter Tryd.func5, Tryd.ntmps5
  go_wp2_with fail
  refine (known_any (w.alloc (paO p)) hT).mono ?_
  rintro r w1 ⟨he, hb⟩
  subst he
  have hP1 := hP.later hb
  have hF2 := frN hf hb
  have hT3 := hT.next hb
  clear hP hf hT hb
  have hk := hP1.box
  obtain ⟨Pq0, Pq1, Pq2⟩ := hk
  go_wp2_with fail
  clear Pq0 Pq1 Pq2
  refine (Start_any p _ hT3).mono ?_
  rintro r w2 ⟨he, hb⟩
  subst he
  have hP4 := hP1.later hb
  have hF5 := frN hF2 hb
  have hT6 := hT3.next hb
  clear hP1 hF2 hT3 hb
  have ga : w.heap.size ≤ w2.heap.size := hF5.size
  have na : w.heap.size ≠ w2.heap.size := Nat.ne_of_lt hP4.lt
  have ta : 0 < w2.heap.size := Nat.lt_of_lt_of_le hg0 ga
  have hnE := EB.new w2 (startF p)
  have hn := newBox w2 (esO (startF p))
  have hP7 := hP4.later hn
  have hF8 := frN hF5 hn
  have hT9 := hT6.next hn
  clear hP4 hF5 hT6 hn
  have hE10 := hnE
  clear hnE
  have hk := hP7.box
  obtain ⟨Pq0, Pq1, Pq2⟩ := hk
  go_wp2_with fail
  clear Pq0 Pq1 Pq2
  refine (dStart_any p _).mono ?_
  rintro r w3 ⟨he, hb⟩
  subst he
  have hP11 := hP7.later hb
  have hF12 := frN hF8 hb
  have hT13 := hT9.next hb
  have ha14 := hE10.later hb
  clear hP7 hF8 hT9 hE10 hb
  have gb : w.heap.size ≤ w3.heap.size := hF12.size
  have nb : w.heap.size ≠ w3.heap.size := Nat.ne_of_lt hP11.lt
  have tb : 0 < w3.heap.size := Nat.lt_of_lt_of_le hg0 gb
  have nab : w2.heap.size ≠ w3.heap.size := Nat.ne_of_lt ha14.lt
  have hnE := EB.new w3 (startF p)
  have hn := newBox w3 (esO (startF p))
  have hP15 := hP11.later hn
  have hF16 := frN hF12 hn
  have hT17 := hT13.next hn
  have ha18 := ha14.later hn
  clear hP11 hF12 hT13 ha14 hn
  have hE19 := hnE
  clear hnE
  go_wp2_with fail
  refine (num_any (startE p) _).mono ?_
  rintro r w4 ⟨he, hb⟩
  subst he
  have hP20 := hP15.later hb
  have hF21 := frN hF16 hb
  have hT22 := hT17.next hb
  have ha23 := ha18.later hb
  have hb24 := hE19.later hb
  clear hP15 hF16 hT17 ha18 hE19 hb
  have hQ : Lr w w4 w.heap.size w2.heap.size w3.heap.size p (startF p) (startF p) := ⟨hT22, hP20, ha23, hb24, hF21, na, nb, nab, ga, gb, ta, tb⟩
  clear hT22 hP20 ha23 hb24 hF21 na nb nab ga gb ta tb
  go_wp2_with fail
  generalize w2.heap.size = ba at *
  generalize w3.heap.size = bb at *
  go_loopw [10] (fun v wr => ∃ (k : Nat) (g : Est), k ≤ n ∧ v = .int .i64 k ∧ Lr w wr w.heap.size ba bb p g g) (fun v _ => n - (intOf v).toNat)
  case atStart => exact ⟨0, startF p, Nat.zero_le _, rfl, hQ⟩
  case round =>
    clear hQ
    obtain ⟨k, g, hk, rfl, hQ⟩ := hrel
    by_cases c0 : k < n
    · have d0 : decide ((k : Int) < (n : Int)) = true := by simpa using c0
      obtain ⟨sb, so, rfl, hS⟩ := (hL.frame hQ.F).at (by omega)
      have q0 := hS k c0
      have HX := Hid.mk hQ
      obtain ⟨x, hx⟩ : ∃ x, xs.getD k 0 = x := ⟨_, rfl⟩
      rw [hx] at q0
      have HV := Hid.mk hx
      clear hQ hS hx
      by_cases c1 : x < 0
      · have d1 : decide (x < 0) = true := decide_eq_true c1
        obtain ⟨pq0, pq1, pq2⟩ := HX.out.P.box
        obtain ⟨aq0, aq1, aq2, aq3, aq4, au0, au1, au2, au3, au4⟩ := HX.out.A.box
        go_wp2_with fail
        clear pq0 pq1 pq2
        clear aq0 aq1 aq2 aq3 aq4 au0 au1 au2 au3 au4
        clear q0
        refine (Expire_any p g _ HX.out.T).mono ?_
        rintro z w9 ⟨hz, hb⟩
        subst hz
        obtain ⟨G, hG⟩ : ∃ G, expF p g = G := ⟨_, rfl⟩
        rw [hG]
        have HG := Hid.mk hG
        clear hG
        have HX := Hid.mk (HX.out.later hb)
        clear hb
        obtain ⟨pq0, pq1, pq2⟩ := HX.out.P.box
        obtain ⟨aq0, aq1, aq2, aq3, aq4, au0, au1, au2, au3, au4⟩ := HX.out.A.box
        obtain ⟨bq0, bq1, bq2, bq3, bq4, bu0, bu1, bu2, bu3, bu4⟩ := HX.out.B.box
        have HY := HX.out.setA G
        obtain ⟨pr0, pr1, pr2⟩ := HY.P.box
        obtain ⟨br0, br1, br2, br3, br4, bv0, bv1, bv2, bv3, bv4⟩ := HY.B.box
        dsimp only [eset] at HY pr0 pr1 pr2 br0 br1 br2 br3 br4
        have HX := Hid.mk HY
        clear HY
        go_wp2_with fail
        clear pq0 pq1 pq2
        clear aq0 aq1 aq2 aq3 aq4 au0 au1 au2 au3 au4
        clear bq0 bq1 bq2 bq3 bq4 bu0 bu1 bu2 bu3 bu4
        clear pr0 pr1 pr2 br0 br1 br2 br3 br4 bv0 bv1 bv2 bv3 bv4
        generalize (((((w9.setCell ⟨ba, 0, none⟩ (.int .i64 G.s)).setCell ⟨ba, 1, none⟩ (.int .i64 G.v)).setCell ⟨ba, 2, none⟩ (.int .i64 G.r)).setCell ⟨ba, 3, none⟩ (.int .i64 G.n)).setCell ⟨ba, 4, none⟩ (.bool G.k)) = w10 at *
        refine (dExpire_any p g _).mono ?_
        rintro z w11 ⟨hz, hb⟩
        rw [HG.out] at hz
        subst hz
        have HX := Hid.mk (HX.out.later hb)
        clear hb
        obtain ⟨bq0, bq1, bq2, bq3, bq4, bu0, bu1, bu2, bu3, bu4⟩ := HX.out.B.box
        have HY := HX.out.setB G
        dsimp only [eset] at HY
        have HX := Hid.mk HY
        obtain ⟨pq0, pq1, pq2⟩ := HY.P.box
        obtain ⟨aq0, aq1, aq2, aq3, aq4, au0, au1, au2, au3, au4⟩ := HY.A.box
        obtain ⟨cq0, cq1, cq2, cq3, cq4, cu0, cu1, cu2, cu3, cu4⟩ := HY.B.box
        clear HY
        go_wp2_with fail
        clear pq0 pq1 pq2
        clear aq0 aq1 aq2 aq3 aq4 au0 au1 au2 au3 au4
        clear bq0 bq1 bq2 bq3 bq4 bu0 bu1 bu2 bu3 bu4
        clear cq0 cq1 cq2 cq3 cq4 cu0 cu1 cu2 cu3 cu4
        generalize (((((w11.setCell ⟨bb, 0, none⟩ (.int .i64 G.s)).setCell ⟨bb, 1, none⟩ (.int .i64 G.v)).setCell ⟨bb, 2, none⟩ (.int .i64 G.r)).setCell ⟨bb, 3, none⟩ (.int .i64 G.n)).setCell ⟨bb, 4, none⟩ (.bool G.k)) = w12 at *
        refine (same_any G G _).mono ?_
        rintro z v1 ⟨hz, hb⟩
        rw [decide_eq_true rfl] at hz
        subst hz
        have HX := Hid.mk (HX.out.later hb)
        clear hb
        obtain ⟨pq0, pq1, pq2⟩ := HX.out.P.box
        obtain ⟨aq0, aq1, aq2, aq3, aq4, au0, au1, au2, au3, au4⟩ := HX.out.A.box
        go_wp2_with fail
        clear pq0 pq1 pq2
        clear aq0 aq1 aq2 aq3 aq4 au0 au1 au2 au3 au4
        refine (Wait_any p G _ HX.out.T).mono ?_
        rintro z v2 ⟨hz, hb⟩
        subst hz
        have HX := Hid.mk (HX.out.later hb)
        clear hb
        obtain ⟨pq0, pq1, pq2⟩ := HX.out.P.box
        obtain ⟨bq0, bq1, bq2, bq3, bq4, bu0, bu1, bu2, bu3, bu4⟩ := HX.out.B.box
        go_wp2_with fail
        clear pq0 pq1 pq2
        clear bq0 bq1 bq2 bq3 bq4 bu0 bu1 bu2 bu3 bu4
        refine (dWait_any p G _).mono ?_
        rintro z v3 ⟨hz, hb⟩
        subst hz
        have HX := Hid.mk (HX.out.later hb)
        clear hb
        go_wp2
        go_roundw
        case rel => exact ⟨k + 1, G, by omega, by go_num, HX.out⟩
        case measure => simp [intOf]; omega
      · have d1 : decide (x < 0) = false := decide_eq_false c1
        go_wp2_with fail
        clear q0
        have hd : Below wr.heap.size wr wr.drew := (Below.refl _ wr).drew
        have HX := Hid.mk (HX.out.later hd)
        clear hd
        have qd := (hL.frame HX.out.F).cellAt c0 HV.out
        obtain ⟨aq0, aq1, aq2, aq3, aq4, au0, au1, au2, au3, au4⟩ := HX.out.A.box
        refine wp_region_held_drew (S := fun w' => PB w' w.heap.size p ∧ w'.cell? ⟨sb, so + k, none⟩ = some (.int .i64 x)) (by kernel_rfl) ⟨HX.out.P, qd⟩ (fun hHeld => ?_)
        refine wpAnyH_take (i := 0) (oi := ⟨some 50, .load 23 (.tmp 2), 23, "law.go:76", #[], none⟩) (v := (paV p)) rfl (by kernel_rfl) (by kernel_rfl) (by kernel_rfl) (fun _ _ _ h => h) (Or.inl ⟨by rfl, fun w' h' => by have c0 := h'.1.box.c0; have c1 := h'.1.box.c1; have c2 := h'.1.box.c2; unfold execOp; go_simp⟩) hHeld ?_
        simp only [Act.put, List.setIfInBounds_toArray, List.set_cons_zero, List.set_cons_succ]
        refine wpAnyH_take (i := 2) (oi := ⟨some 52, .move (.tmp 1), 31, "law.go:76", #[], none⟩) (v := (.slice (some ⟨sb, so, none⟩) n c)) rfl (by kernel_rfl) (by kernel_rfl) (by kernel_rfl) (fun _ _ _ h => h) (Or.inl ⟨by rfl, fun _ _ => by rfl⟩) hHeld ?_
        simp only [Act.put, List.setIfInBounds_toArray, List.set_cons_zero, List.set_cons_succ]
        refine wpAnyH_take (i := 3) (oi := ⟨some 53, .move (.tmp 10), 3, "law.go:76", #[], none⟩) (v := (.int .i64 (k : Nat))) rfl (by kernel_rfl) (by kernel_rfl) (by kernel_rfl) (fun _ _ _ h => h) (Or.inl ⟨by rfl, fun _ _ => by rfl⟩) hHeld ?_
        simp only [Act.put, List.setIfInBounds_toArray, List.set_cons_zero, List.set_cons_succ]
        refine wpAnyH_take (i := 4) (oi := ⟨some 54, .indexAddr 31 (.tmp 52) (.tmp 53), 0, "law.go:76", #[⟨2, .data⟩, ⟨3, .data⟩], none⟩) (v := (.pointer (some ⟨sb, so + k, none⟩))) rfl (by kernel_rfl) (by kernel_rfl) (by kernel_rfl) (fun _ _ _ h => h) (Or.inl ⟨by rfl, fun w' h' => by unfold execOp; go_simp⟩) hHeld ?_
        simp only [Act.put, List.setIfInBounds_toArray, List.set_cons_zero, List.set_cons_succ]
        refine wpAnyH_take (i := 5) (oi := ⟨some 55, .load 3 (.tmp 54), 3, "law.go:76", #[⟨4, .data⟩], none⟩) (v := (.int .i64 x)) rfl (by kernel_rfl) (by kernel_rfl) (by kernel_rfl) (fun _ _ _ h => h) (Or.inl ⟨by rfl, fun w' h' => by have c0 := h'.2; unfold execOp; go_simp⟩) hHeld ?_
        simp only [Act.put, List.setIfInBounds_toArray, List.set_cons_zero, List.set_cons_succ]
        refine wpAnyH_ready (rs := [1]) (by kernel_rfl) (by simp) ?_
        refine AllReadyH.cons (o := ⟨some 51, .load 25 (.tmp 6), 25, "law.go:76", #[], none⟩) rfl (fun KK hK => ?_) (AllReadyH.nil)
        go_simp
        refine hK.out _ _ ⟨HX.out.P, qd⟩ (fun hHeld => ?_)
        clear hK KK
        try simp only [Act.put, List.setIfInBounds_toArray, List.set_cons_zero, List.set_cons_succ]
        refine wpAnyH_ready (rs := [6]) (by kernel_rfl) (by simp) ?_
        refine AllReadyH.cons (o := ⟨some 56, .call ⟨.value (.func 15), #[.tmp 50, .tmp 51, .tmp 55], #[23, 25, 3]⟩, 25, "law.go:76", #[⟨0, .data⟩, ⟨1, .data⟩, ⟨5, .data⟩], none⟩) rfl (fun KK hK => ?_) (AllReadyH.nil)
        go_simp
        refine (Sample_any p g x _ HX.out.T).mono ?_
        rintro z w9 ⟨hz, hb⟩
        obtain ⟨G, hG⟩ : ∃ G, sampF p g x = G := ⟨_, rfl⟩
        rw [hG] at hz
        have HG := Hid.mk hG
        clear hG
        subst hz
        have HX := Hid.mk (HX.out.later hb)
        clear hb
        have qw9 := (hL.frame HX.out.F).cellAt c0 HV.out
        clear aq0 aq1 aq2 aq3 aq4 au0 au1 au2 au3 au4
        obtain ⟨aq0, aq1, aq2, aq3, aq4, au0, au1, au2, au3, au4⟩ := HX.out.A.box
        dsimp only
        refine hK.out _ _ ⟨HX.out.P, qw9⟩ (fun hHeld => ?_)
        clear hK KK
        try simp only [Act.put, List.setIfInBounds_toArray, List.set_cons_zero, List.set_cons_succ]
        refine wpAnyH_ready (rs := [7]) (by kernel_rfl) (by simp) ?_
        refine AllReadyH.cons (o := ⟨none, .store 25 (.tmp 6) (.tmp 56), 0, "law.go:76", #[⟨6, .data⟩, ⟨6, .chain⟩, ⟨0, .phase⟩, ⟨1, .phase⟩, ⟨2, .phase⟩, ⟨3, .phase⟩, ⟨4, .phase⟩, ⟨5, .phase⟩, ⟨6, .phase⟩], none⟩) rfl (fun KK hK => ?_) (AllReadyH.nil)
        go_simp
        clear aq0 aq1 aq2 aq3 aq4 au0 au1 au2 au3 au4
        have HY := HX.out.setA G
        have qw10 := (hL.frame HY.F).cellAt c0 HV.out
        clear HX
        dsimp only [eset] at HY qw10
        generalize (((((w9.setCell ⟨ba, 0, none⟩ (.int .i64 G.s)).setCell ⟨ba, 1, none⟩ (.int .i64 G.v)).setCell ⟨ba, 2, none⟩ (.int .i64 G.r)).setCell ⟨ba, 3, none⟩ (.int .i64 G.n)).setCell ⟨ba, 4, none⟩ (.bool G.k)) = w10 at *
        have HX := Hid.mk HY
        clear HY
        refine hK.out _ _ ⟨HX.out.P, qw10⟩ (fun hHeld => ?_)
        clear hK KK
        try simp only [Act.put, List.setIfInBounds_toArray, List.set_cons_zero, List.set_cons_succ]
        refine wpAnyH_done (by kernel_rfl) ?_ _
        clear hHeld qd qw9 qw10
        go_wp2_with fail
        have hd : Below w10.heap.size w10 w10.drew := (Below.refl _ w10).drew
        have HX := Hid.mk (HX.out.later hd)
        clear hd
        have qd := (hL.frame HX.out.F).cellAt c0 HV.out
        obtain ⟨bq0, bq1, bq2, bq3, bq4, bu0, bu1, bu2, bu3, bu4⟩ := HX.out.B.box
        refine wp_region_held_drew (S := fun w' => PB w' w.heap.size p ∧ w'.cell? ⟨sb, so + k, none⟩ = some (.int .i64 x)) (by kernel_rfl) ⟨HX.out.P, qd⟩ (fun hHeld => ?_)
        refine wpAnyH_take (i := 0) (oi := ⟨some 57, .load 23 (.tmp 2), 23, "law.go:77", #[], none⟩) (v := (paV p)) rfl (by kernel_rfl) (by kernel_rfl) (by kernel_rfl) (fun _ _ _ h => h) (Or.inl ⟨by rfl, fun w' h' => by have c0 := h'.1.box.c0; have c1 := h'.1.box.c1; have c2 := h'.1.box.c2; unfold execOp; go_simp⟩) hHeld ?_
        simp only [Act.put, List.setIfInBounds_toArray, List.set_cons_zero, List.set_cons_succ]
        refine wpAnyH_take (i := 2) (oi := ⟨some 59, .move (.tmp 1), 31, "law.go:77", #[], none⟩) (v := (.slice (some ⟨sb, so, none⟩) n c)) rfl (by kernel_rfl) (by kernel_rfl) (by kernel_rfl) (fun _ _ _ h => h) (Or.inl ⟨by rfl, fun _ _ => by rfl⟩) hHeld ?_
        simp only [Act.put, List.setIfInBounds_toArray, List.set_cons_zero, List.set_cons_succ]
        refine wpAnyH_take (i := 3) (oi := ⟨some 60, .move (.tmp 10), 3, "law.go:77", #[], none⟩) (v := (.int .i64 (k : Nat))) rfl (by kernel_rfl) (by kernel_rfl) (by kernel_rfl) (fun _ _ _ h => h) (Or.inl ⟨by rfl, fun _ _ => by rfl⟩) hHeld ?_
        simp only [Act.put, List.setIfInBounds_toArray, List.set_cons_zero, List.set_cons_succ]
        refine wpAnyH_take (i := 4) (oi := ⟨some 61, .indexAddr 31 (.tmp 59) (.tmp 60), 0, "law.go:77", #[⟨2, .data⟩, ⟨3, .data⟩], none⟩) (v := (.pointer (some ⟨sb, so + k, none⟩))) rfl (by kernel_rfl) (by kernel_rfl) (by kernel_rfl) (fun _ _ _ h => h) (Or.inl ⟨by rfl, fun w' h' => by unfold execOp; go_simp⟩) hHeld ?_
        simp only [Act.put, List.setIfInBounds_toArray, List.set_cons_zero, List.set_cons_succ]
        refine wpAnyH_take (i := 5) (oi := ⟨some 62, .load 3 (.tmp 61), 3, "law.go:77", #[⟨4, .data⟩], none⟩) (v := (.int .i64 x)) rfl (by kernel_rfl) (by kernel_rfl) (by kernel_rfl) (fun _ _ _ h => h) (Or.inl ⟨by rfl, fun w' h' => by have c0 := h'.2; unfold execOp; go_simp⟩) hHeld ?_
        simp only [Act.put, List.setIfInBounds_toArray, List.set_cons_zero, List.set_cons_succ]
        refine wpAnyH_ready (rs := [1]) (by kernel_rfl) (by simp) ?_
        refine AllReadyH.cons (o := ⟨some 58, .load 25 (.tmp 8), 25, "law.go:77", #[], none⟩) rfl (fun KK hK => ?_) (AllReadyH.nil)
        go_simp
        refine hK.out _ _ ⟨HX.out.P, qd⟩ (fun hHeld => ?_)
        clear hK KK
        try simp only [Act.put, List.setIfInBounds_toArray, List.set_cons_zero, List.set_cons_succ]
        refine wpAnyH_ready (rs := [6]) (by kernel_rfl) (by simp) ?_
        refine AllReadyH.cons (o := ⟨some 63, .call ⟨.value (.func 16), #[.tmp 57, .tmp 58, .tmp 62], #[23, 25, 3]⟩, 25, "law.go:77", #[⟨0, .data⟩, ⟨1, .data⟩, ⟨5, .data⟩], none⟩) rfl (fun KK hK => ?_) (AllReadyH.nil)
        go_simp
        refine (dSample_any p g x _).mono ?_
        rintro z w11 ⟨hz, hb⟩
        rw [HG.out] at hz
        subst hz
        have HX := Hid.mk (HX.out.later hb)
        clear hb
        have qw11 := (hL.frame HX.out.F).cellAt c0 HV.out
        clear bq0 bq1 bq2 bq3 bq4 bu0 bu1 bu2 bu3 bu4
        obtain ⟨bq0, bq1, bq2, bq3, bq4, bu0, bu1, bu2, bu3, bu4⟩ := HX.out.B.box
        dsimp only
        refine hK.out _ _ ⟨HX.out.P, qw11⟩ (fun hHeld => ?_)
        clear hK KK
        try simp only [Act.put, List.setIfInBounds_toArray, List.set_cons_zero, List.set_cons_succ]
        refine wpAnyH_ready (rs := [7]) (by kernel_rfl) (by simp) ?_
        refine AllReadyH.cons (o := ⟨none, .store 25 (.tmp 8) (.tmp 63), 0, "law.go:77", #[⟨6, .data⟩, ⟨6, .chain⟩, ⟨0, .phase⟩, ⟨1, .phase⟩, ⟨2, .phase⟩, ⟨3, .phase⟩, ⟨4, .phase⟩, ⟨5, .phase⟩, ⟨6, .phase⟩], none⟩) rfl (fun KK hK => ?_) (AllReadyH.nil)
        go_simp
        clear bq0 bq1 bq2 bq3 bq4 bu0 bu1 bu2 bu3 bu4
        have HY := HX.out.setB G
        have qw12 := (hL.frame HY.F).cellAt c0 HV.out
        clear HX
        dsimp only [eset] at HY qw12
        generalize (((((w11.setCell ⟨bb, 0, none⟩ (.int .i64 G.s)).setCell ⟨bb, 1, none⟩ (.int .i64 G.v)).setCell ⟨bb, 2, none⟩ (.int .i64 G.r)).setCell ⟨bb, 3, none⟩ (.int .i64 G.n)).setCell ⟨bb, 4, none⟩ (.bool G.k)) = w12 at *
        have HX := Hid.mk HY
        clear HY
        refine hK.out _ _ ⟨HX.out.P, qw12⟩ (fun hHeld => ?_)
        clear hK KK
        try simp only [Act.put, List.setIfInBounds_toArray, List.set_cons_zero, List.set_cons_succ]
        refine wpAnyH_done (by kernel_rfl) ?_ _
        clear hHeld qd qw11 qw12
        obtain ⟨pq0, pq1, pq2⟩ := HX.out.P.box
        obtain ⟨aq0, aq1, aq2, aq3, aq4, au0, au1, au2, au3, au4⟩ := HX.out.A.box
        obtain ⟨bq0, bq1, bq2, bq3, bq4, bu0, bu1, bu2, bu3, bu4⟩ := HX.out.B.box
        go_wp2_with fail
        clear pq0 pq1 pq2
        clear aq0 aq1 aq2 aq3 aq4 au0 au1 au2 au3 au4
        clear bq0 bq1 bq2 bq3 bq4 bu0 bu1 bu2 bu3 bu4
        refine (same_any G G _).mono ?_
        rintro z v1 ⟨hz, hb⟩
        rw [decide_eq_true rfl] at hz
        subst hz
        have HX := Hid.mk (HX.out.later hb)
        clear hb
        obtain ⟨pq0, pq1, pq2⟩ := HX.out.P.box
        obtain ⟨aq0, aq1, aq2, aq3, aq4, au0, au1, au2, au3, au4⟩ := HX.out.A.box
        go_wp2_with fail
        clear pq0 pq1 pq2
        clear aq0 aq1 aq2 aq3 aq4 au0 au1 au2 au3 au4
        refine (Wait_any p G _ HX.out.T).mono ?_
        rintro z v2 ⟨hz, hb⟩
        subst hz
        have HX := Hid.mk (HX.out.later hb)
        clear hb
        obtain ⟨pq0, pq1, pq2⟩ := HX.out.P.box
        obtain ⟨bq0, bq1, bq2, bq3, bq4, bu0, bu1, bu2, bu3, bu4⟩ := HX.out.B.box
        go_wp2_with fail
        clear pq0 pq1 pq2
        clear bq0 bq1 bq2 bq3 bq4 bu0 bu1 bu2 bu3 bu4
        refine (dWait_any p G _).mono ?_
        rintro z v3 ⟨hz, hb⟩
        subst hz
        have HX := Hid.mk (HX.out.later hb)
        clear hb
        go_wp2
        go_roundw
        case rel => exact ⟨k + 1, G, by omega, by go_num, HX.out⟩
        case measure => simp [intOf]; omega
    · have d0 : decide ((k : Int) < (n : Int)) = false := by simpa using c0
      go_wp2
      go_ret
      exact ⟨rfl, hQ.F⟩
end Go.Proofs.YtjaheoccofcklabDoor
