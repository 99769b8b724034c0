/- RtoClosed. -/
import Derived.Test.YtjaheoccofcklaaDoorS5
namespace Go.Proofs.YtjaheoccofcklaaDoor
open Go.RowKit
set_option maxRecDepth 100000

theorem no_samp {p : Par} {e : Est} (h : ¬ May p e) (x : Int) : sampF p e x = esZ := by unfold sampF; rw [if_neg h]
theorem no_exp {p : Par} {e : Est} (h : ¬ May p e) : expF p e = esZ := by unfold expF; rw [if_neg h]
theorem no_wait {p : Par} {e : Est} (h : ¬ May p e) : waitF p e = 0 := by unfold waitF; rw [if_neg h]

set_option maxHeartbeats 4000000 in
theorem closed_any (p : Par) (e : Est) (a : Option Addr) (n c : Nat) (xs : List Int) (w : World) (hR : Rws w) (hn : n ≤ 140737488351232) (hL : Li w a n c xs) :
    Calls Tryd.prog 6 #[paV p, esV e, .slice a n c] w fun r w' => r = .returned (.bool true) ∧ Below w.heap.size w w' := by
  have hf := newBox2 w (paO p) (esO e)
  have hT := hR.next hf
  have hg0 := hR.lt
  have hP : PB ((w.alloc (paO p)).alloc (esO e)) w.heap.size p := (PB.new w p).later (newBox _ _)
  have hE : EB ((w.alloc (paO p)).alloc (esO e)) (w.heap.size + 1) e := ⟨EBox.of (heap_new2 w _ _), by simp⟩
  go_enter Tryd.func6, Tryd.ntmps6
  go_wp2_with fail
  refine (known_any ((w.alloc (paO p)).alloc (esO e)) hT).mono ?_
  rintro r w1 ⟨he, hb⟩
  subst he
  have hP1 := hP.later hb
  have hF2 := frN hf hb
  have hT3 := hT.next hb
  have he4 := hE.later hb
  clear hP hf hT hE hb
  have hk := hP1.box
  obtain ⟨Pq0, Pq1, Pq2⟩ := hk
  go_wp2_with fail
  clear Pq0 Pq1 Pq2
  refine (right_any p _).mono ?_
  rintro r w2 ⟨he, hb⟩
  subst he
  have hP5 := hP1.later hb
  have hF6 := frN hF2 hb
  have hT7 := hT3.next hb
  have he8 := he4.later hb
  clear hP1 hF2 hT3 he4 hb
  rcases (Decidable.em (Ok p)).symm with ho | ho
  · have hno : ¬ May p e := fun h => ho h.1
    rw [decide_eq_false ho]
    have hk := hP5.box
    obtain ⟨Pq0, Pq1, Pq2⟩ := hk
    have hk := he8.box
    obtain ⟨eq0, eq1, eq2, eq3, eq4, eq5, eq6, eq7, eq8, eq9⟩ := hk
    go_wp2_with fail
    clear Pq0 Pq1 Pq2 eq0 eq1 eq2 eq3 eq4 eq5 eq6 eq7 eq8 eq9
    refine (Wait_any p e _ hT7).mono ?_
    rintro r w3 ⟨he, hb⟩
    rw [no_wait hno] at he
    subst he
    have hP109 := hP5.later hb
    have hF110 := frN hF6 hb
    have hT111 := hT7.next hb
    have he112 := he8.later hb
    clear hP5 hF6 hT7 he8 hb
    have hk := hP109.box
    obtain ⟨Pq0, Pq1, Pq2⟩ := hk
    have hk := he112.box
    obtain ⟨eq0, eq1, eq2, eq3, eq4, eq5, eq6, eq7, eq8, eq9⟩ := hk
    go_wp2_with fail
    clear Pq0 Pq1 Pq2 eq0 eq1 eq2 eq3 eq4 eq5 eq6 eq7 eq8 eq9
    refine (Sample_any p e 7 _ hT111).mono ?_
    rintro r w4 ⟨he, hb⟩
    rw [no_samp hno] at he
    subst he
    have hP113 := hP109.later hb
    have hF114 := frN hF110 hb
    have hT115 := hT111.next hb
    have he116 := he112.later hb
    clear hP109 hF110 hT111 he112 hb
    have hnE := EB.new w4 esZ
    have hn := newBox w4 (esO esZ)
    have hP117 := hP113.later hn
    have hF118 := frN hF114 hn
    have hT119 := hT115.next hn
    have he120 := he116.later hn
    clear hP113 hF114 hT115 he116 hn
    have hE121 := hnE
    clear hnE
    have hk := hP117.box
    obtain ⟨Pq0, Pq1, Pq2⟩ := hk
    have hk := he120.box
    obtain ⟨eq0, eq1, eq2, eq3, eq4, eq5, eq6, eq7, eq8, eq9⟩ := hk
    go_wp2_with fail
    clear Pq0 Pq1 Pq2 eq0 eq1 eq2 eq3 eq4 eq5 eq6 eq7 eq8 eq9
    refine (Expire_any p e _ hT119).mono ?_
    rintro r w5 ⟨he, hb⟩
    rw [no_exp hno] at he
    subst he
    have hP122 := hP117.later hb
    have hF123 := frN hF118 hb
    have hT124 := hT119.next hb
    have he125 := he120.later hb
    have ha126 := hE121.later hb
    clear hP117 hF118 hT119 he120 hE121 hb
    have hnE := EB.new w5 esZ
    have hn := newBox w5 (esO esZ)
    have hP127 := hP122.later hn
    have hF128 := frN hF123 hn
    have hT129 := hT124.next hn
    have he130 := he125.later hn
    have ha131 := ha126.later hn
    clear hP122 hF123 hT124 he125 ha126 hn
    have hE132 := hnE
    clear hnE
    have hk := ha131.box
    obtain ⟨aq0, aq1, aq2, aq3, aq4, aq5, aq6, aq7, aq8, aq9⟩ := hk
    go_wp2_with fail
    clear aq0 aq1 aq2 aq3 aq4 aq5 aq6 aq7 aq8 aq9
    refine (same_any esZ esZ _).mono ?_
    rintro r w6 ⟨he, hb⟩
    rw [decide_eq_true rfl] at he
    subst he
    have hP133 := hP127.later hb
    have hF134 := frN hF128 hb
    have hT135 := hT129.next hb
    have he136 := he130.later hb
    have ha137 := ha131.later hb
    have hb138 := hE132.later hb
    clear hP127 hF128 hT129 he130 ha131 hE132 hb
    have hk := hb138.box
    obtain ⟨bq0, bq1, bq2, bq3, bq4, bq5, bq6, bq7, bq8, bq9⟩ := hk
    go_wp2_with fail
    clear bq0 bq1 bq2 bq3 bq4 bq5 bq6 bq7 bq8 bq9
    refine (same_any esZ esZ _).mono ?_
    rintro r w7 ⟨he, hb⟩
    rw [decide_eq_true rfl] at he
    subst he
    have hP139 := hP133.later hb
    have hF140 := frN hF134 hb
    have hT141 := hT135.next hb
    have he142 := he136.later hb
    have ha143 := ha137.later hb
    have hb144 := hb138.later hb
    clear hP133 hF134 hT135 he136 ha137 hb138 hb
    go_wp2
    go_ret
    exact ⟨rfl, hF140⟩
  rw [decide_eq_true ho]
  have hk := hP5.box
  obtain ⟨Pq0, Pq1, Pq2⟩ := hk
  have hk := he8.box
  obtain ⟨eq0, eq1, eq2, eq3, eq4, eq5, eq6, eq7, eq8, eq9⟩ := hk
  go_wp2_with fail
  clear Pq0 Pq1 Pq2 eq0 eq1 eq2 eq3 eq4 eq5 eq6 eq7 eq8 eq9
  refine (may_any p e _).mono ?_
  rintro r w3 ⟨he, hb⟩
  subst he
  have hP9 := hP5.later hb
  have hF10 := frN hF6 hb
  have hT11 := hT7.next hb
  have he12 := he8.later hb
  clear hP5 hF6 hT7 he8 hb
  rcases (Decidable.em (Fit p e)).symm with hfi | hfi
  · have hno : ¬ May p e := fun h => hfi h.2
    rw [decide_eq_false hfi]
    have hk := hP9.box
    obtain ⟨Pq0, Pq1, Pq2⟩ := hk
    have hk := he12.box
    obtain ⟨eq0, eq1, eq2, eq3, eq4, eq5, eq6, eq7, eq8, eq9⟩ := hk
    go_wp2_with fail
    clear Pq0 Pq1 Pq2 eq0 eq1 eq2 eq3 eq4 eq5 eq6 eq7 eq8 eq9
    refine (Wait_any p e _ hT11).mono ?_
    rintro r w4 ⟨he, hb⟩
    rw [no_wait hno] at he
    subst he
    have hP113 := hP9.later hb
    have hF114 := frN hF10 hb
    have hT115 := hT11.next hb
    have he116 := he12.later hb
    clear hP9 hF10 hT11 he12 hb
    have hk := hP113.box
    obtain ⟨Pq0, Pq1, Pq2⟩ := hk
    have hk := he116.box
    obtain ⟨eq0, eq1, eq2, eq3, eq4, eq5, eq6, eq7, eq8, eq9⟩ := hk
    go_wp2_with fail
    clear Pq0 Pq1 Pq2 eq0 eq1 eq2 eq3 eq4 eq5 eq6 eq7 eq8 eq9
    refine (Sample_any p e 7 _ hT115).mono ?_
    rintro r w5 ⟨he, hb⟩
    rw [no_samp hno] at he
    subst he
    have hP117 := hP113.later hb
    have hF118 := frN hF114 hb
    have hT119 := hT115.next hb
    have he120 := he116.later hb
    clear hP113 hF114 hT115 he116 hb
    have hnE := EB.new w5 esZ
    have hn := newBox w5 (esO esZ)
    have hP121 := hP117.later hn
    have hF122 := frN hF118 hn
    have hT123 := hT119.next hn
    have he124 := he120.later hn
    clear hP117 hF118 hT119 he120 hn
    have hE125 := hnE
    clear hnE
    have hk := hP121.box
    obtain ⟨Pq0, Pq1, Pq2⟩ := hk
    have hk := he124.box
    obtain ⟨eq0, eq1, eq2, eq3, eq4, eq5, eq6, eq7, eq8, eq9⟩ := hk
    go_wp2_with fail
    clear Pq0 Pq1 Pq2 eq0 eq1 eq2 eq3 eq4 eq5 eq6 eq7 eq8 eq9
    refine (Expire_any p e _ hT123).mono ?_
    rintro r w6 ⟨he, hb⟩
    rw [no_exp hno] at he
    subst he
    have hP126 := hP121.later hb
    have hF127 := frN hF122 hb
    have hT128 := hT123.next hb
    have he129 := he124.later hb
    have ha130 := hE125.later hb
    clear hP121 hF122 hT123 he124 hE125 hb
    have hnE := EB.new w6 esZ
    have hn := newBox w6 (esO esZ)
    have hP131 := hP126.later hn
    have hF132 := frN hF127 hn
    have hT133 := hT128.next hn
    have he134 := he129.later hn
    have ha135 := ha130.later hn
    clear hP126 hF127 hT128 he129 ha130 hn
    have hE136 := hnE
    clear hnE
    have hk := ha135.box
    obtain ⟨aq0, aq1, aq2, aq3, aq4, aq5, aq6, aq7, aq8, aq9⟩ := hk
    go_wp2_with fail
    clear aq0 aq1 aq2 aq3 aq4 aq5 aq6 aq7 aq8 aq9
    refine (same_any esZ esZ _).mono ?_
    rintro r w7 ⟨he, hb⟩
    rw [decide_eq_true rfl] at he
    subst he
    have hP137 := hP131.later hb
    have hF138 := frN hF132 hb
    have hT139 := hT133.next hb
    have he140 := he134.later hb
    have ha141 := ha135.later hb
    have hb142 := hE136.later hb
    clear hP131 hF132 hT133 he134 ha135 hE136 hb
    have hk := hb142.box
    obtain ⟨bq0, bq1, bq2, bq3, bq4, bq5, bq6, bq7, bq8, bq9⟩ := hk
    go_wp2_with fail
    clear bq0 bq1 bq2 bq3 bq4 bq5 bq6 bq7 bq8 bq9
    refine (same_any esZ esZ _).mono ?_
    rintro r w8 ⟨he, hb⟩
    rw [decide_eq_true rfl] at he
    subst he
    have hP143 := hP137.later hb
    have hF144 := frN hF138 hb
    have hT145 := hT139.next hb
    have he146 := he140.later hb
    have ha147 := ha141.later hb
    have hb148 := hb142.later hb
    clear hP137 hF138 hT139 he140 ha141 hb142 hb
    go_wp2
    go_ret
    exact ⟨rfl, hF144⟩
  rw [decide_eq_true hfi]
  have hm : May p e := ⟨ho, hfi⟩
  have hk := hP9.box
  obtain ⟨Pq0, Pq1, Pq2⟩ := hk
  have hk := he12.box
  obtain ⟨eq0, eq1, eq2, eq3, eq4, eq5, eq6, eq7, eq8, eq9⟩ := hk
  go_wp2_with fail
  clear Pq0 Pq1 Pq2 eq0 eq1 eq2 eq3 eq4 eq5 eq6 eq7 eq8 eq9
  refine (Wait_any p e _ hT11).mono ?_
  rintro r w4 ⟨he, hb⟩
  subst he
  have hP13 := hP9.later hb
  have hF14 := frN hF10 hb
  have hT15 := hT11.next hb
  have he16 := he12.later hb
  clear hP9 hF10 hT11 he12 hb
  have hQ : Lp w w4 w.heap.size (w.heap.size + 1) p e := ⟨hT15, hP13, he16, hF14, by omega, by omega, by omega⟩
  clear hT15 hP13 he16 hF14
  go_wp2_with fail
  go_loopw [8, 9, 14] (fun y u v wr => ∃ (k : Nat) (g : Est), k ≤ n ∧ v = .int .i64 k ∧ u = .int .i64 (waitF p g) ∧ Hid (May p g) ∧ Lp w wr w.heap.size (w.heap.size + 1) p g) (fun _ _ v _ => n - (intOf v).toNat)
  case atStart => exact ⟨0, e, Nat.zero_le _, rfl, rfl, ⟨hm⟩, hQ⟩
  case round =>
    clear hQ
    obtain ⟨k, g, hk, rfl, rfl, HM, hQ⟩ := hrel
    have hwb := wait_bounds HM.out
    by_cases c0 : k < n
    · have d0 : decide ((k : Int) < (n : Int)) = true := by simpa using c0
      obtain ⟨sb, so, rfl, hS⟩ := (hL.frame hQ.F).at (by omega)
      have q0 := hS k c0
      have HQ := hQ
      obtain ⟨pq0, pq1, pq2⟩ := hQ.P.box
      obtain ⟨eq0, eq1, eq2, eq3, eq4, fq0, fq1, fq2, fq3, fq4⟩ := hQ.E.box
      obtain ⟨x, hx⟩ : ∃ x, xs.getD k 0 = x := ⟨_, rfl⟩
      rw [hx] at q0
      have HX := Hid.mk hx
      clear hQ hS hx
      have dw0 : decide (waitF p g < p.mi) = false := decide_eq_false (by omega)
      have dw1 : decide (p.ma < waitF p g) = false := decide_eq_false (by omega)
      clear hwb
      by_cases c1 : x < 0
      · have d1 : decide (x < 0) = true := decide_eq_true c1
        go_wp2_with fail
        clear pq0 pq1 pq2 eq0 eq1 eq2 eq3 eq4 fq0 fq1 fq2 fq3 fq4 q0 dw0 dw1
        refine (Expire_any p g _ HQ.T).mono ?_
        rintro z w9 ⟨rfl, hb9⟩
        have HQ9 := HQ.later hb9
        clear HQ hb9
        obtain ⟨eq0, eq1, eq2, eq3, eq4, fq0, fq1, fq2, fq3, fq4⟩ := HQ9.E.box
        have HS := HQ9.set (expF p g)
        have HG := Hid.mk (exp_may HM.out)
        clear HQ9 HM
        dsimp only [eset] at HS
        generalize expF p g = G at *
        have HS2 := Hid.mk HS
        obtain ⟨pq0, pq1, pq2⟩ := HS.P.box
        obtain ⟨eq0, eq1, eq2, eq3, eq4, _, _, _, _, _⟩ := HS.E.box
        clear HS
        go_wp2_with fail
        clear pq0 pq1 pq2 eq0 eq1 eq2 eq3 eq4
        refine (may_any p G _).mono ?_
        rintro z w11 ⟨hz, hb11⟩
        rw [decide_eq_true HG.out.2] at hz
        subst hz
        have HS3 := Hid.mk (HS2.out.later hb11)
        clear HS2 hb11
        obtain ⟨pq0, pq1, pq2⟩ := HS3.out.P.box
        obtain ⟨eq0, eq1, eq2, eq3, eq4, _, _, _, _, _⟩ := HS3.out.E.box
        go_wp2_with fail
        clear pq0 pq1 pq2 eq0 eq1 eq2 eq3 eq4
        refine (Wait_any p G _ HS3.out.T).mono ?_
        rintro z w12 ⟨hz, hb12⟩
        subst hz
        have HS4 := Hid.mk (HS3.out.later hb12)
        clear HS3 hb12
        have q0 := (hL.frame HS4.out.F).cellAt c0 HX.out
        obtain ⟨eq0, eq1, eq2, eq3, eq4, _, _, _, _, _⟩ := HS4.out.E.box
        have dx0 : decide (0 ≤ x) = false := decide_eq_false (by omega)
        go_wp2
        go_roundw
        case rel => exact ⟨k + 1, G, by omega, by go_num, rfl, HG, HS4.out⟩
        case measure => simp [intOf]; omega
      · have d1 : decide (x < 0) = false := decide_eq_false c1
        go_wp2_with fail
        clear pq0 pq1 pq2 eq0 eq1 eq2 eq3 eq4 fq0 fq1 fq2 fq3 fq4 q0 dw0 dw1
        have hd9 : Below wr.heap.size wr wr.drew := (Below.refl _ wr).drew
        have HQ8 := HQ.later hd9
        clear HQ hd9
        obtain ⟨eq0, eq1, eq2, eq3, eq4, fq0, fq1, fq2, fq3, fq4⟩ := HQ8.E.box
        have q8 := (hL.frame HQ8.F).cellAt c0 HX.out
        refine wp_region_held_drew (S := fun w' => PB w' w.heap.size p ∧ w'.cell? ⟨sb, so + k, none⟩ = some (.int .i64 x)) (by kernel_rfl) ⟨HQ8.P, q8⟩ (fun hHeld => ?_)
        refine wpAnyH_take (i := 0) (oi := ⟨some 74, .load 23 (.tmp 3), 23, "law.go:124", #[], none⟩) (v := (paV p)) rfl (by kernel_rfl) (by kernel_rfl) (by kernel_rfl) (fun _ _ _ h => h) (Or.inl ⟨by rfl, fun w' h' => by have c0 := h'.1.box.c0; have c1 := h'.1.box.c1; have c2 := h'.1.box.c2; unfold execOp; go_simp⟩) hHeld ?_
        simp only [Act.put, List.setIfInBounds_toArray, List.set_cons_zero, List.set_cons_succ]
        refine wpAnyH_take (i := 2) (oi := ⟨some 76, .move (.tmp 2), 24, "law.go:124", #[], none⟩) (v := (.slice (some ⟨sb, so, none⟩) n c)) rfl (by kernel_rfl) (by kernel_rfl) (by kernel_rfl) (fun _ _ _ h => h) (Or.inl ⟨by rfl, fun _ _ => by rfl⟩) hHeld ?_
        simp only [Act.put, List.setIfInBounds_toArray, List.set_cons_zero, List.set_cons_succ]
        refine wpAnyH_take (i := 3) (oi := ⟨some 77, .move (.tmp 14), 3, "law.go:124", #[], none⟩) (v := (.int .i64 (k : Nat))) rfl (by kernel_rfl) (by kernel_rfl) (by kernel_rfl) (fun _ _ _ h => h) (Or.inl ⟨by rfl, fun _ _ => by rfl⟩) hHeld ?_
        simp only [Act.put, List.setIfInBounds_toArray, List.set_cons_zero, List.set_cons_succ]
        refine wpAnyH_take (i := 4) (oi := ⟨some 78, .indexAddr 24 (.tmp 76) (.tmp 77), 0, "law.go:124", #[⟨2, .data⟩, ⟨3, .data⟩], none⟩) (v := (.pointer (some ⟨sb, so + k, none⟩))) rfl (by kernel_rfl) (by kernel_rfl) (by kernel_rfl) (fun _ _ _ h => h) (Or.inl ⟨by rfl, fun w' h' => by unfold execOp; go_simp⟩) hHeld ?_
        simp only [Act.put, List.setIfInBounds_toArray, List.set_cons_zero, List.set_cons_succ]
        refine wpAnyH_take (i := 5) (oi := ⟨some 79, .load 3 (.tmp 78), 3, "law.go:124", #[⟨4, .data⟩], none⟩) (v := (.int .i64 x)) rfl (by kernel_rfl) (by kernel_rfl) (by kernel_rfl) (fun _ _ _ h => h) (Or.inl ⟨by rfl, fun w' h' => by have c0 := h'.2; unfold execOp; go_simp⟩) hHeld ?_
        simp only [Act.put, List.setIfInBounds_toArray, List.set_cons_zero, List.set_cons_succ]
        refine wpAnyH_ready (rs := [1]) (by kernel_rfl) (by simp) ?_
        refine AllReadyH.cons (o := ⟨some 75, .load 27 (.tmp 4), 27, "law.go:124", #[], none⟩) rfl (fun KK hK => ?_) (AllReadyH.nil)
        go_simp
        refine hK.out _ _ ⟨HQ8.P, q8⟩ (fun hHeld => ?_)
        clear hK KK
        try simp only [Act.put, List.setIfInBounds_toArray, List.set_cons_zero, List.set_cons_succ]
        refine wpAnyH_ready (rs := [6]) (by kernel_rfl) (by simp) ?_
        refine AllReadyH.cons (o := ⟨some 80, .call ⟨.value (.func 14), #[.tmp 74, .tmp 75, .tmp 79], #[23, 27, 3]⟩, 27, "law.go:124", #[⟨0, .data⟩, ⟨1, .data⟩, ⟨5, .data⟩], none⟩) rfl (fun KK hK => ?_) (AllReadyH.nil)
        go_simp
        refine (Sample_any p g x _ HQ8.T).mono ?_
        rintro z w9 ⟨rfl, hb9⟩
        have HQ9 := HQ8.later hb9
        have q9 := (hL.frame HQ9.F).cellAt c0 HX.out
        clear HQ8 hb9 eq0 eq1 eq2 eq3 eq4 fq0 fq1 fq2 fq3 fq4
        obtain ⟨eq0, eq1, eq2, eq3, eq4, fq0, fq1, fq2, fq3, fq4⟩ := HQ9.E.box
        dsimp only
        refine hK.out _ _ ⟨HQ9.P, q9⟩ (fun hHeld => ?_)
        clear hK KK
        try simp only [Act.put, List.setIfInBounds_toArray, List.set_cons_zero, List.set_cons_succ]
        refine wpAnyH_ready (rs := [7]) (by kernel_rfl) (by simp) ?_
        refine AllReadyH.cons (o := ⟨none, .store 27 (.tmp 4) (.tmp 80), 0, "law.go:124", #[⟨6, .data⟩, ⟨6, .chain⟩, ⟨0, .phase⟩, ⟨1, .phase⟩, ⟨2, .phase⟩, ⟨3, .phase⟩, ⟨4, .phase⟩, ⟨5, .phase⟩, ⟨6, .phase⟩], none⟩) rfl (fun KK hK => ?_) (AllReadyH.nil)
        go_simp
        clear eq0 eq1 eq2 eq3 eq4 fq0 fq1 fq2 fq3 fq4
        have HS := HQ9.set (sampF p g x)
        have q10 := (hL.frame HS.F).cellAt c0 HX.out
        clear HQ9
        refine hK.out _ _ ⟨HS.P, q10⟩ (fun hHeld => ?_)
        clear hK KK
        try simp only [Act.put, List.setIfInBounds_toArray, List.set_cons_zero, List.set_cons_succ]
        refine wpAnyH_done (by kernel_rfl) ?_ _
        clear hHeld q10 q9 q8
        have HG := Hid.mk (samp_may HM.out x)
        have HW := Hid.mk (samp_wait HM.out x)
        have HN : Hid ((sampF p g x).n = 0 ∧ (sampF p g x).k = true) := ⟨by rw [samp_pos HM.out]; exact ⟨rfl, rfl⟩⟩
        clear HM
        dsimp only [eset] at HS
        generalize sampF p g x = G at *
        generalize ((((w9.setCell ⟨w.heap.size + 1, 0, none⟩ (.int .i64 G.s)).setCell ⟨w.heap.size + 1, 1, none⟩ (.int .i64 G.v)).setCell ⟨w.heap.size + 1, 2, none⟩ (.int .i64 G.r)).setCell ⟨w.heap.size + 1, 3, none⟩ (.int .i64 G.n)).setCell ⟨w.heap.size + 1, 4, none⟩ (.bool G.k) = w10 at *
        have HS2 := Hid.mk HS
        obtain ⟨pq0, pq1, pq2⟩ := HS.P.box
        obtain ⟨eq0, eq1, eq2, eq3, eq4, _, _, _, _, _⟩ := HS.E.box
        clear HS
        go_wp2_with fail
        clear pq0 pq1 pq2 eq0 eq1 eq2 eq3 eq4
        refine (may_any p G _).mono ?_
        rintro z w11 ⟨hz, hb11⟩
        rw [decide_eq_true HG.out.2] at hz
        subst hz
        have HS3 := Hid.mk (HS2.out.later hb11)
        clear HS2 hb11
        obtain ⟨pq0, pq1, pq2⟩ := HS3.out.P.box
        obtain ⟨eq0, eq1, eq2, eq3, eq4, _, _, _, _, _⟩ := HS3.out.E.box
        go_wp2_with fail
        clear pq0 pq1 pq2 eq0 eq1 eq2 eq3 eq4
        refine (Wait_any p G _ HS3.out.T).mono ?_
        rintro z w12 ⟨hz, hb12⟩
        rw [HW.out] at hz
        subst hz
        have HS4 := Hid.mk (HS3.out.later hb12)
        clear HS3 hb12
        have q0 := (hL.frame HS4.out.F).cellAt c0 HX.out
        obtain ⟨eq0, eq1, eq2, eq3, eq4, _, _, _, _, _⟩ := HS4.out.E.box
        rw [HN.out.1] at eq3
        rw [HN.out.2] at eq4
        have dx0 : decide (0 ≤ x) = true := decide_eq_true (by omega)
        go_wp2
        go_roundw
        case rel => exact ⟨k + 1, G, by omega, by go_num, by rw [HW.out], HG, HS4.out⟩
        case measure => simp [intOf]; omega
    · have d0 : decide ((k : Int) < (n : Int)) = false := by simpa using c0
      obtain ⟨pq0, pq1, pq2⟩ := hQ.P.box
      have dw0 : decide (p.mi ≤ waitF p g) = true := decide_eq_true hwb.1
      have dw1 : decide (waitF p g ≤ p.ma) = true := decide_eq_true hwb.2.1
      go_wp2
      go_ret
      exact ⟨rfl, hQ.F⟩
end Go.Proofs.YtjaheoccofcklaaDoor
