/- RtoBetween. -/
import Derived.Test.YtjaheoccofcklaaDoorS5h
namespace Go.Proofs.YtjaheoccofcklaaDoor
open Go.RowKit
set_option maxRecDepth 100000

theorem Li.cellAt {w : World} {sb so n c k : Nat} {xs : List Int} {x : Int} (h : Li w (some ⟨sb, so, none⟩) n c xs) (hk : k < n) (hx : xs.getD k 0 = x) : w.cell? ⟨sb, so + k, none⟩ = some (.int .i64 x) := by
  have := h.hcells _ rfl k hk
  rw [hx, Addr.add_lit] at this
  exact this

set_option maxHeartbeats 4000000 in
theorem between_any (p : Par) (lo hi : Int) (a : Option Addr) (n c : Nat) (xs : List Int) (w : World) (hR : Rws w) (hn : n ≤ 140737488351232) (hL : Li w a n c xs) :
    Calls Tryd.prog 3 #[paV p, .int .i64 lo, .int .i64 hi, .slice a n c] w fun r w' => r = .returned (.bool true) ∧ Below w.heap.size w w' := by
  have hP := PB.new w p
  have hf := newBox w (paO p)
  have hT := hR.next hf
  have hg0 := hR.lt
  go_enter Tryd.func3, Tryd.ntmps3
  go_wp2_with fail
  refine (known_any (w.alloc (paO p)) hT).mono ?_
  rintro r w1 ⟨he, hb⟩
  subst he
  have hP1 := hP.later hb
  have hF2 := frN hf hb
  have hT3 := hT.next hb
  clear hP hf hT hb
  have hk := hP1.box
  obtain ⟨Pq0, Pq1, Pq2⟩ := hk
  go_wp2_with fail
  clear Pq0 Pq1 Pq2
  refine (Start_any p _ hT3).mono ?_
  rintro r w2 ⟨he, hb⟩
  subst he
  have hP4 := hP1.later hb
  have hF5 := frN hF2 hb
  have hT6 := hT3.next hb
  clear hP1 hF2 hT3 hb
  have hge : w.heap.size ≤ w2.heap.size := hF5.size
  have hne : w.heap.size ≠ w2.heap.size := Nat.ne_of_lt hP4.lt
  have hgt : 0 < w2.heap.size := Nat.lt_of_lt_of_le hg0 hge
  have hnE := EB.new w2 (startF p)
  have hn := newBox w2 (esO (startF p))
  have hP7 := hP4.later hn
  have hF8 := frN hF5 hn
  have hT9 := hT6.next hn
  clear hP4 hF5 hT6 hn
  have hE10 := hnE
  clear hnE
  have hk := hP7.box
  obtain ⟨Pq0, Pq1, Pq2⟩ := hk
  go_wp2_with fail
  clear Pq0 Pq1 Pq2
  refine (right_any p _).mono ?_
  rintro r w3 ⟨he, hb⟩
  subst he
  have hP11 := hP7.later hb
  have hF12 := frN hF8 hb
  have hT13 := hT9.next hb
  have he14 := hE10.later hb
  clear hP7 hF8 hT9 hE10 hb
  go_wp2_with fail
  refine (num_any (startE p) _).mono ?_
  rintro r w4 ⟨he, hb⟩
  subst he
  have hP15 := hP11.later hb
  have hF16 := frN hF12 hb
  have hT17 := hT13.next hb
  have he18 := he14.later hb
  clear hP11 hF12 hT13 he14 hb
  rcases (Decidable.em (Ok p)).symm with ho | ho
  · have hE0 : startE p = 1 := by unfold startE; rw [if_neg ho]
    rw [hE0, decide_eq_false ho]
    go_wp2
    go_ret
    exact ⟨rfl, hF16⟩
  have hE0 : startE p = 0 := by unfold startE; rw [if_pos ho]
  rw [hE0, decide_eq_true ho]
  clear hE0
  by_cases h0 : lo < 1
  · have d0 : decide (lo < 1) = true := decide_eq_true h0
    go_wp2
    go_ret
    exact ⟨rfl, hF16⟩
  by_cases h1 : hi < lo
  · have d0 : decide (lo < 1) = false := decide_eq_false h0
    have d1 : decide (hi < lo) = true := decide_eq_true h1
    go_wp2
    go_ret
    exact ⟨rfl, hF16⟩
  by_cases h2 : 1048576 < hi
  · have d0 : decide (lo < 1) = false := decide_eq_false h0
    have d1 : decide (hi < lo) = false := decide_eq_false h1
    have d2 : decide (1048576 < hi) = true := decide_eq_true h2
    go_wp2
    go_ret
    exact ⟨rfl, hF16⟩
  have hQ : Lp w w4 w.heap.size w2.heap.size p (startF p) := ⟨hT17, hP15, he18, hF16, hne, hge, hgt⟩
  clear hT17 hP15 he18 hF16 hne hge hgt
  have d0 : decide (lo < 1) = false := decide_eq_false h0
  have d1 : decide (hi < lo) = false := decide_eq_false h1
  have d2 : decide (1048576 < hi) = false := decide_eq_false h2
  go_wp2_with fail
  clear d0 d1 d2
  have hw1 : IntKind.i64.wrap (hi - lo) = hi - lo := by rw [IntKind.wrap_i64]; omega
  have hw2 : IntKind.i64.wrap (hi - lo + 1) = hi - lo + 1 := by rw [IntKind.wrap_i64]; omega
  have hnz : ¬ (hi - lo + 1 = 0) := by omega
  generalize w2.heap.size = be at *
  go_loopw [13, 14] (fun u v wr => ∃ (k : Nat) (b : Bool) (e : Est), k ≤ n ∧ v = .int .i64 k ∧ u = .bool b ∧ Hid (Btw p lo hi e b) ∧ Lp w wr w.heap.size be p e) (fun _ v _ => n - (intOf v).toNat)
  case atStart => exact ⟨0, false, startF p, Nat.zero_le _, rfl, rfl, ⟨Btw.start ho lo hi⟩, hQ⟩
  case round =>
    clear hQ
    obtain ⟨k, b, e, hk, rfl, rfl, HB, hQ⟩ := hrel
    by_cases c0 : k < n
    · have d0 : decide ((k : Int) < (n : Int)) = true := by simpa using c0
      obtain ⟨sb, so, rfl, hS⟩ := (hL.frame hQ.F).at (by omega)
      have q0 := hS k c0
      have HQ := hQ
      obtain ⟨pq0, pq1, pq2⟩ := hQ.P.box
      obtain ⟨eq0, eq1, eq2, eq3, eq4, fq0, fq1, fq2, fq3, fq4⟩ := hQ.E.box
      obtain ⟨x, hx⟩ : ∃ x, xs.getD k 0 = x := ⟨_, rfl⟩
      rw [hx] at q0
      clear hQ hS
      by_cases c1 : x < 0
      · have d1 : decide (x < 0) = true := decide_eq_true c1
        clear hx
        go_wp2_with fail
        clear pq0 pq1 pq2 eq0 eq1 eq2 eq3 eq4 fq0 fq1 fq2 fq3 fq4 q0
        refine (Expire_any p e _ HQ.T).mono ?_
        rintro z w9 ⟨rfl, hb9⟩
        have HQ9 := HQ.later hb9
        clear HQ hb9
        obtain ⟨eq0, eq1, eq2, eq3, eq4, fq0, fq1, fq2, fq3, fq4⟩ := HQ9.E.box
        have HS := Hid.mk (HQ9.set (expF p e))
        clear HQ9
        go_wp2
        go_roundw
        case rel => exact ⟨k + 1, b, expF p e, by omega, by go_num, rfl, ⟨HB.out.exp⟩, HS.out⟩
        case measure => simp [intOf]; omega
      · have d1 : decide (x < 0) = false := decide_eq_false c1
        obtain ⟨hm1, hm2, hm3⟩ := mod_trip (lo := lo) (hi := hi) (x := x) (by omega) (by omega)
        have hw3 : IntKind.i64.wrap (lo + x % (hi - lo + 1)) = lo + x % (hi - lo + 1) := by rw [IntKind.wrap_i64]; omega
        have HB2 := Hid.mk (HB.out.samp (by omega) (by omega) hm2 hm3)
        have HX := Hid.mk hx
        clear hx hm2 hm3
        go_wp2_with fail
        clear pq0 pq1 pq2 eq0 eq1 eq2 eq3 eq4 fq0 fq1 fq2 fq3 fq4 q0
        have hd9 : Below wr.heap.size wr wr.drew := (Below.refl _ wr).drew
        have HQ8 := HQ.later hd9
        clear HQ hd9
        obtain ⟨eq0, eq1, eq2, eq3, eq4, fq0, fq1, fq2, fq3, fq4⟩ := HQ8.E.box
        have hx := HX.out
        clear HX
        have q8 := (hL.frame HQ8.F).cellAt c0 hx
        have HX := Hid.mk hx
        clear hx
        refine wp_region_held_drew (S := fun w' => PB w' w.heap.size p ∧ w'.cell? ⟨sb, so + k, none⟩ = some (.int .i64 x)) (by kernel_rfl) ⟨HQ8.P, q8⟩ (fun hHeld => ?_)
        refine wpAnyH_take (i := 0) (oi := ⟨some 61, .load 23 (.tmp 4), 23, "law.go:179", #[], none⟩) (v := (paV p)) rfl (by kernel_rfl) (by kernel_rfl) (by kernel_rfl) (fun _ _ _ h => h) (Or.inl ⟨by rfl, fun w' h' => by have c0 := h'.1.box.c0; have c1 := h'.1.box.c1; have c2 := h'.1.box.c2; unfold execOp; go_simp⟩) hHeld ?_
        simp only [Act.put, List.setIfInBounds_toArray, List.set_cons_zero, List.set_cons_succ]
        refine wpAnyH_take (i := 2) (oi := ⟨some 63, .move (.tmp 1), 3, "law.go:179", #[], none⟩) (v := (.int .i64 lo)) rfl (by kernel_rfl) (by kernel_rfl) (by kernel_rfl) (fun _ _ _ h => h) (Or.inl ⟨by rfl, fun _ _ => by rfl⟩) hHeld ?_
        simp only [Act.put, List.setIfInBounds_toArray, List.set_cons_zero, List.set_cons_succ]
        refine wpAnyH_take (i := 3) (oi := ⟨some 64, .move (.tmp 3), 24, "law.go:179", #[], none⟩) (v := (.slice (some ⟨sb, so, none⟩) n c)) rfl (by kernel_rfl) (by kernel_rfl) (by kernel_rfl) (fun _ _ _ h => h) (Or.inl ⟨by rfl, fun _ _ => by rfl⟩) hHeld ?_
        simp only [Act.put, List.setIfInBounds_toArray, List.set_cons_zero, List.set_cons_succ]
        refine wpAnyH_take (i := 4) (oi := ⟨some 65, .move (.tmp 14), 3, "law.go:179", #[], none⟩) (v := (.int .i64 (k : Nat))) rfl (by kernel_rfl) (by kernel_rfl) (by kernel_rfl) (fun _ _ _ h => h) (Or.inl ⟨by rfl, fun _ _ => by rfl⟩) hHeld ?_
        simp only [Act.put, List.setIfInBounds_toArray, List.set_cons_zero, List.set_cons_succ]
        refine wpAnyH_take (i := 5) (oi := ⟨some 66, .indexAddr 24 (.tmp 64) (.tmp 65), 0, "law.go:179", #[⟨3, .data⟩, ⟨4, .data⟩], none⟩) (v := (.pointer (some ⟨sb, so + k, none⟩))) rfl (by kernel_rfl) (by kernel_rfl) (by kernel_rfl) (fun _ _ _ h => h) (Or.inl ⟨by rfl, fun w' h' => by unfold execOp; go_simp⟩) hHeld ?_
        simp only [Act.put, List.setIfInBounds_toArray, List.set_cons_zero, List.set_cons_succ]
        refine wpAnyH_take (i := 6) (oi := ⟨some 67, .load 3 (.tmp 66), 3, "law.go:179", #[⟨5, .data⟩], none⟩) (v := (.int .i64 x)) rfl (by kernel_rfl) (by kernel_rfl) (by kernel_rfl) (fun _ _ _ h => h) (Or.inl ⟨by rfl, fun w' h' => by have c0 := h'.2; unfold execOp; go_simp⟩) hHeld ?_
        simp only [Act.put, List.setIfInBounds_toArray, List.set_cons_zero, List.set_cons_succ]
        refine wpAnyH_take (i := 7) (oi := ⟨some 68, .move (.tmp 2), 3, "law.go:179", #[], none⟩) (v := (.int .i64 hi)) rfl (by kernel_rfl) (by kernel_rfl) (by kernel_rfl) (fun _ _ _ h => h) (Or.inl ⟨by rfl, fun _ _ => by rfl⟩) hHeld ?_
        simp only [Act.put, List.setIfInBounds_toArray, List.set_cons_zero, List.set_cons_succ]
        refine wpAnyH_take (i := 8) (oi := ⟨some 69, .move (.tmp 1), 3, "law.go:179", #[], none⟩) (v := (.int .i64 lo)) rfl (by kernel_rfl) (by kernel_rfl) (by kernel_rfl) (fun _ _ _ h => h) (Or.inl ⟨by rfl, fun _ _ => by rfl⟩) hHeld ?_
        simp only [Act.put, List.setIfInBounds_toArray, List.set_cons_zero, List.set_cons_succ]
        refine wpAnyH_take (i := 9) (oi := ⟨some 70, .binOp .sub 3 (.tmp 68) (.tmp 69) 3, 3, "law.go:179", #[⟨7, .data⟩, ⟨8, .data⟩], none⟩) (v := (.int .i64 (hi - lo))) rfl (by kernel_rfl) (by kernel_rfl) (by kernel_rfl) (fun _ _ _ h => h) (Or.inl ⟨by rfl, fun w' h' => by unfold execOp; go_simp⟩) hHeld ?_
        simp only [Act.put, List.setIfInBounds_toArray, List.set_cons_zero, List.set_cons_succ]
        refine wpAnyH_take (i := 10) (oi := ⟨some 71, .binOp .add 3 (.tmp 70) (.const (.int .i64 1)) 3, 3, "law.go:179", #[⟨9, .data⟩], none⟩) (v := (.int .i64 (hi - lo + 1))) rfl (by kernel_rfl) (by kernel_rfl) (by kernel_rfl) (fun _ _ _ h => h) (Or.inl ⟨by rfl, fun w' h' => by unfold execOp; go_simp⟩) hHeld ?_
        simp only [Act.put, List.setIfInBounds_toArray, List.set_cons_zero, List.set_cons_succ]
        refine wpAnyH_take (i := 11) (oi := ⟨some 72, .binOp .rem 3 (.tmp 67) (.tmp 71) 3, 3, "law.go:179", #[⟨6, .data⟩, ⟨10, .data⟩], none⟩) (v := (.int .i64 (x % (hi - lo + 1)))) rfl (by kernel_rfl) (by kernel_rfl) (by kernel_rfl) (fun _ _ _ h => h) (Or.inl ⟨by rfl, fun w' h' => by unfold execOp; go_simp⟩) hHeld ?_
        simp only [Act.put, List.setIfInBounds_toArray, List.set_cons_zero, List.set_cons_succ]
        refine wpAnyH_take (i := 12) (oi := ⟨some 73, .binOp .add 3 (.tmp 63) (.tmp 72) 3, 3, "law.go:179", #[⟨2, .data⟩, ⟨11, .data⟩], none⟩) (v := (.int .i64 (lo + x % (hi - lo + 1)))) rfl (by kernel_rfl) (by kernel_rfl) (by kernel_rfl) (fun _ _ _ h => h) (Or.inl ⟨by rfl, fun w' h' => by unfold execOp; go_simp⟩) hHeld ?_
        simp only [Act.put, List.setIfInBounds_toArray, List.set_cons_zero, List.set_cons_succ]
        refine wpAnyH_ready (rs := [1]) (by kernel_rfl) (by simp) ?_
        refine AllReadyH.cons (o := ⟨some 62, .load 27 (.tmp 10), 27, "law.go:179", #[], none⟩) rfl (fun KK hK => ?_) (AllReadyH.nil)
        go_simp
        refine hK.out _ _ ⟨HQ8.P, q8⟩ (fun hHeld => ?_)
        clear hK KK
        try simp only [Act.put, List.setIfInBounds_toArray, List.set_cons_zero, List.set_cons_succ]
        refine wpAnyH_ready (rs := [13]) (by kernel_rfl) (by simp) ?_
        refine AllReadyH.cons (o := ⟨some 74, .call ⟨.value (.func 14), #[.tmp 61, .tmp 62, .tmp 73], #[23, 27, 3]⟩, 27, "law.go:179", #[⟨0, .data⟩, ⟨1, .data⟩, ⟨12, .data⟩], none⟩) rfl (fun KK hK => ?_) (AllReadyH.nil)
        go_simp
        refine (Sample_any p e (lo + x % (hi - lo + 1)) _ HQ8.T).mono ?_
        rintro z w9 ⟨rfl, hb9⟩
        have HQ9 := HQ8.later hb9
        have q9 := (hL.frame HQ9.F).cellAt c0 HX.out
        clear HQ8 hb9 eq0 eq1 eq2 eq3 eq4 fq0 fq1 fq2 fq3 fq4
        obtain ⟨eq0, eq1, eq2, eq3, eq4, fq0, fq1, fq2, fq3, fq4⟩ := HQ9.E.box
        dsimp only
        refine hK.out _ _ ⟨HQ9.P, q9⟩ (fun hHeld => ?_)
        clear hK KK
        try simp only [Act.put, List.setIfInBounds_toArray, List.set_cons_zero, List.set_cons_succ]
        refine wpAnyH_ready (rs := [14]) (by kernel_rfl) (by simp) ?_
        refine AllReadyH.cons (o := ⟨none, .store 27 (.tmp 10) (.tmp 74), 0, "law.go:179", #[⟨13, .data⟩, ⟨13, .chain⟩, ⟨0, .phase⟩, ⟨1, .phase⟩, ⟨2, .phase⟩, ⟨3, .phase⟩, ⟨4, .phase⟩, ⟨5, .phase⟩, ⟨6, .phase⟩, ⟨7, .phase⟩, ⟨8, .phase⟩, ⟨9, .phase⟩, ⟨10, .phase⟩, ⟨11, .phase⟩, ⟨12, .phase⟩, ⟨13, .phase⟩], none⟩) rfl (fun KK hK => ?_) (AllReadyH.nil)
        go_simp
        clear eq0 eq1 eq2 eq3 eq4 fq0 fq1 fq2 fq3 fq4
        have HS := HQ9.set (sampF p e (lo + x % (hi - lo + 1)))
        have q10 := (hL.frame HS.F).cellAt c0 HX.out
        clear HQ9
        refine hK.out _ _ ⟨HS.P, q10⟩ (fun hHeld => ?_)
        clear hK KK
        try simp only [Act.put, List.setIfInBounds_toArray, List.set_cons_zero, List.set_cons_succ]
        refine wpAnyH_done (by kernel_rfl) ?_ _
        clear hHeld q10
        dsimp only [eset] at HS
        generalize sampF p e (lo + x % (hi - lo + 1)) = G at *
        generalize ((((w9.setCell ⟨be, 0, none⟩ (.int .i64 G.s)).setCell ⟨be, 1, none⟩ (.int .i64 G.v)).setCell ⟨be, 2, none⟩ (.int .i64 G.r)).setCell ⟨be, 3, none⟩ (.int .i64 G.n)).setCell ⟨be, 4, none⟩ (.bool G.k) = w10 at *
        have hbt := HB2.out.s rfl
        obtain ⟨eq0, eq1, eq2, eq3, eq4, _, _, _, _, _⟩ := HS.E.box
        have hq8 : G.s.tdiv 8 = G.s / 8 := Int.tdiv_eq_ediv_of_nonneg (by omega)
        have dd0 : decide (G.s / 8 < lo) = false := decide_eq_false (by omega)
        have dd1 : decide (hi < G.s / 8) = false := decide_eq_false (by omega)
        have dd2 : decide (4 * hi < G.v) = false := decide_eq_false (by omega)
        have dd3 : decide (G.v < 0) = false := decide_eq_false (by omega)
        have gs0 : 0 ≤ G.s := by omega
        have gs1 : G.s ≤ 16777216 := by omega
        have gv0 : 0 ≤ G.v := by omega
        have gv1 : G.v ≤ 16777216 := by omega
        have HS2 := Hid.mk HS
        clear HS hbt hw3 hm1 hw1 hw2
        go_wp2
        go_roundw
        case rel => exact ⟨k + 1, true, G, by omega, by go_num, rfl, HB2, HS2.out⟩
        case measure => simp [intOf]; omega
    · have d0 : decide ((k : Int) < (n : Int)) = false := by simpa using c0
      have hk2 := HB.out.k
      obtain ⟨eq0, eq1, eq2, eq3, eq4, _, _, _, _, _⟩ := hQ.E.box
      rw [hk2] at eq4
      clear hk2
      go_wp2
      go_ret
      exact ⟨by simp, hQ.F⟩
end Go.Proofs.YtjaheoccofcklaaDoor
