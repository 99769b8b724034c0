/- Sample. -/
import Derived.Test.YtjaheoccofcklabDoorR9
namespace Go.Proofs.YtjaheoccofcklabDoor
open Go.RowKit
set_option maxRecDepth 100000

theorem PER.seteE {w : World} {b : Nat} {p : Par} {e z : Est} (h : PER w b p e z) (l : Est) (hg : 0 < b) : PER (eset w (b + 1) l) b p l z := by
  have h1 := h.turn rfl (h.e.s0 l.s) hg
  have h2 := h1.turn rfl (h1.e.s1 l.v) hg
  have h3 := h2.turn rfl (h2.e.s2 l.r) hg
  have h4 := h3.turn rfl (h3.e.s3 l.n) hg
  exact h4.turn rfl (h4.e.s4 l.k) hg

set_option maxHeartbeats 2000000 in
theorem Sample_any (p : Par) (e : Est) (x : Int) (w : World) (hR : Rws w) :
    Calls Tryd.prog 15 #[paV p, esV e, .int .i64 x] w fun r w' => r = .returned (esV (sampF p e x)) ∧ Below w.heap.size w w' := by
  have hP := PER.new p e hR
  have hb := newBox3 w (paO p) (esO e) zO
  have hg := hR.lt
  go_enter Tryd.func15, Tryd.ntmps15
  obtain ⟨b, hbw⟩ : ∃ b, w.heap.size = b := ⟨_, rfl⟩
  obtain ⟨W, hW⟩ : ∃ W, ((w.alloc (paO p)).alloc (esO e)).alloc zO = W := ⟨_, rfl⟩
  rw [hW] at hP hb
  rw [hbw] at hP hb hg
  have hk := hP
  obtain ⟨⟨t0, t1, t2, t3, t4, t5, t6, t7⟩, ⟨p0, p1, p2⟩, ⟨e0, e1, e2, e3, e4, f0, f1, f2, f3, f4⟩, ⟨z0, z1, z2, z3, z4, g0, g1, g2, g3, g4⟩, hs⟩ := hk
  go_wp2_with fail
  clear hW
  clear t0 t1 t2 t3 t4 t5 t6 t7 p0 p1 p2 e0 e1 e2 e3 e4 f0 f1 f2 f3 f4 z0 z1 z2 z3 z4 g0 g1 g2 g3 g4 hs
  refine (mayBe_any p e _ hP.t).mono ?_
  rintro r w1 ⟨rfl, hb1⟩
  have hP1 := hP.later hb1
  have hq1 := hb.trans (hb1.mono (by have := hb.size; omega))
  clear hP hb hb1
  rcases (Decidable.em (May p e)).symm with ho | ho
  · rw [decide_eq_false ho]
    have hk := hP1
    obtain ⟨⟨t0, t1, t2, t3, t4, t5, t6, t7⟩, ⟨p0, p1, p2⟩, ⟨e0, e1, e2, e3, e4, f0, f1, f2, f3, f4⟩, ⟨z0, z1, z2, z3, z4, g0, g1, g2, g3, g4⟩, hs⟩ := hk
    go_wp2
    clear t0 t1 t2 t3 t4 t5 t6 t7 p0 p1 p2 e0 e1 e2 e3 e4 f0 f1 f2 f3 f4 z0 z1 z2 z3 z4 g0 g1 g2 g3 g4 hs
    refine bodyPost_ret (res_est rfl rfl (hP1.z.set esZ)) rfl ⟨?_, ?_⟩
    · simp only [sampF, if_neg ho]
    · rw [hbw]
      exact below_eset hq1 (show b ≤ b + 1 + 1 by omega) esZ
  rw [decide_eq_true ho]
  go_wp2_with fail
  have hd1 : Below w1.heap.size w1 w1.drew := (Below.refl w1.heap.size w1).drew
  have hP2 := hP1.later hd1
  have hq2 := hq1.trans (hd1.mono (by have := hq1.size; omega))
  clear hP1 hd1 hq1
  obtain ⟨q0, q1, q2, q3, q4, _, _, _, _, _⟩ := hP2.e
  refine wp_region_held_drew (S := fun w' => Rws w') (by kernel_rfl) hP2.t (fun hHeld => ?_)
  refine wpAnyH_take (i := 1) (oi := ⟨some 13, .indexAddr 46 (.global 0) (.const (.int .i64 2)), 0, "rto.go:19", #[], none⟩) (v := (.pointer (some ⟨0, 4, none⟩))) rfl (by kernel_rfl) (by kernel_rfl) (by kernel_rfl) (fun _ _ _ h => h) (Or.inl ⟨by rfl, fun w' h' => by unfold execOp; go_simp⟩) hHeld ?_
  simp only [Act.put, List.setIfInBounds_toArray, List.set_cons_zero, List.set_cons_succ]
  refine wpAnyH_take (i := 2) (oi := ⟨some 14, .load 41 (.tmp 13), 41, "rto.go:19", #[⟨1, .data⟩], none⟩) (v := (rwV 1 1048576)) rfl (by kernel_rfl) (by kernel_rfl) (by kernel_rfl) (fun _ _ _ h => h) (Or.inl ⟨by rfl, fun w' h' => by have c0 := h'.c4; have c1 := h'.c5; unfold execOp; go_simp⟩) hHeld ?_
  simp only [Act.put, List.setIfInBounds_toArray, List.set_cons_zero, List.set_cons_succ]
  refine wpAnyH_take (i := 3) (oi := ⟨some 15, .move (.tmp 2), 3, "rto.go:19", #[], none⟩) (v := (.int .i64 x)) rfl (by kernel_rfl) (by kernel_rfl) (by kernel_rfl) (fun _ _ _ h => h) (Or.inl ⟨by rfl, fun _ _ => by rfl⟩) hHeld ?_
  simp only [Act.put, List.setIfInBounds_toArray, List.set_cons_zero, List.set_cons_succ]
  refine wpAnyH_ready (rs := [0, 4]) (by kernel_rfl) (by simp) ?_
  refine AllReadyH.cons (o := ⟨some 12, .load 25 (.tmp 4), 25, "rto.go:19", #[], none⟩) rfl (fun KK hK => ?_) (AllReadyH.cons (o := ⟨some 16, .call ⟨.value (.func 19), #[.tmp 14, .tmp 15], #[41, 3]⟩, 3, "rto.go:19", #[⟨2, .data⟩, ⟨3, .data⟩], none⟩) rfl (fun KK hK => ?_) (AllReadyH.nil))
  · go_simp
    refine hK.out _ _ hP2.t (fun hHeld => ?_)
    clear hK KK
    try simp only [Act.put, List.setIfInBounds_toArray, List.set_cons_zero, List.set_cons_succ]
    refine wpAnyH_ready (rs := [4]) (by kernel_rfl) (by simp) ?_
    refine AllReadyH.cons (o := ⟨some 16, .call ⟨.value (.func 19), #[.tmp 14, .tmp 15], #[41, 3]⟩, 3, "rto.go:19", #[⟨2, .data⟩, ⟨3, .data⟩], none⟩) rfl (fun KK hK => ?_) (AllReadyH.nil)
    go_simp
    refine (keep_any _ _ _ _).mono ?_
    rintro r w3 ⟨rfl, hb3⟩
    have hP3 := hP2.later hb3
    have hq3 := hq2.trans (hb3.mono (by have := hq2.size; omega))
    clear hP2 hq2 hb3
    dsimp only
    refine hK.out _ _ hP3.t (fun hHeld => ?_)
    clear hK KK
    try simp only [Act.put, List.setIfInBounds_toArray, List.set_cons_zero, List.set_cons_succ]
    refine wpAnyH_ready (rs := [5]) (by kernel_rfl) (by simp) ?_
    refine AllReadyH.cons (o := ⟨some 17, .call ⟨.value (.func 24), #[.tmp 12, .tmp 16], #[25, 3]⟩, 25, "rto.go:19", #[⟨0, .data⟩, ⟨4, .data⟩, ⟨4, .chain⟩], none⟩) rfl (fun KK hK => ?_) (AllReadyH.nil)
    go_simp
    refine (learn_any e (trip x) _ ho.2.1 ho.2.2.1 ho.2.2.2.1 ho.2.2.2.2.1 (trip_bounds x).1 (trip_bounds x).2).mono ?_
    rintro r w4 ⟨rfl, hb4⟩
    have hP4 := hP3.later hb4
    have hq4 := hq3.trans (hb4.mono (by have := hq3.size; omega))
    clear hP3 hq3 hb4
    obtain ⟨y0, y1, y2, y3, y4, u0, u1, u2, u3, u4⟩ := hP4.e
    dsimp only
    refine hK.out _ _ hP4.t (fun hHeld => ?_)
    clear hK KK
    try simp only [Act.put, List.setIfInBounds_toArray, List.set_cons_zero, List.set_cons_succ]
    refine wpAnyH_ready (rs := [6]) (by kernel_rfl) (by simp) ?_
    refine AllReadyH.cons (o := ⟨none, .store 25 (.tmp 4) (.tmp 17), 0, "rto.go:19", #[⟨5, .data⟩, ⟨5, .chain⟩, ⟨0, .phase⟩, ⟨1, .phase⟩, ⟨2, .phase⟩, ⟨3, .phase⟩, ⟨4, .phase⟩, ⟨5, .phase⟩], none⟩) rfl (fun KK hK => ?_) (AllReadyH.nil)
    go_simp
    clear y0 y1 y2 y3 y4 u0 u1 u2 u3 u4
    have hP5 := hP4.seteE (learnE e (trip x)) hg
    have hq5 := below_eset hq4 (show b ≤ b + 1 by omega) (learnE e (trip x))
    clear hP4 hq4
    refine hK.out _ _ hP5.t (fun hHeld => ?_)
    clear hK KK
    try simp only [Act.put, List.setIfInBounds_toArray, List.set_cons_zero, List.set_cons_succ]
    refine wpAnyH_done (by kernel_rfl) ?_ _
    have hl := learn_bounds (e := e) (x := trip x) ho.2.1 ho.2.2.1 ho.2.2.2.1 ho.2.2.2.2.1 (trip_bounds x).1 (trip_bounds x).2
    have hk := samp_keep ho x
    obtain ⟨hl1, hl2, hl3⟩ := learn_rest e (trip x)
    have hLe : (learnE e (trip x)) = ⟨(learnE e (trip x)).s, (learnE e (trip x)).v, e.r, e.n, true⟩ := by rw [← hl1, ← hl2, ← hl3]
    dsimp only [eset] at hP5 hq5
    generalize ((((w4.setCell ⟨b + 1, 0, none⟩ (.int .i64 (learnE e (trip x)).s)).setCell ⟨b + 1, 1, none⟩ (.int .i64 (learnE e (trip x)).v)).setCell ⟨b + 1, 2, none⟩ (.int .i64 (learnE e (trip x)).r)).setCell ⟨b + 1, 3, none⟩ (.int .i64 (learnE e (trip x)).n)).setCell ⟨b + 1, 4, none⟩ (.bool (learnE e (trip x)).k) = w5 at *
    rw [hLe] at hP5
    clear hLe hl1 hl2 hl3
    generalize (learnE e (trip x)).s = S at *
    generalize (learnE e (trip x)).v = V at *
    obtain ⟨hS0, hS1, hV0, hV1⟩ := hl
    have hqS : S.tdiv 8 = S / 8 := Int.tdiv_eq_ediv_of_nonneg hS0
    by_cases hv : V < 1
    · have hcm : max V 1 = 1 := by omega
      rw [hcm] at hk
      have HK := Hid.mk hk
      clear hcm hk
      have hk := hP5
      obtain ⟨⟨t0, t1, t2, t3, t4, t5, t6, t7⟩, ⟨p0, p1, p2⟩, ⟨e0, e1, e2, e3, e4, f0, f1, f2, f3, f4⟩, ⟨z0, z1, z2, z3, z4, g0, g1, g2, g3, g4⟩, hs⟩ := hk
      simp only at e0 e1 e2 e3 e4
      go_wp2_with fail
      clear t0 t1 t2 t3 t4 t5 t6 t7 p0 p1 p2 e0 e1 e2 e3 e4 f0 f1 f2 f3 f4 z0 z1 z2 z3 z4 g0 g1 g2 g3 g4 hs
      have hP6 := hP5.turn rfl (hP5.e.s2 (S / 8 + 1)) hg
      have hP7 := hP6.turn rfl (hP6.e.s3 0) hg
      have hq7 := (hq5.setCell (p := ⟨b + 1, 2, none⟩) (Nat.le_succ _) (.int .i64 (S / 8 + 1))).setCell (p := ⟨b + 1, 3, none⟩) (Nat.le_succ _) (.int .i64 0)
      clear hP5 hq5 hP6
      refine (kept_any p ⟨S, V, S / 8 + 1, 0, true⟩ _ hP7.t).mono ?_
      rintro r w8 ⟨he, hb8⟩
      rw [HK.out] at he
      subst he
      have hP8 := hP7.later hb8
      have hq8 := hq7.trans (hb8.mono (by have := hq7.size; omega))
      clear hP7 hq7 hb8
      have hk := hP8
      obtain ⟨⟨t0, t1, t2, t3, t4, t5, t6, t7⟩, ⟨p0, p1, p2⟩, ⟨e0, e1, e2, e3, e4, f0, f1, f2, f3, f4⟩, ⟨z0, z1, z2, z3, z4, g0, g1, g2, g3, g4⟩, hs⟩ := hk
      go_wp2
      clear t0 t1 t2 t3 t4 t5 t6 t7 p0 p1 p2 e0 e1 e2 e3 e4 f0 f1 f2 f3 f4 z0 z1 z2 z3 z4 g0 g1 g2 g3 g4 hs
      refine bodyPost_ret (res_est rfl rfl (hP8.z.set (sampF p e x))) rfl ⟨rfl, ?_⟩
      rw [hbw]
      exact below_eset hq8 (show b ≤ b + 1 + 1 by omega) (sampF p e x)
    · have hcm : max V 1 = V := by omega
      rw [hcm] at hk
      have HK := Hid.mk hk
      clear hcm hk
      have hk := hP5
      obtain ⟨⟨t0, t1, t2, t3, t4, t5, t6, t7⟩, ⟨p0, p1, p2⟩, ⟨e0, e1, e2, e3, e4, f0, f1, f2, f3, f4⟩, ⟨z0, z1, z2, z3, z4, g0, g1, g2, g3, g4⟩, hs⟩ := hk
      simp only at e0 e1 e2 e3 e4
      go_wp2_with fail
      clear t0 t1 t2 t3 t4 t5 t6 t7 p0 p1 p2 e0 e1 e2 e3 e4 f0 f1 f2 f3 f4 z0 z1 z2 z3 z4 g0 g1 g2 g3 g4 hs
      have hP6 := hP5.turn rfl (hP5.e.s2 (S / 8 + V)) hg
      have hP7 := hP6.turn rfl (hP6.e.s3 0) hg
      have hq7 := (hq5.setCell (p := ⟨b + 1, 2, none⟩) (Nat.le_succ _) (.int .i64 (S / 8 + V))).setCell (p := ⟨b + 1, 3, none⟩) (Nat.le_succ _) (.int .i64 0)
      clear hP5 hq5 hP6
      refine (kept_any p ⟨S, V, S / 8 + V, 0, true⟩ _ hP7.t).mono ?_
      rintro r w8 ⟨he, hb8⟩
      rw [HK.out] at he
      subst he
      have hP8 := hP7.later hb8
      have hq8 := hq7.trans (hb8.mono (by have := hq7.size; omega))
      clear hP7 hq7 hb8
      have hk := hP8
      obtain ⟨⟨t0, t1, t2, t3, t4, t5, t6, t7⟩, ⟨p0, p1, p2⟩, ⟨e0, e1, e2, e3, e4, f0, f1, f2, f3, f4⟩, ⟨z0, z1, z2, z3, z4, g0, g1, g2, g3, g4⟩, hs⟩ := hk
      go_wp2
      clear t0 t1 t2 t3 t4 t5 t6 t7 p0 p1 p2 e0 e1 e2 e3 e4 f0 f1 f2 f3 f4 z0 z1 z2 z3 z4 g0 g1 g2 g3 g4 hs
      refine bodyPost_ret (res_est rfl rfl (hP8.z.set (sampF p e x))) rfl ⟨rfl, ?_⟩
      rw [hbw]
      exact below_eset hq8 (show b ≤ b + 1 + 1 by omega) (sampF p e x)
  · go_simp
    refine (keep_any _ _ _ _).mono ?_
    rintro r w3 ⟨rfl, hb3⟩
    have hP3 := hP2.later hb3
    have hq3 := hq2.trans (hb3.mono (by have := hq2.size; omega))
    clear hP2 hq2 hb3
    obtain ⟨x0, x1, x2, x3, x4, _, _, _, _, _⟩ := hP3.e
    dsimp only
    refine hK.out _ _ hP3.t (fun hHeld => ?_)
    clear hK KK
    try simp only [Act.put, List.setIfInBounds_toArray, List.set_cons_zero, List.set_cons_succ]
    refine wpAnyH_ready (rs := [0]) (by kernel_rfl) (by simp) ?_
    refine AllReadyH.cons (o := ⟨some 12, .load 25 (.tmp 4), 25, "rto.go:19", #[], none⟩) rfl (fun KK hK => ?_) (AllReadyH.nil)
    go_simp
    refine hK.out _ _ hP3.t (fun hHeld => ?_)
    clear hK KK
    try simp only [Act.put, List.setIfInBounds_toArray, List.set_cons_zero, List.set_cons_succ]
    refine wpAnyH_ready (rs := [5]) (by kernel_rfl) (by simp) ?_
    refine AllReadyH.cons (o := ⟨some 17, .call ⟨.value (.func 24), #[.tmp 12, .tmp 16], #[25, 3]⟩, 25, "rto.go:19", #[⟨0, .data⟩, ⟨4, .data⟩, ⟨4, .chain⟩], none⟩) rfl (fun KK hK => ?_) (AllReadyH.nil)
    go_simp
    refine (learn_any e (trip x) _ ho.2.1 ho.2.2.1 ho.2.2.2.1 ho.2.2.2.2.1 (trip_bounds x).1 (trip_bounds x).2).mono ?_
    rintro r w4 ⟨rfl, hb4⟩
    have hP4 := hP3.later hb4
    have hq4 := hq3.trans (hb4.mono (by have := hq3.size; omega))
    clear hP3 hq3 hb4
    obtain ⟨y0, y1, y2, y3, y4, u0, u1, u2, u3, u4⟩ := hP4.e
    dsimp only
    refine hK.out _ _ hP4.t (fun hHeld => ?_)
    clear hK KK
    try simp only [Act.put, List.setIfInBounds_toArray, List.set_cons_zero, List.set_cons_succ]
    refine wpAnyH_ready (rs := [6]) (by kernel_rfl) (by simp) ?_
    refine AllReadyH.cons (o := ⟨none, .store 25 (.tmp 4) (.tmp 17), 0, "rto.go:19", #[⟨5, .data⟩, ⟨5, .chain⟩, ⟨0, .phase⟩, ⟨1, .phase⟩, ⟨2, .phase⟩, ⟨3, .phase⟩, ⟨4, .phase⟩, ⟨5, .phase⟩], none⟩) rfl (fun KK hK => ?_) (AllReadyH.nil)
    go_simp
    clear y0 y1 y2 y3 y4 u0 u1 u2 u3 u4
    have hP5 := hP4.seteE (learnE e (trip x)) hg
    have hq5 := below_eset hq4 (show b ≤ b + 1 by omega) (learnE e (trip x))
    clear hP4 hq4
    refine hK.out _ _ hP5.t (fun hHeld => ?_)
    clear hK KK
    try simp only [Act.put, List.setIfInBounds_toArray, List.set_cons_zero, List.set_cons_succ]
    refine wpAnyH_done (by kernel_rfl) ?_ _
    have hl := learn_bounds (e := e) (x := trip x) ho.2.1 ho.2.2.1 ho.2.2.2.1 ho.2.2.2.2.1 (trip_bounds x).1 (trip_bounds x).2
    have hk := samp_keep ho x
    obtain ⟨hl1, hl2, hl3⟩ := learn_rest e (trip x)
    have hLe : (learnE e (trip x)) = ⟨(learnE e (trip x)).s, (learnE e (trip x)).v, e.r, e.n, true⟩ := by rw [← hl1, ← hl2, ← hl3]
    dsimp only [eset] at hP5 hq5
    generalize ((((w4.setCell ⟨b + 1, 0, none⟩ (.int .i64 (learnE e (trip x)).s)).setCell ⟨b + 1, 1, none⟩ (.int .i64 (learnE e (trip x)).v)).setCell ⟨b + 1, 2, none⟩ (.int .i64 (learnE e (trip x)).r)).setCell ⟨b + 1, 3, none⟩ (.int .i64 (learnE e (trip x)).n)).setCell ⟨b + 1, 4, none⟩ (.bool (learnE e (trip x)).k) = w5 at *
    rw [hLe] at hP5
    clear hLe hl1 hl2 hl3
    generalize (learnE e (trip x)).s = S at *
    generalize (learnE e (trip x)).v = V at *
    obtain ⟨hS0, hS1, hV0, hV1⟩ := hl
    have hqS : S.tdiv 8 = S / 8 := Int.tdiv_eq_ediv_of_nonneg hS0
    by_cases hv : V < 1
    · have hcm : max V 1 = 1 := by omega
      rw [hcm] at hk
      have HK := Hid.mk hk
      clear hcm hk
      have hk := hP5
      obtain ⟨⟨t0, t1, t2, t3, t4, t5, t6, t7⟩, ⟨p0, p1, p2⟩, ⟨e0, e1, e2, e3, e4, f0, f1, f2, f3, f4⟩, ⟨z0, z1, z2, z3, z4, g0, g1, g2, g3, g4⟩, hs⟩ := hk
      simp only at e0 e1 e2 e3 e4
      go_wp2_with fail
      clear t0 t1 t2 t3 t4 t5 t6 t7 p0 p1 p2 e0 e1 e2 e3 e4 f0 f1 f2 f3 f4 z0 z1 z2 z3 z4 g0 g1 g2 g3 g4 hs
      have hP6 := hP5.turn rfl (hP5.e.s2 (S / 8 + 1)) hg
      have hP7 := hP6.turn rfl (hP6.e.s3 0) hg
      have hq7 := (hq5.setCell (p := ⟨b + 1, 2, none⟩) (Nat.le_succ _) (.int .i64 (S / 8 + 1))).setCell (p := ⟨b + 1, 3, none⟩) (Nat.le_succ _) (.int .i64 0)
      clear hP5 hq5 hP6
      refine (kept_any p ⟨S, V, S / 8 + 1, 0, true⟩ _ hP7.t).mono ?_
      rintro r w8 ⟨he, hb8⟩
      rw [HK.out] at he
      subst he
      have hP8 := hP7.later hb8
      have hq8 := hq7.trans (hb8.mono (by have := hq7.size; omega))
      clear hP7 hq7 hb8
      have hk := hP8
      obtain ⟨⟨t0, t1, t2, t3, t4, t5, t6, t7⟩, ⟨p0, p1, p2⟩, ⟨e0, e1, e2, e3, e4, f0, f1, f2, f3, f4⟩, ⟨z0, z1, z2, z3, z4, g0, g1, g2, g3, g4⟩, hs⟩ := hk
      go_wp2
      clear t0 t1 t2 t3 t4 t5 t6 t7 p0 p1 p2 e0 e1 e2 e3 e4 f0 f1 f2 f3 f4 z0 z1 z2 z3 z4 g0 g1 g2 g3 g4 hs
      refine bodyPost_ret (res_est rfl rfl (hP8.z.set (sampF p e x))) rfl ⟨rfl, ?_⟩
      rw [hbw]
      exact below_eset hq8 (show b ≤ b + 1 + 1 by omega) (sampF p e x)
    · have hcm : max V 1 = V := by omega
      rw [hcm] at hk
      have HK := Hid.mk hk
      clear hcm hk
      have hk := hP5
      obtain ⟨⟨t0, t1, t2, t3, t4, t5, t6, t7⟩, ⟨p0, p1, p2⟩, ⟨e0, e1, e2, e3, e4, f0, f1, f2, f3, f4⟩, ⟨z0, z1, z2, z3, z4, g0, g1, g2, g3, g4⟩, hs⟩ := hk
      simp only at e0 e1 e2 e3 e4
      go_wp2_with fail
      clear t0 t1 t2 t3 t4 t5 t6 t7 p0 p1 p2 e0 e1 e2 e3 e4 f0 f1 f2 f3 f4 z0 z1 z2 z3 z4 g0 g1 g2 g3 g4 hs
      have hP6 := hP5.turn rfl (hP5.e.s2 (S / 8 + V)) hg
      have hP7 := hP6.turn rfl (hP6.e.s3 0) hg
      have hq7 := (hq5.setCell (p := ⟨b + 1, 2, none⟩) (Nat.le_succ _) (.int .i64 (S / 8 + V))).setCell (p := ⟨b + 1, 3, none⟩) (Nat.le_succ _) (.int .i64 0)
      clear hP5 hq5 hP6
      refine (kept_any p ⟨S, V, S / 8 + V, 0, true⟩ _ hP7.t).mono ?_
      rintro r w8 ⟨he, hb8⟩
      rw [HK.out] at he
      subst he
      have hP8 := hP7.later hb8
      have hq8 := hq7.trans (hb8.mono (by have := hq7.size; omega))
      clear hP7 hq7 hb8
      have hk := hP8
      obtain ⟨⟨t0, t1, t2, t3, t4, t5, t6, t7⟩, ⟨p0, p1, p2⟩, ⟨e0, e1, e2, e3, e4, f0, f1, f2, f3, f4⟩, ⟨z0, z1, z2, z3, z4, g0, g1, g2, g3, g4⟩, hs⟩ := hk
      go_wp2
      clear t0 t1 t2 t3 t4 t5 t6 t7 p0 p1 p2 e0 e1 e2 e3 e4 f0 f1 f2 f3 f4 z0 z1 z2 z3 z4 g0 g1 g2 g3 g4 hs
      refine bodyPost_ret (res_est rfl rfl (hP8.z.set (sampF p e x))) rfl ⟨rfl, ?_⟩
      rw [hbw]
      exact below_eset hq8 (show b ≤ b + 1 + 1 by omega) (sampF p e x)

end Go.Proofs.YtjaheoccofcklabDoor
