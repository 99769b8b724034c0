/- kept. -/
import Derived.Test.YtjaheoccofcklabDoorR5
namespace Go.Proofs.YtjaheoccofcklabDoor
open Go.RowKit
set_option maxRecDepth 100000

/-- An estimate, each number brought into its row. -/
def keptE (p : Par) (e : Est) : Est := ⟨min (max e.s 0) 16777216, min (max e.v 0) 16777216, min (max e.r (max 1 p.mi)) (min 1048576 p.ma), min (max e.n 0) 20, e.k⟩

set_option maxHeartbeats 2000000 in
theorem kept_any (p : Par) (e : Est) (w : World) (hR : Rws w) :
    Calls Tryd.prog 21 #[paV p, esV e] w fun r w' => r = .returned (esV (keptE p e)) ∧ Below w.heap.size w w' := by
  have hP := PER.new p e hR
  have hb := newBox3 w (paO p) (esO e) zO
  have hg := hR.lt
  go_enter Tryd.func21, Tryd.ntmps21
  obtain ⟨b, hbw⟩ : ∃ b, w.heap.size = b := ⟨_, rfl⟩
  obtain ⟨W, hW⟩ : ∃ W, ((w.alloc (paO p)).alloc (esO e)).alloc zO = W := ⟨_, rfl⟩
  rw [hW] at hP hb
  rw [hbw] at hP hb hg
  have hk := hP
  obtain ⟨⟨t0, t1, t2, t3, t4, t5, t6, t7⟩, ⟨p0, p1, p2⟩, ⟨e0, e1, e2, e3, e4, f0, f1, f2, f3, f4⟩, ⟨z0, z1, z2, z3, z4, g0, g1, g2, g3, g4⟩, hs⟩ := hk
  go_wp2_with fail
  clear hW
  clear t0 t1 t2 t3 t4 t5 t6 t7 p0 p1 p2 e0 e1 e2 e3 e4 f0 f1 f2 f3 f4 z0 z1 z2 z3 z4 g0 g1 g2 g3 g4 hs
  refine (keep_any _ _ _ _).mono ?_
  rintro r w1 ⟨rfl, hb1⟩
  have hP1 := hP.later hb1
  have hq1 := hb.trans (hb1.mono (by have := hb.size; omega))
  clear hP hb hb1
  have hk := hP1
  obtain ⟨⟨t0, t1, t2, t3, t4, t5, t6, t7⟩, ⟨p0, p1, p2⟩, ⟨e0, e1, e2, e3, e4, f0, f1, f2, f3, f4⟩, ⟨z0, z1, z2, z3, z4, g0, g1, g2, g3, g4⟩, hs⟩ := hk
  go_wp2_with fail
  clear t0 t1 t2 t3 t4 t5 t6 t7 p0 p1 p2 e0 e1 e2 e3 e4 f0 f1 f2 f3 f4 z0 z1 z2 z3 z4 g0 g1 g2 g3 g4 hs
  have hP2 := hP1.turn rfl (hP1.e.s0 (min (max e.s 0) 16777216)) hg
  have hq2 := hq1.setCell (p := ⟨b + 1, 0, none⟩) (Nat.le_succ _) (.int .i64 (min (max e.s 0) 16777216))
  clear hP1 hq1
  generalize w1.setCell ⟨b + 1, 0, none⟩ (.int .i64 (min (max e.s 0) 16777216)) = w2 at *
  refine (keep_any _ _ _ _).mono ?_
  rintro r w3 ⟨rfl, hb3⟩
  have hP3 := hP2.later hb3
  have hq3 := hq2.trans (hb3.mono (by have := hq2.size; omega))
  clear hP2 hb3 hq2
  have hk := hP3
  obtain ⟨⟨t0, t1, t2, t3, t4, t5, t6, t7⟩, ⟨p0, p1, p2⟩, ⟨e0, e1, e2, e3, e4, f0, f1, f2, f3, f4⟩, ⟨z0, z1, z2, z3, z4, g0, g1, g2, g3, g4⟩, hs⟩ := hk
  go_wp2_with fail
  clear t0 t1 t2 t3 t4 t5 t6 t7 p0 p1 p2 e0 e1 e2 e3 e4 f0 f1 f2 f3 f4 z0 z1 z2 z3 z4 g0 g1 g2 g3 g4 hs
  have hP4 := hP3.turn rfl (hP3.e.s1 (min (max e.v 0) 16777216)) hg
  have hq4 := hq3.setCell (p := ⟨b + 1, 1, none⟩) (Nat.le_succ _) (.int .i64 (min (max e.v 0) 16777216))
  clear hP3 hq3
  generalize w3.setCell ⟨b + 1, 1, none⟩ (.int .i64 (min (max e.v 0) 16777216)) = w4 at *
  have hd4 : Below w4.heap.size w4 w4.drew := (Below.refl w4.heap.size w4).drew
  have hP5 := hP4.later hd4
  have hq5 := hq4.trans (hd4.mono (by have := hq4.size; omega))
  have x5 := hP5.e.c2
  simp only at x5
  clear hP4 hd4 hq4
  refine wp_region_held_drew (S := fun w' => PBox w' b p) (by kernel_rfl) hP5.p (fun hHeld => ?_)
  refine wpAnyH_take (i := 0) (oi := ⟨some 17, .load 23 (.tmp 2), 23, "bounds.go:74", #[], none⟩) (v := (paV p)) rfl (by kernel_rfl) (by kernel_rfl) (by kernel_rfl) (fun _ _ _ h => h) (Or.inl ⟨by rfl, fun w' h' => by have c0 := h'.c0; have c1 := h'.c1; have c2 := h'.c2; unfold execOp; go_simp⟩) hHeld ?_
  simp only [Act.put, List.setIfInBounds_toArray, List.set_cons_zero, List.set_cons_succ]
  refine wpAnyH_take (i := 2) (oi := ⟨some 19, .fieldAddr 25 (.tmp 3) 2, 0, "bounds.go:74", #[], none⟩) (v := (.pointer (some ⟨b + 1, 2, none⟩))) rfl (by kernel_rfl) (by kernel_rfl) (by kernel_rfl) (fun _ _ _ h => h) (Or.inl ⟨by rfl, fun w' h' => by unfold execOp; go_simp⟩) hHeld ?_
  simp only [Act.put, List.setIfInBounds_toArray, List.set_cons_zero, List.set_cons_succ]
  refine wpAnyH_ready (rs := [1, 3]) (by kernel_rfl) (by simp) ?_
  refine AllReadyH.cons (o := ⟨some 18, .call ⟨.value (.func 18), #[.tmp 17], #[23]⟩, 41, "bounds.go:74", #[⟨0, .data⟩], none⟩) rfl (fun KK hK => ?_) (AllReadyH.cons (o := ⟨some 20, .load 3 (.tmp 19), 3, "bounds.go:74", #[⟨2, .data⟩], none⟩) rfl (fun KK hK => ?_) (AllReadyH.nil))
  · go_simp
    refine (waits_any p _ hP5.t).mono ?_
    rintro r w6 ⟨rfl, hb6⟩
    have hP6 := hP5.later hb6
    have hq6 := hq5.trans (hb6.mono (by have := hq5.size; omega))
    have x6 := hP6.e.c2
    simp only at x6
    clear hP5 hq5 hb6 x5
    dsimp only
    refine hK.out _ _ hP6.p (fun hHeld => ?_)
    clear hK KK
    try simp only [Act.put, List.setIfInBounds_toArray, List.set_cons_zero, List.set_cons_succ]
    refine wpAnyH_ready (rs := [3]) (by kernel_rfl) (by simp) ?_
    refine AllReadyH.cons (o := ⟨some 20, .load 3 (.tmp 19), 3, "bounds.go:74", #[⟨2, .data⟩], none⟩) rfl (fun KK hK => ?_) (AllReadyH.nil)
    go_simp
    refine hK.out _ _ hP6.p (fun hHeld => ?_)
    clear hK KK
    try simp only [Act.put, List.setIfInBounds_toArray, List.set_cons_zero, List.set_cons_succ]
    refine wpAnyH_ready (rs := [4]) (by kernel_rfl) (by simp) ?_
    refine AllReadyH.cons (o := ⟨some 21, .call ⟨.value (.func 19), #[.tmp 18, .tmp 20], #[41, 3]⟩, 3, "bounds.go:74", #[⟨1, .data⟩, ⟨3, .data⟩, ⟨1, .chain⟩], none⟩) rfl (fun KK hK => ?_) (AllReadyH.nil)
    go_simp
    refine (keep_any _ _ _ _).mono ?_
    rintro r w7 ⟨rfl, hb7⟩
    have hP7 := hP6.later hb7
    have hq7 := hq6.trans (hb7.mono (by have := hq6.size; omega))
    have y7 := hP7.e.c2
    have fz7 := hP7.e.f2
    simp only at y7
    clear hP6 hq6 hb7 x6
    dsimp only
    refine hK.out _ _ hP7.p (fun hHeld => ?_)
    clear hK KK
    try simp only [Act.put, List.setIfInBounds_toArray, List.set_cons_zero, List.set_cons_succ]
    refine wpAnyH_take (i := 5) (oi := ⟨some 22, .fieldAddr 25 (.tmp 3) 2, 0, "bounds.go:74", #[⟨0, .phase⟩, ⟨1, .phase⟩, ⟨2, .phase⟩, ⟨3, .phase⟩, ⟨4, .phase⟩], none⟩) (v := (.pointer (some ⟨b + 1, 2, none⟩))) rfl (by kernel_rfl) (by kernel_rfl) (by kernel_rfl) (fun _ _ _ h => h) (Or.inl ⟨by rfl, fun w' h' => by unfold execOp; go_simp⟩) hHeld ?_
    simp only [Act.put, List.setIfInBounds_toArray, List.set_cons_zero, List.set_cons_succ]
    refine wpAnyH_ready (rs := [6]) (by kernel_rfl) (by simp) ?_
    refine AllReadyH.cons (o := ⟨none, .store 3 (.tmp 22) (.tmp 21), 0, "bounds.go:74", #[⟨5, .data⟩, ⟨4, .data⟩, ⟨4, .chain⟩, ⟨0, .phase⟩, ⟨1, .phase⟩, ⟨2, .phase⟩, ⟨3, .phase⟩, ⟨4, .phase⟩], none⟩) rfl (fun KK hK => ?_) (AllReadyH.nil)
    go_simp
    clear y7 fz7
    have hP8 := hP7.turn rfl (hP7.e.s2 (min (max e.r (max 1 p.mi)) (min 1048576 p.ma))) hg
    have hq8 := hq7.setCell (p := ⟨b + 1, 2, none⟩) (Nat.le_succ _) (.int .i64 (min (max e.r (max 1 p.mi)) (min 1048576 p.ma)))
    clear hP7 hq7
    refine hK.out _ _ hP8.p (fun hHeld => ?_)
    clear hK KK
    try simp only [Act.put, List.setIfInBounds_toArray, List.set_cons_zero, List.set_cons_succ]
    refine wpAnyH_done (by kernel_rfl) ?_ _
    generalize w7.setCell ⟨b + 1, 2, none⟩ (.int .i64 (min (max e.r (max 1 p.mi)) (min 1048576 p.ma))) = w8 at *
    have hk := hP8
    obtain ⟨⟨t0, t1, t2, t3, t4, t5, t6, t7⟩, ⟨p0, p1, p2⟩, ⟨e0, e1, e2, e3, e4, f0, f1, f2, f3, f4⟩, ⟨z0, z1, z2, z3, z4, g0, g1, g2, g3, g4⟩, hs⟩ := hk
    go_wp2_with fail
    clear t0 t1 t2 t3 t4 t5 t6 t7 p0 p1 p2 e0 e1 e2 e3 e4 f0 f1 f2 f3 f4 z0 z1 z2 z3 z4 g0 g1 g2 g3 g4 hs
    refine (keep_any _ _ _ _).mono ?_
    rintro r w9 ⟨rfl, hb9⟩
    have hP9 := hP8.later hb9
    have hq9 := hq8.trans (hb9.mono (by have := hq8.size; omega))
    clear hP8 hb9 hq8
    have hk := hP9
    obtain ⟨⟨t0, t1, t2, t3, t4, t5, t6, t7⟩, ⟨p0, p1, p2⟩, ⟨e0, e1, e2, e3, e4, f0, f1, f2, f3, f4⟩, ⟨z0, z1, z2, z3, z4, g0, g1, g2, g3, g4⟩, hs⟩ := hk
    go_wp2
    clear t0 t1 t2 t3 t4 t5 t6 t7 p0 p1 p2 e0 e1 e2 e3 e4 f0 f1 f2 f3 f4 z0 z1 z2 z3 z4 g0 g1 g2 g3 g4 hs
    have hP10 := hP9.turn rfl (hP9.e.s3 (min (max e.n 0) 20)) hg
    have hq10 := hq9.setCell (p := ⟨b + 1, 3, none⟩) (Nat.le_succ _) (.int .i64 (min (max e.n 0) 20))
    refine bodyPost_ret (res_est rfl rfl (hP10.z.set (keptE p e))) rfl ⟨rfl, ?_⟩
    have hz := below_eset hq10 (show b ≤ b + 1 + 1 by omega) (keptE p e)
    rw [hbw]
    exact hz
  · go_simp
    refine hK.out _ _ hP5.p (fun hHeld => ?_)
    clear hK KK
    try simp only [Act.put, List.setIfInBounds_toArray, List.set_cons_zero, List.set_cons_succ]
    refine wpAnyH_ready (rs := [1]) (by kernel_rfl) (by simp) ?_
    refine AllReadyH.cons (o := ⟨some 18, .call ⟨.value (.func 18), #[.tmp 17], #[23]⟩, 41, "bounds.go:74", #[⟨0, .data⟩], none⟩) rfl (fun KK hK => ?_) (AllReadyH.nil)
    go_simp
    refine (waits_any p _ hP5.t).mono ?_
    rintro r w6 ⟨rfl, hb6⟩
    have hP6 := hP5.later hb6
    have hq6 := hq5.trans (hb6.mono (by have := hq5.size; omega))
    have x6 := hP6.e.c2
    simp only at x6
    clear hP5 hq5 hb6 x5
    dsimp only
    refine hK.out _ _ hP6.p (fun hHeld => ?_)
    clear hK KK
    try simp only [Act.put, List.setIfInBounds_toArray, List.set_cons_zero, List.set_cons_succ]
    refine wpAnyH_ready (rs := [4]) (by kernel_rfl) (by simp) ?_
    refine AllReadyH.cons (o := ⟨some 21, .call ⟨.value (.func 19), #[.tmp 18, .tmp 20], #[41, 3]⟩, 3, "bounds.go:74", #[⟨1, .data⟩, ⟨3, .data⟩, ⟨1, .chain⟩], none⟩) rfl (fun KK hK => ?_) (AllReadyH.nil)
    go_simp
    refine (keep_any _ _ _ _).mono ?_
    rintro r w7 ⟨rfl, hb7⟩
    have hP7 := hP6.later hb7
    have hq7 := hq6.trans (hb7.mono (by have := hq6.size; omega))
    have y7 := hP7.e.c2
    have fz7 := hP7.e.f2
    simp only at y7
    clear hP6 hq6 hb7 x6
    dsimp only
    refine hK.out _ _ hP7.p (fun hHeld => ?_)
    clear hK KK
    try simp only [Act.put, List.setIfInBounds_toArray, List.set_cons_zero, List.set_cons_succ]
    refine wpAnyH_take (i := 5) (oi := ⟨some 22, .fieldAddr 25 (.tmp 3) 2, 0, "bounds.go:74", #[⟨0, .phase⟩, ⟨1, .phase⟩, ⟨2, .phase⟩, ⟨3, .phase⟩, ⟨4, .phase⟩], none⟩) (v := (.pointer (some ⟨b + 1, 2, none⟩))) rfl (by kernel_rfl) (by kernel_rfl) (by kernel_rfl) (fun _ _ _ h => h) (Or.inl ⟨by rfl, fun w' h' => by unfold execOp; go_simp⟩) hHeld ?_
    simp only [Act.put, List.setIfInBounds_toArray, List.set_cons_zero, List.set_cons_succ]
    refine wpAnyH_ready (rs := [6]) (by kernel_rfl) (by simp) ?_
    refine AllReadyH.cons (o := ⟨none, .store 3 (.tmp 22) (.tmp 21), 0, "bounds.go:74", #[⟨5, .data⟩, ⟨4, .data⟩, ⟨4, .chain⟩, ⟨0, .phase⟩, ⟨1, .phase⟩, ⟨2, .phase⟩, ⟨3, .phase⟩, ⟨4, .phase⟩], none⟩) rfl (fun KK hK => ?_) (AllReadyH.nil)
    go_simp
    clear y7 fz7
    have hP8 := hP7.turn rfl (hP7.e.s2 (min (max e.r (max 1 p.mi)) (min 1048576 p.ma))) hg
    have hq8 := hq7.setCell (p := ⟨b + 1, 2, none⟩) (Nat.le_succ _) (.int .i64 (min (max e.r (max 1 p.mi)) (min 1048576 p.ma)))
    clear hP7 hq7
    refine hK.out _ _ hP8.p (fun hHeld => ?_)
    clear hK KK
    try simp only [Act.put, List.setIfInBounds_toArray, List.set_cons_zero, List.set_cons_succ]
    refine wpAnyH_done (by kernel_rfl) ?_ _
    generalize w7.setCell ⟨b + 1, 2, none⟩ (.int .i64 (min (max e.r (max 1 p.mi)) (min 1048576 p.ma))) = w8 at *
    have hk := hP8
    obtain ⟨⟨t0, t1, t2, t3, t4, t5, t6, t7⟩, ⟨p0, p1, p2⟩, ⟨e0, e1, e2, e3, e4, f0, f1, f2, f3, f4⟩, ⟨z0, z1, z2, z3, z4, g0, g1, g2, g3, g4⟩, hs⟩ := hk
    go_wp2_with fail
    clear t0 t1 t2 t3 t4 t5 t6 t7 p0 p1 p2 e0 e1 e2 e3 e4 f0 f1 f2 f3 f4 z0 z1 z2 z3 z4 g0 g1 g2 g3 g4 hs
    refine (keep_any _ _ _ _).mono ?_
    rintro r w9 ⟨rfl, hb9⟩
    have hP9 := hP8.later hb9
    have hq9 := hq8.trans (hb9.mono (by have := hq8.size; omega))
    clear hP8 hb9 hq8
    have hk := hP9
    obtain ⟨⟨t0, t1, t2, t3, t4, t5, t6, t7⟩, ⟨p0, p1, p2⟩, ⟨e0, e1, e2, e3, e4, f0, f1, f2, f3, f4⟩, ⟨z0, z1, z2, z3, z4, g0, g1, g2, g3, g4⟩, hs⟩ := hk
    go_wp2
    clear t0 t1 t2 t3 t4 t5 t6 t7 p0 p1 p2 e0 e1 e2 e3 e4 f0 f1 f2 f3 f4 z0 z1 z2 z3 z4 g0 g1 g2 g3 g4 hs
    have hP10 := hP9.turn rfl (hP9.e.s3 (min (max e.n 0) 20)) hg
    have hq10 := hq9.setCell (p := ⟨b + 1, 3, none⟩) (Nat.le_succ _) (.int .i64 (min (max e.n 0) 20))
    refine bodyPost_ret (res_est rfl rfl (hP10.z.set (keptE p e))) rfl ⟨rfl, ?_⟩
    have hz := below_eset hq10 (show b ≤ b + 1 + 1 by omega) (keptE p e)
    rw [hbw]
    exact hz
end Go.Proofs.YtjaheoccofcklabDoor
