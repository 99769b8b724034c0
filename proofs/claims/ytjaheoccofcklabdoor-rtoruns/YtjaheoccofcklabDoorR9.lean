/- Wait. -/
import Derived.Test.YtjaheoccofcklabDoorR8
namespace Go.Proofs.YtjaheoccofcklabDoor
open Go.RowKit
set_option maxRecDepth 100000

set_option maxHeartbeats 2000000 in
theorem Wait_any (p : Par) (e : Est) (w : World) (hR : Rws w) :
    Calls Tryd.prog 7 #[paV p, esV e] w fun r w' => r = .returned (.int .i64 (waitF p e)) ∧ Below w.heap.size w w' := by
  have hp := PBox.of (heap_new1 w (paO p) (esO e))
  have he := EBox.of (heap_new2 w (paO p) (esO e))
  have hb := newBox2 w (paO p) (esO e)
  have hT := hR.later hb (Nat.le_refl _)
  have hs : w.heap.size + 1 < ((w.alloc (paO p)).alloc (esO e)).heap.size := by simp
  go_enter Tryd.func7, Tryd.ntmps7
  go_wp2_with fail
  refine (mayBe_any p e _ hT).mono ?_
  rintro r w1 ⟨rfl, hb1⟩
  have hp1 := hp.later hb1 (by omega)
  have he1 := he.later hb1 hs
  have hT1 := hT.later hb1 (Nat.le_refl _)
  have hq1 := hb.trans (hb1.mono hb.size)
  have hs1 := Nat.lt_of_lt_of_le hs hb1.size
  clear hp he hb hT hs hb1
  by_cases ho : May p e
  · rw [decide_eq_true ho]
    go_wp2_with fail
    have hr := rto_big ho
    have hsh : IntKind.i64.wrap (e.r * 2 ^ min e.n.toNat 64) = e.r * 2 ^ e.n.toNat := by
      have h7 := ho.2.2.2.2.2.2.2.1
      have h8 := ho.2.2.2.2.2.2.2.2.1
      rw [Nat.min_eq_left (by omega), IntKind.wrap_i64]
      omega
    have hn0 : 0 ≤ e.n := ho.2.2.2.2.2.2.2.1
    clear hr
    have hd : Below w1.heap.size w1 w1.drew := (Below.refl w1.heap.size w1).drew
    have hp2 := hp1.later hd (by omega)
    have he2 := he1.later hd hs1
    have hT2 := hT1.later hd (Nat.le_refl _)
    have hq2 := hq1.trans (hd.mono hq1.size)
    have hs2 : w.heap.size + 1 < w1.drew.heap.size := hs1
    clear hp1 he1 hT1 hq1 hs1 hd
    refine wp_region_held_drew (S := fun w' => PBox w' w.heap.size p ∧ EBox w' (w.heap.size + 1) e) (by kernel_rfl) ⟨hp2, he2⟩ (fun hHeld => ?_)
    refine wpAnyH_take (i := 0) (oi := ⟨some 9, .load 23 (.tmp 2), 23, "rto.go:41", #[], none⟩) (v := (paV p)) rfl (by kernel_rfl) (by kernel_rfl) (by kernel_rfl) (fun _ _ _ h => h) (Or.inl ⟨by rfl, fun w' h' => by have c0 := h'.1.c0; have c1 := h'.1.c1; have c2 := h'.1.c2; unfold execOp; go_simp⟩) hHeld ?_
    simp only [Act.put, List.setIfInBounds_toArray, List.set_cons_zero, List.set_cons_succ]
    refine wpAnyH_take (i := 2) (oi := ⟨some 11, .fieldAddr 25 (.tmp 3) 2, 0, "rto.go:41", #[], none⟩) (v := (.pointer (some ⟨w.heap.size + 1, 2, none⟩))) rfl (by kernel_rfl) (by kernel_rfl) (by kernel_rfl) (fun _ _ _ h => h) (Or.inl ⟨by rfl, fun w' h' => by unfold execOp; go_simp⟩) hHeld ?_
    simp only [Act.put, List.setIfInBounds_toArray, List.set_cons_zero, List.set_cons_succ]
    refine wpAnyH_take (i := 3) (oi := ⟨some 12, .load 3 (.tmp 11), 3, "rto.go:41", #[⟨2, .data⟩], none⟩) (v := (.int .i64 e.r)) rfl (by kernel_rfl) (by kernel_rfl) (by kernel_rfl) (fun _ _ _ h => h) (Or.inl ⟨by rfl, fun w' h' => by have c0 := h'.2.c2; unfold execOp; go_simp⟩) hHeld ?_
    simp only [Act.put, List.setIfInBounds_toArray, List.set_cons_zero, List.set_cons_succ]
    refine wpAnyH_take (i := 4) (oi := ⟨some 13, .fieldAddr 25 (.tmp 3) 3, 0, "rto.go:41", #[], none⟩) (v := (.pointer (some ⟨w.heap.size + 1, 3, none⟩))) rfl (by kernel_rfl) (by kernel_rfl) (by kernel_rfl) (fun _ _ _ h => h) (Or.inl ⟨by rfl, fun w' h' => by unfold execOp; go_simp⟩) hHeld ?_
    simp only [Act.put, List.setIfInBounds_toArray, List.set_cons_zero, List.set_cons_succ]
    refine wpAnyH_take (i := 5) (oi := ⟨some 14, .load 3 (.tmp 13), 3, "rto.go:41", #[⟨4, .data⟩], none⟩) (v := (.int .i64 e.n)) rfl (by kernel_rfl) (by kernel_rfl) (by kernel_rfl) (fun _ _ _ h => h) (Or.inl ⟨by rfl, fun w' h' => by have c0 := h'.2.c3; unfold execOp; go_simp⟩) hHeld ?_
    simp only [Act.put, List.setIfInBounds_toArray, List.set_cons_zero, List.set_cons_succ]
    refine wpAnyH_take (i := 6) (oi := ⟨some 15, .binOp .shl 3 (.tmp 12) (.tmp 14) 3, 3, "rto.go:41", #[⟨3, .data⟩, ⟨5, .data⟩], none⟩) (v := (.int .i64 (e.r * 2 ^ e.n.toNat))) rfl (by kernel_rfl) (by kernel_rfl) (by kernel_rfl) (fun _ _ _ h => h) (Or.inl ⟨by rfl, fun w' h' => by unfold execOp; go_simp⟩) hHeld ?_
    simp only [Act.put, List.setIfInBounds_toArray, List.set_cons_zero, List.set_cons_succ]
    refine wpAnyH_ready (rs := [1]) (by kernel_rfl) (by simp) ?_
    refine AllReadyH.cons (o := ⟨some 10, .call ⟨.value (.func 18), #[.tmp 9], #[23]⟩, 41, "rto.go:41", #[⟨0, .data⟩], none⟩) rfl (fun KK hK => ?_) (AllReadyH.nil)
    go_simp
    refine (waits_any p _ hT2).mono ?_
    rintro r w3 ⟨rfl, hb3⟩
    have hp3 := hp2.later hb3 (by omega)
    have he3 := he2.later hb3 hs2
    have hq3 := hq2.trans (hb3.mono hq2.size)
    have hs3 := Nat.lt_of_lt_of_le hs2 hb3.size
    clear hp2 he2 hT2 hq2 hs2 hb3
    dsimp only
    refine hK.out _ _ ⟨hp3, he3⟩ (fun hHeld => ?_)
    clear hK KK
    try simp only [Act.put, List.setIfInBounds_toArray, List.set_cons_zero, List.set_cons_succ]
    refine wpAnyH_ready (rs := [7]) (by kernel_rfl) (by simp) ?_
    refine AllReadyH.cons (o := ⟨some 16, .call ⟨.value (.func 19), #[.tmp 10, .tmp 15], #[41, 3]⟩, 3, "rto.go:41", #[⟨1, .data⟩, ⟨6, .data⟩, ⟨1, .chain⟩], none⟩) rfl (fun KK hK => ?_) (AllReadyH.nil)
    go_simp
    refine (keep_any _ _ _ _).mono ?_
    rintro r w4 ⟨rfl, hb4⟩
    rw [wait_keep ho]
    have hp4 := hp3.later hb4 (by omega)
    have he4 := he3.later hb4 hs3
    have hq4 := hq3.trans (hb4.mono hq3.size)
    clear hp3 he3 hq3 hs3 hb4
    dsimp only
    refine hK.out _ _ ⟨hp4, he4⟩ (fun hHeld => ?_)
    clear hK KK
    try simp only [Act.put, List.setIfInBounds_toArray, List.set_cons_zero, List.set_cons_succ]
    refine wpAnyH_take (i := 8) (oi := ⟨some 4, .assign (.tmp 16), 3, "rto.go:41", #[⟨7, .data⟩, ⟨7, .chain⟩, ⟨0, .phase⟩, ⟨1, .phase⟩, ⟨2, .phase⟩, ⟨3, .phase⟩, ⟨4, .phase⟩, ⟨5, .phase⟩, ⟨6, .phase⟩, ⟨7, .phase⟩], none⟩) (v := (.int .i64 (waitF p e))) rfl (by kernel_rfl) (by kernel_rfl) (by kernel_rfl) (fun _ _ _ h => h) (Or.inl ⟨by rfl, fun _ _ => by rfl⟩) hHeld ?_
    simp only [Act.put, List.setIfInBounds_toArray, List.set_cons_zero, List.set_cons_succ]
    refine wpAnyH_done (by kernel_rfl) ?_ _
    go_wp2
    go_ret
    exact ⟨rfl, hq4⟩
  · rw [decide_eq_false ho]
    go_wp2
    go_ret
    exact ⟨by simp only [waitF, if_neg ho]; rfl, hq1⟩

set_option maxHeartbeats 2000000 in
theorem Expire_any (p : Par) (e : Est) (w : World) (hR : Rws w) :
    Calls Tryd.prog 9 #[paV p, esV e] w fun r w' => r = .returned (esV (expF p e)) ∧ Below w.heap.size w w' := by
  have hP := PER.new p e hR
  have hb := newBox3 w (paO p) (esO e) zO
  have hg := hR.lt
  go_enter Tryd.func9, Tryd.ntmps9
  obtain ⟨b, hbw⟩ : ∃ b, w.heap.size = b := ⟨_, rfl⟩
  obtain ⟨W, hW⟩ : ∃ W, ((w.alloc (paO p)).alloc (esO e)).alloc zO = W := ⟨_, rfl⟩
  rw [hW] at hP hb
  rw [hbw] at hP hb hg
  have hk := hP
  obtain ⟨⟨t0, t1, t2, t3, t4, t5, t6, t7⟩, ⟨p0, p1, p2⟩, ⟨e0, e1, e2, e3, e4, f0, f1, f2, f3, f4⟩, ⟨z0, z1, z2, z3, z4, g0, g1, g2, g3, g4⟩, hs⟩ := hk
  go_wp2_with fail
  clear hW
  clear t0 t1 t2 t3 t4 t5 t6 t7 p0 p1 p2 e0 e1 e2 e3 e4 f0 f1 f2 f3 f4 z0 z1 z2 z3 z4 g0 g1 g2 g3 g4 hs
  refine (mayBe_any p e _ hP.t).mono ?_
  rintro r w1 ⟨rfl, hb1⟩
  have hP1 := hP.later hb1
  have hq1 := hb.trans (hb1.mono (by have := hb.size; omega))
  clear hP hb hb1
  rcases (Decidable.em (May p e)).symm with ho | ho
  · rw [decide_eq_false ho]
    have hk := hP1
    obtain ⟨⟨t0, t1, t2, t3, t4, t5, t6, t7⟩, ⟨p0, p1, p2⟩, ⟨e0, e1, e2, e3, e4, f0, f1, f2, f3, f4⟩, ⟨z0, z1, z2, z3, z4, g0, g1, g2, g3, g4⟩, hs⟩ := hk
    go_wp2
    clear t0 t1 t2 t3 t4 t5 t6 t7 p0 p1 p2 e0 e1 e2 e3 e4 f0 f1 f2 f3 f4 z0 z1 z2 z3 z4 g0 g1 g2 g3 g4 hs
    refine bodyPost_ret (res_est rfl rfl (hP1.z.set esZ)) rfl ⟨?_, ?_⟩
    · simp only [expF, if_neg ho]
    · rw [hbw]
      exact below_eset hq1 (show b ≤ b + 1 + 1 by omega) esZ
  rw [decide_eq_true ho]
  go_wp2_with fail
  have hd1 : Below w1.heap.size w1 w1.drew := (Below.refl w1.heap.size w1).drew
  have hP2 := hP1.later hd1
  have hq2 := hq1.trans (hd1.mono (by have := hq1.size; omega))
  clear hP1 hd1 hq1
  refine wp_region_held_drew (S := fun w' => PBox w' b p ∧ EBox w' (b + 1) e) (by kernel_rfl) ⟨hP2.p, hP2.e⟩ (fun hHeld => ?_)
  refine wpAnyH_take (i := 0) (oi := ⟨some 10, .load 23 (.tmp 2), 23, "rto.go:30", #[], none⟩) (v := (paV p)) rfl (by kernel_rfl) (by kernel_rfl) (by kernel_rfl) (fun _ _ _ h => h) (Or.inl ⟨by rfl, fun w' h' => by have c0 := h'.1.c0; have c1 := h'.1.c1; have c2 := h'.1.c2; unfold execOp; go_simp⟩) hHeld ?_
  simp only [Act.put, List.setIfInBounds_toArray, List.set_cons_zero, List.set_cons_succ]
  refine wpAnyH_take (i := 1) (oi := ⟨some 11, .load 25 (.tmp 3), 25, "rto.go:30", #[], none⟩) (v := (esV e)) rfl (by kernel_rfl) (by kernel_rfl) (by kernel_rfl) (fun _ _ _ h => h) (Or.inl ⟨by rfl, fun w' h' => by have c0 := h'.2.c0; have c1 := h'.2.c1; have c2 := h'.2.c2; have c3 := h'.2.c3; have c4 := h'.2.c4; unfold execOp; go_simp⟩) hHeld ?_
  simp only [Act.put, List.setIfInBounds_toArray, List.set_cons_zero, List.set_cons_succ]
  refine wpAnyH_take (i := 3) (oi := ⟨some 13, .fieldAddr 23 (.tmp 2) 2, 0, "rto.go:30", #[], none⟩) (v := (.pointer (some ⟨b, 2, none⟩))) rfl (by kernel_rfl) (by kernel_rfl) (by kernel_rfl) (fun _ _ _ h => h) (Or.inl ⟨by rfl, fun w' h' => by unfold execOp; go_simp⟩) hHeld ?_
  simp only [Act.put, List.setIfInBounds_toArray, List.set_cons_zero, List.set_cons_succ]
  refine wpAnyH_take (i := 4) (oi := ⟨some 14, .load 3 (.tmp 13), 3, "rto.go:30", #[⟨3, .data⟩], none⟩) (v := (.int .i64 p.ma)) rfl (by kernel_rfl) (by kernel_rfl) (by kernel_rfl) (fun _ _ _ h => h) (Or.inl ⟨by rfl, fun w' h' => by have c0 := h'.1.c2; unfold execOp; go_simp⟩) hHeld ?_
  simp only [Act.put, List.setIfInBounds_toArray, List.set_cons_zero, List.set_cons_succ]
  refine wpAnyH_ready (rs := [2]) (by kernel_rfl) (by simp) ?_
  refine AllReadyH.cons (o := ⟨some 12, .call ⟨.value (.func 7), #[.tmp 10, .tmp 11], #[23, 25]⟩, 3, "rto.go:30", #[⟨0, .data⟩, ⟨1, .data⟩], none⟩) rfl (fun KK hK => ?_) (AllReadyH.nil)
  go_simp
  refine (Wait_any p e _ hP2.t).mono ?_
  rintro r w3 ⟨rfl, hb3⟩
  have hP3 := hP2.later hb3
  have hq3 := hq2.trans (hb3.mono (by have := hq2.size; omega))
  clear hP2 hq2 hb3
  dsimp only
  refine hK.out _ _ ⟨hP3.p, hP3.e⟩ (fun hHeld => ?_)
  clear hK KK
  try simp only [Act.put, List.setIfInBounds_toArray, List.set_cons_zero, List.set_cons_succ]
  refine wpAnyH_take (i := 5) (oi := ⟨some 15, .binOp .lss 3 (.tmp 12) (.tmp 14) 3, 4, "rto.go:30", #[⟨2, .data⟩, ⟨4, .data⟩], none⟩) (v := (.bool (decide (waitF p e < p.ma)))) rfl (by kernel_rfl) (by kernel_rfl) (by kernel_rfl) (fun _ _ _ h => h) (Or.inl ⟨by rfl, fun w' h' => by unfold execOp; go_simp⟩) hHeld ?_
  simp only [Act.put, List.setIfInBounds_toArray, List.set_cons_zero, List.set_cons_succ]
  refine wpAnyH_done (by kernel_rfl) ?_ _
  by_cases hw : waitF p e < p.ma
  · have hx := exp_keep ho hw
    have hn0 : 0 ≤ e.n := ho.2.2.2.2.2.2.2.1
    have hn1 : e.n + 1 ≤ 20 := hx.2
    rw [decide_eq_true hw]
    have hk := hP3
    obtain ⟨⟨t0, t1, t2, t3, t4, t5, t6, t7⟩, ⟨p0, p1, p2⟩, ⟨e0, e1, e2, e3, e4, f0, f1, f2, f3, f4⟩, ⟨z0, z1, z2, z3, z4, g0, g1, g2, g3, g4⟩, hs⟩ := hk
    go_wp2_with fail
    clear t0 t1 t2 t3 t4 t5 t6 t7 p0 p1 p2 e0 e1 e2 e3 e4 f0 f1 f2 f3 f4 z0 z1 z2 z3 z4 g0 g1 g2 g3 g4 hs
    have hP4 := hP3.turn rfl (hP3.e.s3 (e.n + 1)) hg
    have hq4 := hq3.setCell (p := ⟨b + 1, 3, none⟩) (Nat.le_succ _) (.int .i64 (e.n + 1))
    clear hP3 hq3
    generalize w3.setCell ⟨b + 1, 3, none⟩ (.int .i64 (e.n + 1)) = w4 at *
    refine (kept_any p { e with n := e.n + 1 } _ hP4.t).mono ?_
    rintro r w5 ⟨he, hb5⟩
    rw [hx.1] at he
    subst he
    have hP5 := hP4.later hb5
    have hq5 := hq4.trans (hb5.mono (by have := hq4.size; omega))
    clear hP4 hq4 hb5
    have hk := hP5
    obtain ⟨⟨t0, t1, t2, t3, t4, t5, t6, t7⟩, ⟨p0, p1, p2⟩, ⟨e0, e1, e2, e3, e4, f0, f1, f2, f3, f4⟩, ⟨z0, z1, z2, z3, z4, g0, g1, g2, g3, g4⟩, hs⟩ := hk
    go_wp2
    clear t0 t1 t2 t3 t4 t5 t6 t7 p0 p1 p2 e0 e1 e2 e3 e4 f0 f1 f2 f3 f4 z0 z1 z2 z3 z4 g0 g1 g2 g3 g4 hs
    refine bodyPost_ret (res_est rfl rfl (hP5.z.set { e with n := e.n + 1 })) rfl ⟨?_, ?_⟩
    · simp only [expF, if_pos ho, if_pos hw]
    · rw [hbw]
      exact below_eset hq5 (show b ≤ b + 1 + 1 by omega) { e with n := e.n + 1 }
  · rw [decide_eq_false hw]
    have hk := hP3
    obtain ⟨⟨t0, t1, t2, t3, t4, t5, t6, t7⟩, ⟨p0, p1, p2⟩, ⟨e0, e1, e2, e3, e4, f0, f1, f2, f3, f4⟩, ⟨z0, z1, z2, z3, z4, g0, g1, g2, g3, g4⟩, hs⟩ := hk
    go_wp2_with fail
    clear t0 t1 t2 t3 t4 t5 t6 t7 p0 p1 p2 e0 e1 e2 e3 e4 f0 f1 f2 f3 f4 z0 z1 z2 z3 z4 g0 g1 g2 g3 g4 hs
    refine (kept_any p e _ hP3.t).mono ?_
    rintro r w5 ⟨he, hb5⟩
    rw [ho.keep] at he
    subst he
    have hP5 := hP3.later hb5
    have hq5 := hq3.trans (hb5.mono (by have := hq3.size; omega))
    clear hP3 hq3 hb5
    have hk := hP5
    obtain ⟨⟨t0, t1, t2, t3, t4, t5, t6, t7⟩, ⟨p0, p1, p2⟩, ⟨e0, e1, e2, e3, e4, f0, f1, f2, f3, f4⟩, ⟨z0, z1, z2, z3, z4, g0, g1, g2, g3, g4⟩, hs⟩ := hk
    go_wp2
    clear t0 t1 t2 t3 t4 t5 t6 t7 p0 p1 p2 e0 e1 e2 e3 e4 f0 f1 f2 f3 f4 z0 z1 z2 z3 z4 g0 g1 g2 g3 g4 hs
    refine bodyPost_ret (res_est rfl rfl (hP5.z.set e)) rfl ⟨?_, ?_⟩
    · simp only [expF, if_pos ho, if_neg (Int.not_lt.2 hw)]
    · rw [hbw]
      exact below_eset hq5 (show b ≤ b + 1 + 1 by omega) e

end Go.Proofs.YtjaheoccofcklabDoor
