/- The document's Start and Sample. -/
import Derived.Test.YtjaheoccofcklabDoorR10
namespace Go.Proofs.YtjaheoccofcklabDoor
open Go.RowKit
set_option maxRecDepth 100000

set_option maxHeartbeats 2000000 in
theorem dStart_any (p : Par) (w : World) :
    Calls Tryd.prog 13 #[paV p] w fun r w' => r = .returned (.tuple #[esV (startF p), .int .i64 (startE p)]) ∧ Below w.heap.size w w' := by
  have hp := PBox.of (heap_new1 w (paO p) zO)
  have hz := EBox.of (e := esZ) (heap_new2 w (paO p) zO)
  have hb := newBox2 w (paO p) zO
  have hs : w.heap.size + 1 < ((w.alloc (paO p)).alloc zO).heap.size := by simp
  go_enter Tryd.func13, Tryd.ntmps13
  go_wp2_with fail
  refine (dRight_any p ((w.alloc (paO p)).alloc zO)).mono ?_
  rintro r w1 ⟨rfl, hb1⟩
  have hp1 := hp.later hb1 (by omega)
  have hz1 := hz.later hb1 hs
  have hq1 := hb.trans (hb1.mono hb.size)
  clear hp hz hb hs hb1
  have hzk := hz1
  obtain ⟨p0, p1, p2⟩ := hp1
  obtain ⟨z0, z1, z2, z3, z4, g0, g1, g2, g3, g4⟩ := hz1
  by_cases ho : Ok p
  · rw [decide_eq_true ho]
    go_wp2
    refine bodyPost_ret (res_est2 rfl rfl (hzk.set ⟨0, 0, p.fi, 0, false⟩)) rfl ⟨?_, below_eset hq1 (Nat.le_succ _) ⟨0, 0, p.fi, 0, false⟩⟩
    simp only [startF, startE, if_pos ho]
    rfl
  · rw [decide_eq_false ho]
    go_wp2
    refine bodyPost_ret (res_est2 rfl rfl (hzk.set esZ)) rfl ⟨?_, below_eset hq1 (Nat.le_succ _) esZ⟩
    simp only [startF, startE, if_neg ho]
    rfl

theorem end_est {fn : Func} {Q : Ending → World → Prop} {q : Tmp} {tmps : Array Value} {w : World} {b : Nat} {z : Est} {S V R N : Int} {K : Bool} (hf : fn.results = #[.cell q 25]) (hq : tmps.getD q undef = .pointer (some ⟨b, 0, none⟩)) (hz : EBox w b z)
    (hQ : Q (.returned (esV ⟨S, V, R, N, K⟩)) (eset w b ⟨S, V, R, N, K⟩)) :
    bodyPost Tryd.prog fn Q .ret ⟨tmps, []⟩ (((((w.setCell ⟨b, 0, none⟩ (.int .i64 S)).setCell ⟨b, 1, none⟩ (.int .i64 V)).setCell ⟨b, 2, none⟩ (.int .i64 R)).setCell ⟨b, 3, none⟩ (.int .i64 N)).setCell ⟨b, 4, none⟩ (.bool K)) :=
  bodyPost_ret (res_est hf hq (hz.set ⟨S, V, R, N, K⟩)) rfl hQ

theorem end_est2 {fn : Func} {Q : Ending → World → Prop} {q : Tmp} {tmps : Array Value} {w : World} {b : Nat} {z : Est} {S V R N : Int} {K : Bool} {o : Obj} (hf : fn.results = #[.cell q 25]) (hq : tmps.getD q undef = .pointer (some ⟨b, 0, none⟩)) (hz : EBox w b z) (hb : b < w.heap.size)
    (hQ : Q (.returned (esV ⟨S, V, R, N, K⟩)) ((eset w b ⟨S, V, R, N, K⟩).alloc o)) :
    bodyPost Tryd.prog fn Q .ret ⟨tmps, []⟩ ((((((w.setCell ⟨b, 0, none⟩ (.int .i64 S)).setCell ⟨b, 1, none⟩ (.int .i64 V)).setCell ⟨b, 2, none⟩ (.int .i64 R)).setCell ⟨b, 3, none⟩ (.int .i64 N)).setCell ⟨b, 4, none⟩ (.bool K)).alloc o) :=
  bodyPost_ret (res_est hf hq ((hz.set ⟨S, V, R, N, K⟩).later (newBox _ o) (Nat.lt_of_lt_of_le hb (below_eset (Below.refl 0 w) (Nat.zero_le _) ⟨S, V, R, N, K⟩).size))) rfl hQ

theorem samp_eq {p : Par} {e : Est} (ho : May p e) {x y : Int} (hy : trip x = y) {S V R : Int} (hS : S = (learnE e y).s) (hV : V = (learnE e y).v) (hR : R = min (max (S / 8 + max V 1) p.mi) p.ma) : (⟨S, V, R, 0, true⟩ : Est) = sampF p e x := by
  unfold sampF
  rw [if_pos ho, hy]
  subst hS hV hR
  rfl

set_option maxHeartbeats 2000000 in
theorem dSample_no (p : Par) (e : Est) (x : Int) (w : World) (ho : ¬ May p e) :
    Calls Tryd.prog 16 #[paV p, esV e, .int .i64 x] w fun R w' => R = .returned (esV (sampF p e x)) ∧ Below w.heap.size w w' := by
  have hz : EBox (((w.alloc (paO p)).alloc (esO e)).alloc zO) (w.heap.size + 1 + 1) esZ := EBox.of (e := esZ) (heap_new33 w (paO p) (esO e) zO)
  have hb := newBox3 w (paO p) (esO e) zO
  have hs : w.heap.size + 1 + 1 < (((w.alloc (paO p)).alloc (esO e)).alloc zO).heap.size := by simp
  go_enter Tryd.func16, Tryd.ntmps16
  go_wp2_with fail
  refine (dFits_any p e (((w.alloc (paO p)).alloc (esO e)).alloc zO)).mono ?_
  rintro R w1 ⟨rfl, hb1⟩
  rw [decide_eq_false ho]
  have hz1 := hz.later hb1 hs
  have hq1 := hb.trans (hb1.mono hb.size)
  have hzk := hz1
  obtain ⟨z0, z1, z2, z3, z4, g0, g1, g2, g3, g4⟩ := hz1
  go_wp2
  refine end_est rfl rfl hzk ⟨?_, ?_⟩
  · simp only [sampF, if_neg ho]
    rfl
  · exact below_eset hq1 (show w.heap.size ≤ w.heap.size + 1 + 1 by omega) _

set_option maxHeartbeats 4000000 in
theorem dSample_t0 (p : Par) (s v r n : Int) (x : Int) (w : World) (ho : May p ⟨s, v, r, n, true⟩) (hx : x < 1) :
    Calls Tryd.prog 16 #[paV p, esV ⟨s, v, r, n, true⟩, .int .i64 x] w fun R w' => R = .returned (esV (sampF p ⟨s, v, r, n, true⟩ x)) ∧ Below w.heap.size w w' := by
  have hp := PBox.of (heap_new31 w (paO p) (esO ⟨s, v, r, n, true⟩) zO)
  have he := EBox.of (e := ⟨s, v, r, n, true⟩) (heap_new32 w (paO p) (esO ⟨s, v, r, n, true⟩) zO)
  have hz : EBox (((w.alloc (paO p)).alloc (esO ⟨s, v, r, n, true⟩)).alloc zO) (w.heap.size + 1 + 1) esZ := EBox.of (e := esZ) (heap_new33 w (paO p) (esO ⟨s, v, r, n, true⟩) zO)
  have hb := newBox3 w (paO p) (esO ⟨s, v, r, n, true⟩) zO
  have hs : w.heap.size + 1 + 1 < (((w.alloc (paO p)).alloc (esO ⟨s, v, r, n, true⟩)).alloc zO).heap.size := by simp
  have dx0 : decide (x < 1) = true := decide_eq_true hx
  have hy : trip x = 1 := by unfold trip; omega
  go_enter Tryd.func16, Tryd.ntmps16
  go_wp2_with fail
  refine (dFits_any p ⟨s, v, r, n, true⟩ (((w.alloc (paO p)).alloc (esO ⟨s, v, r, n, true⟩)).alloc zO)).mono ?_
  rintro R w1 ⟨rfl, hb1⟩
  rw [decide_eq_true ho]
  have hp1 := hp.later hb1 (by omega)
  have he1 := he.later hb1 (by omega)
  have hz1 := hz.later hb1 hs
  have hq1 := hb.trans (hb1.mono hb.size)
  have hs1 := Nat.lt_of_lt_of_le hs hb1.size
  clear hp he hz hb hs hb1
  have p0 := fun o => (hp1.later (newBox w1 o) (by omega)).c0
  have p1 := fun o => (hp1.later (newBox w1 o) (by omega)).c1
  have p2 := fun o => (hp1.later (newBox w1 o) (by omega)).c2
  have e0 := fun o => (he1.later (newBox w1 o) (by omega)).c0
  have e1 := fun o => (he1.later (newBox w1 o) (by omega)).c1
  have e2 := fun o => (he1.later (newBox w1 o) (by omega)).c2
  have e3 := fun o => (he1.later (newBox w1 o) (by omega)).c3
  have e4 := fun o => (he1.later (newBox w1 o) (by omega)).c4
  have z0 := fun o => (hz1.later (newBox w1 o) hs1).c0
  have g0 := fun o => (hz1.later (newBox w1 o) hs1).f0
  have z1 := fun o => (hz1.later (newBox w1 o) hs1).c1
  have g1 := fun o => (hz1.later (newBox w1 o) hs1).f1
  have z2 := fun o => (hz1.later (newBox w1 o) hs1).c2
  have g2 := fun o => (hz1.later (newBox w1 o) hs1).f2
  have z3 := fun o => (hz1.later (newBox w1 o) hs1).c3
  have g3 := fun o => (hz1.later (newBox w1 o) hs1).f3
  have z4 := fun o => (hz1.later (newBox w1 o) hs1).c4
  have g4 := fun o => (hz1.later (newBox w1 o) hs1).f4
  have y0 := hz1.c0
  have u0 := hz1.f0
  have y1 := hz1.c1
  have u1 := hz1.f1
  have y2 := hz1.c2
  have u2 := hz1.f2
  have y3 := hz1.c3
  have u3 := hz1.f3
  have y4 := hz1.c4
  have u4 := hz1.f4
  obtain ⟨hs0, hs3, hv0, hv1, hr0, hr1, _⟩ := ho.2
  simp only at hs0 hs3 hv0 hv1 hr0 hr1 e0 e1 e2 e3 e4
  have hq : s.tdiv 8 = s / 8 := Int.tdiv_eq_ediv_of_nonneg hs0
  have hq4 : v.tdiv 4 = v / 4 := Int.tdiv_eq_ediv_of_nonneg hv0
  go_wp2
  all_goals
    refine end_est2 rfl rfl hz1 hs1 ⟨?_, ?_⟩
    rotate_left
    · have hx := below_eset hq1 (show w.heap.size ≤ w.heap.size + 1 + 1 by omega)
      exact (hx _).trans ((newBox _ _).mono (hx _).size)
    refine congrArg (fun E => Ending.returned (esV E)) (samp_eq ho hy ?_ ?_ ?_)
    · simp only [learnE, if_true] <;> omega
    · simp only [learnE, if_true] <;> omega
    · clear p0 p1 p2 e0 e1 e2 e3 e4 z0 z1 z2 z3 z4 g0 g1 g2 g3 g4 y0 y1 y2 y3 y4 u0 u1 u2 u3 u4 hp1 he1 hz1 hq1
      try simp only [beq_iff_eq] at *
      try simp only [beq_eq_false_iff_ne] at *
      simp only [Int.min_def, Int.max_def]
      repeat' split
      all_goals omega

set_option maxHeartbeats 4000000 in
theorem dSample_t1 (p : Par) (s v r n : Int) (x : Int) (w : World) (ho : May p ⟨s, v, r, n, true⟩) (hx0 : ¬ x < 1) (hx1 : ¬ 1048576 < x) :
    Calls Tryd.prog 16 #[paV p, esV ⟨s, v, r, n, true⟩, .int .i64 x] w fun R w' => R = .returned (esV (sampF p ⟨s, v, r, n, true⟩ x)) ∧ Below w.heap.size w w' := by
  have hp := PBox.of (heap_new31 w (paO p) (esO ⟨s, v, r, n, true⟩) zO)
  have he := EBox.of (e := ⟨s, v, r, n, true⟩) (heap_new32 w (paO p) (esO ⟨s, v, r, n, true⟩) zO)
  have hz : EBox (((w.alloc (paO p)).alloc (esO ⟨s, v, r, n, true⟩)).alloc zO) (w.heap.size + 1 + 1) esZ := EBox.of (e := esZ) (heap_new33 w (paO p) (esO ⟨s, v, r, n, true⟩) zO)
  have hb := newBox3 w (paO p) (esO ⟨s, v, r, n, true⟩) zO
  have hs : w.heap.size + 1 + 1 < (((w.alloc (paO p)).alloc (esO ⟨s, v, r, n, true⟩)).alloc zO).heap.size := by simp
  have dx0 : decide (x < 1) = false := decide_eq_false hx0
  have dx1 : decide (1048576 < x) = false := decide_eq_false hx1
  have hy : trip x = x := by unfold trip; omega
  go_enter Tryd.func16, Tryd.ntmps16
  go_wp2_with fail
  refine (dFits_any p ⟨s, v, r, n, true⟩ (((w.alloc (paO p)).alloc (esO ⟨s, v, r, n, true⟩)).alloc zO)).mono ?_
  rintro R w1 ⟨rfl, hb1⟩
  rw [decide_eq_true ho]
  have hp1 := hp.later hb1 (by omega)
  have he1 := he.later hb1 (by omega)
  have hz1 := hz.later hb1 hs
  have hq1 := hb.trans (hb1.mono hb.size)
  have hs1 := Nat.lt_of_lt_of_le hs hb1.size
  clear hp he hz hb hs hb1
  have p0 := fun o => (hp1.later (newBox w1 o) (by omega)).c0
  have p1 := fun o => (hp1.later (newBox w1 o) (by omega)).c1
  have p2 := fun o => (hp1.later (newBox w1 o) (by omega)).c2
  have e0 := fun o => (he1.later (newBox w1 o) (by omega)).c0
  have e1 := fun o => (he1.later (newBox w1 o) (by omega)).c1
  have e2 := fun o => (he1.later (newBox w1 o) (by omega)).c2
  have e3 := fun o => (he1.later (newBox w1 o) (by omega)).c3
  have e4 := fun o => (he1.later (newBox w1 o) (by omega)).c4
  have z0 := fun o => (hz1.later (newBox w1 o) hs1).c0
  have g0 := fun o => (hz1.later (newBox w1 o) hs1).f0
  have z1 := fun o => (hz1.later (newBox w1 o) hs1).c1
  have g1 := fun o => (hz1.later (newBox w1 o) hs1).f1
  have z2 := fun o => (hz1.later (newBox w1 o) hs1).c2
  have g2 := fun o => (hz1.later (newBox w1 o) hs1).f2
  have z3 := fun o => (hz1.later (newBox w1 o) hs1).c3
  have g3 := fun o => (hz1.later (newBox w1 o) hs1).f3
  have z4 := fun o => (hz1.later (newBox w1 o) hs1).c4
  have g4 := fun o => (hz1.later (newBox w1 o) hs1).f4
  have y0 := hz1.c0
  have u0 := hz1.f0
  have y1 := hz1.c1
  have u1 := hz1.f1
  have y2 := hz1.c2
  have u2 := hz1.f2
  have y3 := hz1.c3
  have u3 := hz1.f3
  have y4 := hz1.c4
  have u4 := hz1.f4
  obtain ⟨hs0, hs3, hv0, hv1, hr0, hr1, _⟩ := ho.2
  simp only at hs0 hs3 hv0 hv1 hr0 hr1 e0 e1 e2 e3 e4
  have hq : s.tdiv 8 = s / 8 := Int.tdiv_eq_ediv_of_nonneg hs0
  have hq4 : v.tdiv 4 = v / 4 := Int.tdiv_eq_ediv_of_nonneg hv0
  go_wp2
  all_goals
    refine end_est2 rfl rfl hz1 hs1 ⟨?_, ?_⟩
    rotate_left
    · have hx := below_eset hq1 (show w.heap.size ≤ w.heap.size + 1 + 1 by omega)
      exact (hx _).trans ((newBox _ _).mono (hx _).size)
    refine congrArg (fun E => Ending.returned (esV E)) (samp_eq ho hy ?_ ?_ ?_)
    · simp only [learnE, if_true] <;> omega
    · simp only [learnE, if_true] <;> omega
    · clear p0 p1 p2 e0 e1 e2 e3 e4 z0 z1 z2 z3 z4 g0 g1 g2 g3 g4 y0 y1 y2 y3 y4 u0 u1 u2 u3 u4 hp1 he1 hz1 hq1
      try simp only [beq_iff_eq] at *
      try simp only [beq_eq_false_iff_ne] at *
      simp only [Int.min_def, Int.max_def]
      repeat' split
      all_goals omega

set_option maxHeartbeats 4000000 in
theorem dSample_t2 (p : Par) (s v r n : Int) (x : Int) (w : World) (ho : May p ⟨s, v, r, n, true⟩) (hx1 : 1048576 < x) :
    Calls Tryd.prog 16 #[paV p, esV ⟨s, v, r, n, true⟩, .int .i64 x] w fun R w' => R = .returned (esV (sampF p ⟨s, v, r, n, true⟩ x)) ∧ Below w.heap.size w w' := by
  have hp := PBox.of (heap_new31 w (paO p) (esO ⟨s, v, r, n, true⟩) zO)
  have he := EBox.of (e := ⟨s, v, r, n, true⟩) (heap_new32 w (paO p) (esO ⟨s, v, r, n, true⟩) zO)
  have hz : EBox (((w.alloc (paO p)).alloc (esO ⟨s, v, r, n, true⟩)).alloc zO) (w.heap.size + 1 + 1) esZ := EBox.of (e := esZ) (heap_new33 w (paO p) (esO ⟨s, v, r, n, true⟩) zO)
  have hb := newBox3 w (paO p) (esO ⟨s, v, r, n, true⟩) zO
  have hs : w.heap.size + 1 + 1 < (((w.alloc (paO p)).alloc (esO ⟨s, v, r, n, true⟩)).alloc zO).heap.size := by simp
  have dx0 : decide (x < 1) = false := decide_eq_false (by omega)
  have dx1 : decide (1048576 < x) = true := decide_eq_true hx1
  have hy : trip x = 1048576 := by unfold trip; omega
  go_enter Tryd.func16, Tryd.ntmps16
  go_wp2_with fail
  refine (dFits_any p ⟨s, v, r, n, true⟩ (((w.alloc (paO p)).alloc (esO ⟨s, v, r, n, true⟩)).alloc zO)).mono ?_
  rintro R w1 ⟨rfl, hb1⟩
  rw [decide_eq_true ho]
  have hp1 := hp.later hb1 (by omega)
  have he1 := he.later hb1 (by omega)
  have hz1 := hz.later hb1 hs
  have hq1 := hb.trans (hb1.mono hb.size)
  have hs1 := Nat.lt_of_lt_of_le hs hb1.size
  clear hp he hz hb hs hb1
  have p0 := fun o => (hp1.later (newBox w1 o) (by omega)).c0
  have p1 := fun o => (hp1.later (newBox w1 o) (by omega)).c1
  have p2 := fun o => (hp1.later (newBox w1 o) (by omega)).c2
  have e0 := fun o => (he1.later (newBox w1 o) (by omega)).c0
  have e1 := fun o => (he1.later (newBox w1 o) (by omega)).c1
  have e2 := fun o => (he1.later (newBox w1 o) (by omega)).c2
  have e3 := fun o => (he1.later (newBox w1 o) (by omega)).c3
  have e4 := fun o => (he1.later (newBox w1 o) (by omega)).c4
  have z0 := fun o => (hz1.later (newBox w1 o) hs1).c0
  have g0 := fun o => (hz1.later (newBox w1 o) hs1).f0
  have z1 := fun o => (hz1.later (newBox w1 o) hs1).c1
  have g1 := fun o => (hz1.later (newBox w1 o) hs1).f1
  have z2 := fun o => (hz1.later (newBox w1 o) hs1).c2
  have g2 := fun o => (hz1.later (newBox w1 o) hs1).f2
  have z3 := fun o => (hz1.later (newBox w1 o) hs1).c3
  have g3 := fun o => (hz1.later (newBox w1 o) hs1).f3
  have z4 := fun o => (hz1.later (newBox w1 o) hs1).c4
  have g4 := fun o => (hz1.later (newBox w1 o) hs1).f4
  have y0 := hz1.c0
  have u0 := hz1.f0
  have y1 := hz1.c1
  have u1 := hz1.f1
  have y2 := hz1.c2
  have u2 := hz1.f2
  have y3 := hz1.c3
  have u3 := hz1.f3
  have y4 := hz1.c4
  have u4 := hz1.f4
  obtain ⟨hs0, hs3, hv0, hv1, hr0, hr1, _⟩ := ho.2
  simp only at hs0 hs3 hv0 hv1 hr0 hr1 e0 e1 e2 e3 e4
  have hq : s.tdiv 8 = s / 8 := Int.tdiv_eq_ediv_of_nonneg hs0
  have hq4 : v.tdiv 4 = v / 4 := Int.tdiv_eq_ediv_of_nonneg hv0
  go_wp2
  all_goals
    refine end_est2 rfl rfl hz1 hs1 ⟨?_, ?_⟩
    rotate_left
    · have hx := below_eset hq1 (show w.heap.size ≤ w.heap.size + 1 + 1 by omega)
      exact (hx _).trans ((newBox _ _).mono (hx _).size)
    refine congrArg (fun E => Ending.returned (esV E)) (samp_eq ho hy ?_ ?_ ?_)
    · simp only [learnE, if_true] <;> omega
    · simp only [learnE, if_true] <;> omega
    · clear p0 p1 p2 e0 e1 e2 e3 e4 z0 z1 z2 z3 z4 g0 g1 g2 g3 g4 y0 y1 y2 y3 y4 u0 u1 u2 u3 u4 hp1 he1 hz1 hq1
      try simp only [beq_iff_eq] at *
      try simp only [beq_eq_false_iff_ne] at *
      simp only [Int.min_def, Int.max_def]
      repeat' split
      all_goals omega

set_option maxHeartbeats 4000000 in
theorem dSample_f0 (p : Par) (s v r n : Int) (x : Int) (w : World) (ho : May p ⟨s, v, r, n, false⟩) (hx : x < 1) :
    Calls Tryd.prog 16 #[paV p, esV ⟨s, v, r, n, false⟩, .int .i64 x] w fun R w' => R = .returned (esV (sampF p ⟨s, v, r, n, false⟩ x)) ∧ Below w.heap.size w w' := by
  have hp := PBox.of (heap_new31 w (paO p) (esO ⟨s, v, r, n, false⟩) zO)
  have he := EBox.of (e := ⟨s, v, r, n, false⟩) (heap_new32 w (paO p) (esO ⟨s, v, r, n, false⟩) zO)
  have hz : EBox (((w.alloc (paO p)).alloc (esO ⟨s, v, r, n, false⟩)).alloc zO) (w.heap.size + 1 + 1) esZ := EBox.of (e := esZ) (heap_new33 w (paO p) (esO ⟨s, v, r, n, false⟩) zO)
  have hb := newBox3 w (paO p) (esO ⟨s, v, r, n, false⟩) zO
  have hs : w.heap.size + 1 + 1 < (((w.alloc (paO p)).alloc (esO ⟨s, v, r, n, false⟩)).alloc zO).heap.size := by simp
  have dx0 : decide (x < 1) = true := decide_eq_true hx
  have hy : trip x = 1 := by unfold trip; omega
  go_enter Tryd.func16, Tryd.ntmps16
  go_wp2_with fail
  refine (dFits_any p ⟨s, v, r, n, false⟩ (((w.alloc (paO p)).alloc (esO ⟨s, v, r, n, false⟩)).alloc zO)).mono ?_
  rintro R w1 ⟨rfl, hb1⟩
  rw [decide_eq_true ho]
  have hp1 := hp.later hb1 (by omega)
  have he1 := he.later hb1 (by omega)
  have hz1 := hz.later hb1 hs
  have hq1 := hb.trans (hb1.mono hb.size)
  have hs1 := Nat.lt_of_lt_of_le hs hb1.size
  clear hp he hz hb hs hb1
  have p0 := fun o => (hp1.later (newBox w1 o) (by omega)).c0
  have p1 := fun o => (hp1.later (newBox w1 o) (by omega)).c1
  have p2 := fun o => (hp1.later (newBox w1 o) (by omega)).c2
  have e0 := fun o => (he1.later (newBox w1 o) (by omega)).c0
  have e1 := fun o => (he1.later (newBox w1 o) (by omega)).c1
  have e2 := fun o => (he1.later (newBox w1 o) (by omega)).c2
  have e3 := fun o => (he1.later (newBox w1 o) (by omega)).c3
  have e4 := fun o => (he1.later (newBox w1 o) (by omega)).c4
  have z0 := fun o => (hz1.later (newBox w1 o) hs1).c0
  have g0 := fun o => (hz1.later (newBox w1 o) hs1).f0
  have z1 := fun o => (hz1.later (newBox w1 o) hs1).c1
  have g1 := fun o => (hz1.later (newBox w1 o) hs1).f1
  have z2 := fun o => (hz1.later (newBox w1 o) hs1).c2
  have g2 := fun o => (hz1.later (newBox w1 o) hs1).f2
  have z3 := fun o => (hz1.later (newBox w1 o) hs1).c3
  have g3 := fun o => (hz1.later (newBox w1 o) hs1).f3
  have z4 := fun o => (hz1.later (newBox w1 o) hs1).c4
  have g4 := fun o => (hz1.later (newBox w1 o) hs1).f4
  have y0 := hz1.c0
  have u0 := hz1.f0
  have y1 := hz1.c1
  have u1 := hz1.f1
  have y2 := hz1.c2
  have u2 := hz1.f2
  have y3 := hz1.c3
  have u3 := hz1.f3
  have y4 := hz1.c4
  have u4 := hz1.f4
  obtain ⟨hs0, hs3, hv0, hv1, hr0, hr1, _⟩ := ho.2
  simp only at hs0 hs3 hv0 hv1 hr0 hr1 e0 e1 e2 e3 e4
  have hq : s.tdiv 8 = s / 8 := Int.tdiv_eq_ediv_of_nonneg hs0
  have hq4 : v.tdiv 4 = v / 4 := Int.tdiv_eq_ediv_of_nonneg hv0
  go_wp2
  all_goals
    refine end_est2 rfl rfl hz1 hs1 ⟨?_, ?_⟩
    rotate_left
    · have hx := below_eset hq1 (show w.heap.size ≤ w.heap.size + 1 + 1 by omega)
      exact (hx _).trans ((newBox _ _).mono (hx _).size)
    refine congrArg (fun E => Ending.returned (esV E)) (samp_eq ho hy ?_ ?_ ?_)
    · simp only [learnE, Bool.false_eq_true, if_false] <;> omega
    · simp only [learnE, Bool.false_eq_true, if_false] <;> omega
    · clear p0 p1 p2 e0 e1 e2 e3 e4 z0 z1 z2 z3 z4 g0 g1 g2 g3 g4 y0 y1 y2 y3 y4 u0 u1 u2 u3 u4 hp1 he1 hz1 hq1
      try simp only [beq_iff_eq] at *
      try simp only [beq_eq_false_iff_ne] at *
      simp only [Int.min_def, Int.max_def]
      repeat' split
      all_goals omega

set_option maxHeartbeats 4000000 in
theorem dSample_f1 (p : Par) (s v r n : Int) (x : Int) (w : World) (ho : May p ⟨s, v, r, n, false⟩) (hx0 : ¬ x < 1) (hx1 : ¬ 1048576 < x) :
    Calls Tryd.prog 16 #[paV p, esV ⟨s, v, r, n, false⟩, .int .i64 x] w fun R w' => R = .returned (esV (sampF p ⟨s, v, r, n, false⟩ x)) ∧ Below w.heap.size w w' := by
  have hp := PBox.of (heap_new31 w (paO p) (esO ⟨s, v, r, n, false⟩) zO)
  have he := EBox.of (e := ⟨s, v, r, n, false⟩) (heap_new32 w (paO p) (esO ⟨s, v, r, n, false⟩) zO)
  have hz : EBox (((w.alloc (paO p)).alloc (esO ⟨s, v, r, n, false⟩)).alloc zO) (w.heap.size + 1 + 1) esZ := EBox.of (e := esZ) (heap_new33 w (paO p) (esO ⟨s, v, r, n, false⟩) zO)
  have hb := newBox3 w (paO p) (esO ⟨s, v, r, n, false⟩) zO
  have hs : w.heap.size + 1 + 1 < (((w.alloc (paO p)).alloc (esO ⟨s, v, r, n, false⟩)).alloc zO).heap.size := by simp
  have dx0 : decide (x < 1) = false := decide_eq_false hx0
  have dx1 : decide (1048576 < x) = false := decide_eq_false hx1
  have hy : trip x = x := by unfold trip; omega
  go_enter Tryd.func16, Tryd.ntmps16
  go_wp2_with fail
  refine (dFits_any p ⟨s, v, r, n, false⟩ (((w.alloc (paO p)).alloc (esO ⟨s, v, r, n, false⟩)).alloc zO)).mono ?_
  rintro R w1 ⟨rfl, hb1⟩
  rw [decide_eq_true ho]
  have hp1 := hp.later hb1 (by omega)
  have he1 := he.later hb1 (by omega)
  have hz1 := hz.later hb1 hs
  have hq1 := hb.trans (hb1.mono hb.size)
  have hs1 := Nat.lt_of_lt_of_le hs hb1.size
  clear hp he hz hb hs hb1
  have p0 := fun o => (hp1.later (newBox w1 o) (by omega)).c0
  have p1 := fun o => (hp1.later (newBox w1 o) (by omega)).c1
  have p2 := fun o => (hp1.later (newBox w1 o) (by omega)).c2
  have e0 := fun o => (he1.later (newBox w1 o) (by omega)).c0
  have e1 := fun o => (he1.later (newBox w1 o) (by omega)).c1
  have e2 := fun o => (he1.later (newBox w1 o) (by omega)).c2
  have e3 := fun o => (he1.later (newBox w1 o) (by omega)).c3
  have e4 := fun o => (he1.later (newBox w1 o) (by omega)).c4
  have z0 := fun o => (hz1.later (newBox w1 o) hs1).c0
  have g0 := fun o => (hz1.later (newBox w1 o) hs1).f0
  have z1 := fun o => (hz1.later (newBox w1 o) hs1).c1
  have g1 := fun o => (hz1.later (newBox w1 o) hs1).f1
  have z2 := fun o => (hz1.later (newBox w1 o) hs1).c2
  have g2 := fun o => (hz1.later (newBox w1 o) hs1).f2
  have z3 := fun o => (hz1.later (newBox w1 o) hs1).c3
  have g3 := fun o => (hz1.later (newBox w1 o) hs1).f3
  have z4 := fun o => (hz1.later (newBox w1 o) hs1).c4
  have g4 := fun o => (hz1.later (newBox w1 o) hs1).f4
  have y0 := hz1.c0
  have u0 := hz1.f0
  have y1 := hz1.c1
  have u1 := hz1.f1
  have y2 := hz1.c2
  have u2 := hz1.f2
  have y3 := hz1.c3
  have u3 := hz1.f3
  have y4 := hz1.c4
  have u4 := hz1.f4
  obtain ⟨hs0, hs3, hv0, hv1, hr0, hr1, _⟩ := ho.2
  simp only at hs0 hs3 hv0 hv1 hr0 hr1 e0 e1 e2 e3 e4
  have hq : s.tdiv 8 = s / 8 := Int.tdiv_eq_ediv_of_nonneg hs0
  have hq4 : v.tdiv 4 = v / 4 := Int.tdiv_eq_ediv_of_nonneg hv0
  go_wp2
  all_goals
    refine end_est2 rfl rfl hz1 hs1 ⟨?_, ?_⟩
    rotate_left
    · have hx := below_eset hq1 (show w.heap.size ≤ w.heap.size + 1 + 1 by omega)
      exact (hx _).trans ((newBox _ _).mono (hx _).size)
    refine congrArg (fun E => Ending.returned (esV E)) (samp_eq ho hy ?_ ?_ ?_)
    · simp only [learnE, Bool.false_eq_true, if_false] <;> omega
    · simp only [learnE, Bool.false_eq_true, if_false] <;> omega
    · clear p0 p1 p2 e0 e1 e2 e3 e4 z0 z1 z2 z3 z4 g0 g1 g2 g3 g4 y0 y1 y2 y3 y4 u0 u1 u2 u3 u4 hp1 he1 hz1 hq1
      try simp only [beq_iff_eq] at *
      try simp only [beq_eq_false_iff_ne] at *
      simp only [Int.min_def, Int.max_def]
      repeat' split
      all_goals omega

set_option maxHeartbeats 4000000 in
theorem dSample_f2 (p : Par) (s v r n : Int) (x : Int) (w : World) (ho : May p ⟨s, v, r, n, false⟩) (hx1 : 1048576 < x) :
    Calls Tryd.prog 16 #[paV p, esV ⟨s, v, r, n, false⟩, .int .i64 x] w fun R w' => R = .returned (esV (sampF p ⟨s, v, r, n, false⟩ x)) ∧ Below w.heap.size w w' := by
  have hp := PBox.of (heap_new31 w (paO p) (esO ⟨s, v, r, n, false⟩) zO)
  have he := EBox.of (e := ⟨s, v, r, n, false⟩) (heap_new32 w (paO p) (esO ⟨s, v, r, n, false⟩) zO)
  have hz : EBox (((w.alloc (paO p)).alloc (esO ⟨s, v, r, n, false⟩)).alloc zO) (w.heap.size + 1 + 1) esZ := EBox.of (e := esZ) (heap_new33 w (paO p) (esO ⟨s, v, r, n, false⟩) zO)
  have hb := newBox3 w (paO p) (esO ⟨s, v, r, n, false⟩) zO
  have hs : w.heap.size + 1 + 1 < (((w.alloc (paO p)).alloc (esO ⟨s, v, r, n, false⟩)).alloc zO).heap.size := by simp
  have dx0 : decide (x < 1) = false := decide_eq_false (by omega)
  have dx1 : decide (1048576 < x) = true := decide_eq_true hx1
  have hy : trip x = 1048576 := by unfold trip; omega
  go_enter Tryd.func16, Tryd.ntmps16
  go_wp2_with fail
  refine (dFits_any p ⟨s, v, r, n, false⟩ (((w.alloc (paO p)).alloc (esO ⟨s, v, r, n, false⟩)).alloc zO)).mono ?_
  rintro R w1 ⟨rfl, hb1⟩
  rw [decide_eq_true ho]
  have hp1 := hp.later hb1 (by omega)
  have he1 := he.later hb1 (by omega)
  have hz1 := hz.later hb1 hs
  have hq1 := hb.trans (hb1.mono hb.size)
  have hs1 := Nat.lt_of_lt_of_le hs hb1.size
  clear hp he hz hb hs hb1
  have p0 := fun o => (hp1.later (newBox w1 o) (by omega)).c0
  have p1 := fun o => (hp1.later (newBox w1 o) (by omega)).c1
  have p2 := fun o => (hp1.later (newBox w1 o) (by omega)).c2
  have e0 := fun o => (he1.later (newBox w1 o) (by omega)).c0
  have e1 := fun o => (he1.later (newBox w1 o) (by omega)).c1
  have e2 := fun o => (he1.later (newBox w1 o) (by omega)).c2
  have e3 := fun o => (he1.later (newBox w1 o) (by omega)).c3
  have e4 := fun o => (he1.later (newBox w1 o) (by omega)).c4
  have z0 := fun o => (hz1.later (newBox w1 o) hs1).c0
  have g0 := fun o => (hz1.later (newBox w1 o) hs1).f0
  have z1 := fun o => (hz1.later (newBox w1 o) hs1).c1
  have g1 := fun o => (hz1.later (newBox w1 o) hs1).f1
  have z2 := fun o => (hz1.later (newBox w1 o) hs1).c2
  have g2 := fun o => (hz1.later (newBox w1 o) hs1).f2
  have z3 := fun o => (hz1.later (newBox w1 o) hs1).c3
  have g3 := fun o => (hz1.later (newBox w1 o) hs1).f3
  have z4 := fun o => (hz1.later (newBox w1 o) hs1).c4
  have g4 := fun o => (hz1.later (newBox w1 o) hs1).f4
  have y0 := hz1.c0
  have u0 := hz1.f0
  have y1 := hz1.c1
  have u1 := hz1.f1
  have y2 := hz1.c2
  have u2 := hz1.f2
  have y3 := hz1.c3
  have u3 := hz1.f3
  have y4 := hz1.c4
  have u4 := hz1.f4
  obtain ⟨hs0, hs3, hv0, hv1, hr0, hr1, _⟩ := ho.2
  simp only at hs0 hs3 hv0 hv1 hr0 hr1 e0 e1 e2 e3 e4
  have hq : s.tdiv 8 = s / 8 := Int.tdiv_eq_ediv_of_nonneg hs0
  have hq4 : v.tdiv 4 = v / 4 := Int.tdiv_eq_ediv_of_nonneg hv0
  go_wp2
  all_goals
    refine end_est2 rfl rfl hz1 hs1 ⟨?_, ?_⟩
    rotate_left
    · have hx := below_eset hq1 (show w.heap.size ≤ w.heap.size + 1 + 1 by omega)
      exact (hx _).trans ((newBox _ _).mono (hx _).size)
    refine congrArg (fun E => Ending.returned (esV E)) (samp_eq ho hy ?_ ?_ ?_)
    · simp only [learnE, Bool.false_eq_true, if_false] <;> omega
    · simp only [learnE, Bool.false_eq_true, if_false] <;> omega
    · clear p0 p1 p2 e0 e1 e2 e3 e4 z0 z1 z2 z3 z4 g0 g1 g2 g3 g4 y0 y1 y2 y3 y4 u0 u1 u2 u3 u4 hp1 he1 hz1 hq1
      try simp only [beq_iff_eq] at *
      try simp only [beq_eq_false_iff_ne] at *
      simp only [Int.min_def, Int.max_def]
      repeat' split
      all_goals omega

theorem dSample_any (p : Par) (e : Est) (x : Int) (w : World) :
    Calls Tryd.prog 16 #[paV p, esV e, .int .i64 x] w fun R w' => R = .returned (esV (sampF p e x)) ∧ Below w.heap.size w w' := by
  rcases (Decidable.em (May p e)).symm with ho | ho
  · exact dSample_no p e x w ho
  obtain ⟨s, v, r, n, k⟩ := e
  by_cases h0 : x < 1
  · cases k with
    | true => exact dSample_t0 p s v r n x w ho h0
    | false => exact dSample_f0 p s v r n x w ho h0
  · by_cases h1 : 1048576 < x
    · cases k with
      | true => exact dSample_t2 p s v r n x w ho h1
      | false => exact dSample_f2 p s v r n x w ho h1
    · cases k with
      | true => exact dSample_t1 p s v r n x w ho h0 h1
      | false => exact dSample_f1 p s v r n x w ho h0 h1
end Go.Proofs.YtjaheoccofcklabDoor
