/- mayBe. -/
import Derived.Test.YtjaheoccofcklabDoorR3
namespace Go.Proofs.YtjaheoccofcklabDoor
open Go.RowKit
set_option maxRecDepth 100000
attribute [local go_sem] mf_run

/-- Estimates that may be, with params that may be. -/
def Fit (p : Par) (e : Est) : Prop := 0 ≤ e.s ∧ e.s ≤ 16777216 ∧ 0 ≤ e.v ∧ e.v ≤ 16777216 ∧ p.mi ≤ e.r ∧ e.r ≤ p.ma ∧ 0 ≤ e.n ∧ e.n ≤ 20 ∧ (e.k = true ∨ e.s = 0 ∧ e.v = 0)
instance (p : Par) (e : Est) : Decidable (Fit p e) := by unfold Fit; infer_instance
def May (p : Par) (e : Est) : Prop := Ok p ∧ Fit p e
instance (p : Par) (e : Est) : Decidable (May p e) := by unfold May; infer_instance
theorem pass4 {p : Par} {e : Est} (h : Ok p) (hk : e.k = true ∨ e.s = 0 ∧ e.v = 0) : [(0, 16777216, e.s), (0, 16777216, e.v), (max 1 p.mi, min 1048576 p.ma, e.r), (0, 20, e.n)].all pas = decide (May p e) := by
  simp only [List.all_cons, List.all_nil, Bool.and_true, pas, ← Bool.decide_and]
  rw [decide_eq_decide]
  unfold May Fit
  have h' := h
  unfold Ok at h'
  constructor
  · rintro ⟨h1, h2, h3, h4⟩
    refine ⟨h, h1.1, h1.2, h2.1, h2.2, by omega, by omega, h4.1, h4.2, hk⟩
  · rintro ⟨_, h1, h2, h3, h4, h5, h6, h7, h8, _⟩
    refine ⟨⟨h1, h2⟩, ⟨h3, h4⟩, ⟨by omega, by omega⟩, h7, h8⟩
theorem Chk.of4 {w : World} {g : Nat} {a b x a' b' x' a'' b'' x'' a3 b3 x3 : Int} {t : TypeId} (h : w.heap[g]? = some (.cells #[fnV a b, .int .i64 x, fnV a' b', .int .i64 x', fnV a'' b'', .int .i64 x'', fnV a3 b3, .int .i64 x3] t)) :
    Chk w g [(a, b, x), (a', b', x'), (a'', b'', x''), (a3, b3, x3)] := by
  intro i p q r hi
  match i, hi with
  | 0, hi => simp only [List.getElem?_cons_zero, Option.some.injEq, Prod.mk.injEq] at hi; obtain ⟨rfl, rfl, rfl⟩ := hi; simp [World.cell?, h]
  | 1, hi => simp only [List.getElem?_cons_succ, List.getElem?_cons_zero, Option.some.injEq, Prod.mk.injEq] at hi; obtain ⟨rfl, rfl, rfl⟩ := hi; simp [World.cell?, h]
  | 2, hi => simp only [List.getElem?_cons_succ, List.getElem?_cons_zero, Option.some.injEq, Prod.mk.injEq] at hi; obtain ⟨rfl, rfl, rfl⟩ := hi; simp [World.cell?, h]
  | 3, hi => simp only [List.getElem?_cons_succ, List.getElem?_cons_zero, Option.some.injEq, Prod.mk.injEq] at hi; obtain ⟨rfl, rfl, rfl⟩ := hi; simp [World.cell?, h]
  | k + 4, hi => simp at hi

set_option maxHeartbeats 2000000 in
theorem mayBe_A (p : Par) (es ev er en : Int) (ek : Bool) (w : World) (hR : Rws w) (hok : ¬ Ok p) :
    Calls Tryd.prog 17 #[paV p, esV ⟨es, ev, er, en, ek⟩] w fun e w' => e = .returned (.bool (decide (May p ⟨es, ev, er, en, ek⟩))) ∧ Below w.heap.size w w' := by
  have hb0 := newBox2 w (.cells #[.int .i64 p.mi, .int .i64 p.fi, .int .i64 p.ma] 23) (.cells #[.int .i64 es, .int .i64 ev, .int .i64 er, .int .i64 en, .bool ek] 25)
  have hp := PBox.of (heap_new1 w (.cells #[.int .i64 p.mi, .int .i64 p.fi, .int .i64 p.ma] 23) (.cells #[.int .i64 es, .int .i64 ev, .int .i64 er, .int .i64 en, .bool ek] 25))
  have he := EBox.of (e := ⟨es, ev, er, en, ek⟩) (heap_new2 w (.cells #[.int .i64 p.mi, .int .i64 p.fi, .int .i64 p.ma] 23) (.cells #[.int .i64 es, .int .i64 ev, .int .i64 er, .int .i64 en, .bool ek] 25))
  have hs : w.heap.size + 1 < ((w.alloc (.cells #[.int .i64 p.mi, .int .i64 p.fi, .int .i64 p.ma] 23)).alloc (.cells #[.int .i64 es, .int .i64 ev, .int .i64 er, .int .i64 en, .bool ek] 25)).heap.size := by simp
  have hR0 := hR.later hb0 (Nat.le_refl _)
  have hno : ¬ May p ⟨es, ev, er, en, ek⟩ := fun h => hok h.1
  go_enter Tryd.func17, Tryd.ntmps17
  go_wp2_with fail
  generalize (w.alloc (.cells #[.int .i64 p.mi, .int .i64 p.fi, .int .i64 p.ma] 23)).alloc (.cells #[.int .i64 es, .int .i64 ev, .int .i64 er, .int .i64 en, .bool ek] 25) = w0 at *
  have hd0 : Below w0.heap.size w0 w0.drew := (Below.refl w0.heap.size w0).drew
  have hRd : Rws w0.drew := hR0.later hd0 (Nat.le_refl _)
  have hpd : PBox w0.drew w.heap.size p := hp.later hd0 (by omega)
  have hed : EBox w0.drew (w.heap.size + 1) ⟨es, ev, er, en, ek⟩ := he.later hd0 hs
  have hbd : Below w.heap.size w w0.drew := hb0.drew
  have hsd : w.heap.size + 1 < w0.drew.heap.size := hs
  clear hp he hR0 hd0 hb0 hs hR
  refine wp_region_held_drew (S := fun w' => Rws w' ∧ PBox w' w.heap.size p ∧ EBox w' (w.heap.size + 1) ⟨es, ev, er, en, ek⟩) (by kernel_rfl) ⟨hRd, hpd, hed⟩ (fun hHeld => ?_)
  refine wpAnyH_take (i := 0) (oi := ⟨some 5, .load 23 (.tmp 2), 23, "bounds.go:62", #[], none⟩) (v := (paV p)) rfl (by kernel_rfl) (by kernel_rfl) (by kernel_rfl) (fun _ _ _ h => h) (Or.inl ⟨by rfl, fun w' h' => by have c0 := h'.2.1.c0; have c1 := h'.2.1.c1; have c2 := h'.2.1.c2; unfold execOp; go_simp⟩) hHeld ?_
  simp only [Act.put, List.setIfInBounds_toArray, List.set_cons_zero, List.set_cons_succ]
  refine wpAnyH_ready (rs := [1]) (by kernel_rfl) (by simp) ?_
  refine AllReadyH.cons (o := ⟨some 6, .call ⟨.value (.func 22), #[.tmp 5], #[23]⟩, 4, "bounds.go:62", #[⟨0, .data⟩], none⟩) rfl (fun KK hK => ?_) (AllReadyH.nil)
  go_simp
  refine (paramsMayBe_any p _ hRd).mono ?_
  rintro e w1 ⟨rfl, hb1⟩
  rw [decide_eq_false hok]
  have hR1 := hRd.later hb1 (Nat.le_refl _)
  have hp1 := hpd.later hb1 (by omega)
  have he1 := hed.later hb1 hsd
  have hb := hbd.trans (hb1.mono hbd.size)
  have hs1 : w.heap.size + 1 < w1.heap.size := Nat.lt_of_lt_of_le hsd hb1.size
  clear hRd hpd hed hbd hb1 hsd
  dsimp only
  refine hK.out _ _ ⟨hR1, hp1, he1⟩ (fun hHeld => ?_)
  clear hK KK
  try simp only [Act.put, List.setIfInBounds_toArray, List.set_cons_zero, List.set_cons_succ]
  refine wpAnyH_take (i := 2) (oi := ⟨some 7, .move (.tmp 6), 4, "bounds.go:62", #[⟨1, .data⟩, ⟨1, .chain⟩], none⟩) (v := (.bool false)) rfl (by kernel_rfl) (by kernel_rfl) (by kernel_rfl) (fun _ _ _ h => h) (Or.inl ⟨by rfl, fun _ _ => by rfl⟩) hHeld ?_
  simp only [Act.put, List.setIfInBounds_toArray, List.set_cons_zero, List.set_cons_succ]
  refine wpAnyH_take (i := 3) (oi := ⟨some 8, .fieldAddr 25 (.tmp 3) 4, 0, "bounds.go:62", #[⟨2, .guard⟩], some (2, true)⟩) (v := (undef)) rfl (by kernel_rfl) (by kernel_rfl) (by kernel_rfl) (fun _ _ _ h => h) (Or.inr ⟨by rfl, rfl⟩) hHeld ?_
  simp only [Act.put, List.setIfInBounds_toArray, List.set_cons_zero, List.set_cons_succ]
  refine wpAnyH_take (i := 4) (oi := ⟨some 9, .load 4 (.tmp 8), 4, "bounds.go:62", #[⟨3, .data⟩, ⟨2, .guard⟩], some (2, true)⟩) (v := (undef)) rfl (by kernel_rfl) (by kernel_rfl) (by kernel_rfl) (fun _ _ _ h => h) (Or.inr ⟨by rfl, rfl⟩) hHeld ?_
  simp only [Act.put, List.setIfInBounds_toArray, List.set_cons_zero, List.set_cons_succ]
  refine wpAnyH_take (i := 5) (oi := ⟨some 10, .move (.tmp 9), 4, "bounds.go:62", #[⟨4, .data⟩, ⟨2, .chain⟩, ⟨2, .guard⟩], some (2, true)⟩) (v := (undef)) rfl (by kernel_rfl) (by kernel_rfl) (by kernel_rfl) (fun _ _ _ h => h) (Or.inr ⟨by rfl, rfl⟩) hHeld ?_
  simp only [Act.put, List.setIfInBounds_toArray, List.set_cons_zero, List.set_cons_succ]
  refine wpAnyH_take (i := 6) (oi := ⟨some 11, .fieldAddr 25 (.tmp 3) 0, 0, "bounds.go:62", #[⟨5, .guard⟩], some (5, false)⟩) (v := (undef)) rfl (by kernel_rfl) (by kernel_rfl) (by kernel_rfl) (fun _ _ _ h => h) (Or.inr ⟨by rfl, rfl⟩) hHeld ?_
  simp only [Act.put, List.setIfInBounds_toArray, List.set_cons_zero, List.set_cons_succ]
  refine wpAnyH_take (i := 7) (oi := ⟨some 12, .load 3 (.tmp 11), 3, "bounds.go:62", #[⟨6, .data⟩, ⟨5, .guard⟩], some (5, false)⟩) (v := (undef)) rfl (by kernel_rfl) (by kernel_rfl) (by kernel_rfl) (fun _ _ _ h => h) (Or.inr ⟨by rfl, rfl⟩) hHeld ?_
  simp only [Act.put, List.setIfInBounds_toArray, List.set_cons_zero, List.set_cons_succ]
  refine wpAnyH_take (i := 8) (oi := ⟨some 13, .binOp .eql 3 (.tmp 12) (.const (.int .i64 0)) 3, 4, "bounds.go:62", #[⟨7, .data⟩, ⟨5, .guard⟩], some (5, false)⟩) (v := (undef)) rfl (by kernel_rfl) (by kernel_rfl) (by kernel_rfl) (fun _ _ _ h => h) (Or.inr ⟨by rfl, rfl⟩) hHeld ?_
  simp only [Act.put, List.setIfInBounds_toArray, List.set_cons_zero, List.set_cons_succ]
  refine wpAnyH_take (i := 9) (oi := ⟨some 14, .move (.tmp 13), 4, "bounds.go:62", #[⟨8, .data⟩, ⟨5, .chain⟩, ⟨5, .guard⟩], some (5, false)⟩) (v := (undef)) rfl (by kernel_rfl) (by kernel_rfl) (by kernel_rfl) (fun _ _ _ h => h) (Or.inr ⟨by rfl, rfl⟩) hHeld ?_
  simp only [Act.put, List.setIfInBounds_toArray, List.set_cons_zero, List.set_cons_succ]
  refine wpAnyH_take (i := 10) (oi := ⟨some 15, .fieldAddr 25 (.tmp 3) 1, 0, "bounds.go:62", #[⟨9, .guard⟩], some (9, true)⟩) (v := (undef)) rfl (by kernel_rfl) (by kernel_rfl) (by kernel_rfl) (fun _ _ _ h => h) (Or.inr ⟨by rfl, rfl⟩) hHeld ?_
  simp only [Act.put, List.setIfInBounds_toArray, List.set_cons_zero, List.set_cons_succ]
  refine wpAnyH_take (i := 11) (oi := ⟨some 16, .load 3 (.tmp 15), 3, "bounds.go:62", #[⟨10, .data⟩, ⟨9, .guard⟩], some (9, true)⟩) (v := (undef)) rfl (by kernel_rfl) (by kernel_rfl) (by kernel_rfl) (fun _ _ _ h => h) (Or.inr ⟨by rfl, rfl⟩) hHeld ?_
  simp only [Act.put, List.setIfInBounds_toArray, List.set_cons_zero, List.set_cons_succ]
  refine wpAnyH_take (i := 12) (oi := ⟨some 17, .binOp .eql 3 (.tmp 16) (.const (.int .i64 0)) 3, 4, "bounds.go:62", #[⟨11, .data⟩, ⟨9, .guard⟩], some (9, true)⟩) (v := (undef)) rfl (by kernel_rfl) (by kernel_rfl) (by kernel_rfl) (fun _ _ _ h => h) (Or.inr ⟨by rfl, rfl⟩) hHeld ?_
  simp only [Act.put, List.setIfInBounds_toArray, List.set_cons_zero, List.set_cons_succ]
  refine wpAnyH_take (i := 13) (oi := ⟨some 18, .pick (.tmp 14) (.tmp 17) (.const (.bool false)), 4, "bounds.go:62", #[⟨9, .data⟩, ⟨12, .data⟩, ⟨5, .guard⟩], some (5, false)⟩) (v := (undef)) rfl (by kernel_rfl) (by kernel_rfl) (by kernel_rfl) (fun _ _ _ h => h) (Or.inr ⟨by rfl, rfl⟩) hHeld ?_
  simp only [Act.put, List.setIfInBounds_toArray, List.set_cons_zero, List.set_cons_succ]
  refine wpAnyH_take (i := 14) (oi := ⟨some 19, .pick (.tmp 10) (.const (.bool true)) (.tmp 18), 4, "bounds.go:62", #[⟨5, .data⟩, ⟨13, .data⟩, ⟨2, .guard⟩], some (2, true)⟩) (v := (undef)) rfl (by kernel_rfl) (by kernel_rfl) (by kernel_rfl) (fun _ _ _ h => h) (Or.inr ⟨by rfl, rfl⟩) hHeld ?_
  simp only [Act.put, List.setIfInBounds_toArray, List.set_cons_zero, List.set_cons_succ]
  refine wpAnyH_take (i := 15) (oi := ⟨some 20, .pick (.tmp 7) (.tmp 19) (.const (.bool false)), 4, "bounds.go:62", #[⟨2, .data⟩, ⟨14, .data⟩], none⟩) (v := (.bool false)) rfl (by kernel_rfl) (by kernel_rfl) (by kernel_rfl) (fun _ _ _ h => h) (Or.inl ⟨by rfl, fun w' h' => by unfold execOp; go_simp⟩) hHeld ?_
  simp only [Act.put, List.setIfInBounds_toArray, List.set_cons_zero, List.set_cons_succ]
  refine wpAnyH_take (i := 16) (oi := ⟨some 21, .move (.tmp 20), 4, "bounds.go:62", #[⟨15, .data⟩, ⟨9, .chain⟩], none⟩) (v := (.bool false)) rfl (by kernel_rfl) (by kernel_rfl) (by kernel_rfl) (fun _ _ _ h => h) (Or.inl ⟨by rfl, fun _ _ => by rfl⟩) hHeld ?_
  simp only [Act.put, List.setIfInBounds_toArray, List.set_cons_zero, List.set_cons_succ]
  refine wpAnyH_take (i := 17) (oi := ⟨some 22, .indexAddr 46 (.global 0) (.const (.int .i64 0)), 0, "bounds.go:62", #[⟨16, .guard⟩], some (16, true)⟩) (v := (undef)) rfl (by kernel_rfl) (by kernel_rfl) (by kernel_rfl) (fun _ _ _ h => h) (Or.inr ⟨by rfl, rfl⟩) hHeld ?_
  simp only [Act.put, List.setIfInBounds_toArray, List.set_cons_zero, List.set_cons_succ]
  refine wpAnyH_take (i := 18) (oi := ⟨some 23, .load 41 (.tmp 22), 41, "bounds.go:62", #[⟨17, .data⟩, ⟨16, .guard⟩], some (16, true)⟩) (v := (undef)) rfl (by kernel_rfl) (by kernel_rfl) (by kernel_rfl) (fun _ _ _ h => h) (Or.inr ⟨by rfl, rfl⟩) hHeld ?_
  simp only [Act.put, List.setIfInBounds_toArray, List.set_cons_zero, List.set_cons_succ]
  refine wpAnyH_take (i := 19) (oi := ⟨some 24, .makeFunc (Fn.func 26) #[.tmp 23] #[], 48, "bounds.go:62", #[⟨18, .data⟩, ⟨16, .guard⟩], some (16, true)⟩) (v := (undef)) rfl (by kernel_rfl) (by kernel_rfl) (by kernel_rfl) (fun _ _ _ h => h) (Or.inr ⟨by rfl, rfl⟩) hHeld ?_
  simp only [Act.put, List.setIfInBounds_toArray, List.set_cons_zero, List.set_cons_succ]
  refine wpAnyH_take (i := 20) (oi := ⟨some 25, .fieldAddr 25 (.tmp 3) 0, 0, "bounds.go:62", #[⟨16, .guard⟩], some (16, true)⟩) (v := (undef)) rfl (by kernel_rfl) (by kernel_rfl) (by kernel_rfl) (fun _ _ _ h => h) (Or.inr ⟨by rfl, rfl⟩) hHeld ?_
  simp only [Act.put, List.setIfInBounds_toArray, List.set_cons_zero, List.set_cons_succ]
  refine wpAnyH_take (i := 21) (oi := ⟨some 26, .load 3 (.tmp 25), 3, "bounds.go:62", #[⟨20, .data⟩, ⟨16, .guard⟩], some (16, true)⟩) (v := (undef)) rfl (by kernel_rfl) (by kernel_rfl) (by kernel_rfl) (fun _ _ _ h => h) (Or.inr ⟨by rfl, rfl⟩) hHeld ?_
  simp only [Act.put, List.setIfInBounds_toArray, List.set_cons_zero, List.set_cons_succ]
  refine wpAnyH_take (i := 22) (oi := ⟨some 27, .build 50 #[(0, .tmp 24), (1, .tmp 26)], 50, "bounds.go:62", #[⟨19, .data⟩, ⟨21, .data⟩, ⟨16, .guard⟩], some (16, true)⟩) (v := (undef)) rfl (by kernel_rfl) (by kernel_rfl) (by kernel_rfl) (fun _ _ _ h => h) (Or.inr ⟨by rfl, rfl⟩) hHeld ?_
  simp only [Act.put, List.setIfInBounds_toArray, List.set_cons_zero, List.set_cons_succ]
  refine wpAnyH_take (i := 23) (oi := ⟨some 28, .indexAddr 46 (.global 0) (.const (.int .i64 1)), 0, "bounds.go:62", #[⟨16, .guard⟩], some (16, true)⟩) (v := (undef)) rfl (by kernel_rfl) (by kernel_rfl) (by kernel_rfl) (fun _ _ _ h => h) (Or.inr ⟨by rfl, rfl⟩) hHeld ?_
  simp only [Act.put, List.setIfInBounds_toArray, List.set_cons_zero, List.set_cons_succ]
  refine wpAnyH_take (i := 24) (oi := ⟨some 29, .load 41 (.tmp 28), 41, "bounds.go:62", #[⟨23, .data⟩, ⟨16, .guard⟩], some (16, true)⟩) (v := (undef)) rfl (by kernel_rfl) (by kernel_rfl) (by kernel_rfl) (fun _ _ _ h => h) (Or.inr ⟨by rfl, rfl⟩) hHeld ?_
  simp only [Act.put, List.setIfInBounds_toArray, List.set_cons_zero, List.set_cons_succ]
  refine wpAnyH_take (i := 25) (oi := ⟨some 30, .makeFunc (Fn.func 26) #[.tmp 29] #[], 48, "bounds.go:62", #[⟨24, .data⟩, ⟨16, .guard⟩], some (16, true)⟩) (v := (undef)) rfl (by kernel_rfl) (by kernel_rfl) (by kernel_rfl) (fun _ _ _ h => h) (Or.inr ⟨by rfl, rfl⟩) hHeld ?_
  simp only [Act.put, List.setIfInBounds_toArray, List.set_cons_zero, List.set_cons_succ]
  refine wpAnyH_take (i := 26) (oi := ⟨some 31, .fieldAddr 25 (.tmp 3) 1, 0, "bounds.go:62", #[⟨16, .guard⟩], some (16, true)⟩) (v := (undef)) rfl (by kernel_rfl) (by kernel_rfl) (by kernel_rfl) (fun _ _ _ h => h) (Or.inr ⟨by rfl, rfl⟩) hHeld ?_
  simp only [Act.put, List.setIfInBounds_toArray, List.set_cons_zero, List.set_cons_succ]
  refine wpAnyH_take (i := 27) (oi := ⟨some 32, .load 3 (.tmp 31), 3, "bounds.go:62", #[⟨26, .data⟩, ⟨16, .guard⟩], some (16, true)⟩) (v := (undef)) rfl (by kernel_rfl) (by kernel_rfl) (by kernel_rfl) (fun _ _ _ h => h) (Or.inr ⟨by rfl, rfl⟩) hHeld ?_
  simp only [Act.put, List.setIfInBounds_toArray, List.set_cons_zero, List.set_cons_succ]
  refine wpAnyH_take (i := 28) (oi := ⟨some 33, .build 50 #[(0, .tmp 30), (1, .tmp 32)], 50, "bounds.go:62", #[⟨25, .data⟩, ⟨27, .data⟩, ⟨16, .guard⟩], some (16, true)⟩) (v := (undef)) rfl (by kernel_rfl) (by kernel_rfl) (by kernel_rfl) (fun _ _ _ h => h) (Or.inr ⟨by rfl, rfl⟩) hHeld ?_
  simp only [Act.put, List.setIfInBounds_toArray, List.set_cons_zero, List.set_cons_succ]
  refine wpAnyH_take (i := 29) (oi := ⟨some 34, .load 23 (.tmp 2), 23, "bounds.go:62", #[⟨16, .guard⟩], some (16, true)⟩) (v := (undef)) rfl (by kernel_rfl) (by kernel_rfl) (by kernel_rfl) (fun _ _ _ h => h) (Or.inr ⟨by rfl, rfl⟩) hHeld ?_
  simp only [Act.put, List.setIfInBounds_toArray, List.set_cons_zero, List.set_cons_succ]
  refine wpAnyH_take (i := 30) (oi := ⟨some 35, .call ⟨.value (.func 18), #[.tmp 34], #[23]⟩, 41, "bounds.go:65", #[⟨29, .data⟩, ⟨16, .chain⟩, ⟨16, .guard⟩], some (16, true)⟩) (v := (undef)) rfl (by kernel_rfl) (by kernel_rfl) (by kernel_rfl) (fun _ _ _ h => h) (Or.inr ⟨by rfl, rfl⟩) hHeld ?_
  simp only [Act.put, List.setIfInBounds_toArray, List.set_cons_zero, List.set_cons_succ]
  refine wpAnyH_take (i := 31) (oi := ⟨some 36, .makeFunc (Fn.func 26) #[.tmp 35] #[], 48, "bounds.go:62", #[⟨30, .data⟩, ⟨16, .guard⟩], some (16, true)⟩) (v := (undef)) rfl (by kernel_rfl) (by kernel_rfl) (by kernel_rfl) (fun _ _ _ h => h) (Or.inr ⟨by rfl, rfl⟩) hHeld ?_
  simp only [Act.put, List.setIfInBounds_toArray, List.set_cons_zero, List.set_cons_succ]
  refine wpAnyH_take (i := 32) (oi := ⟨some 37, .fieldAddr 25 (.tmp 3) 2, 0, "bounds.go:62", #[⟨16, .guard⟩], some (16, true)⟩) (v := (undef)) rfl (by kernel_rfl) (by kernel_rfl) (by kernel_rfl) (fun _ _ _ h => h) (Or.inr ⟨by rfl, rfl⟩) hHeld ?_
  simp only [Act.put, List.setIfInBounds_toArray, List.set_cons_zero, List.set_cons_succ]
  refine wpAnyH_take (i := 33) (oi := ⟨some 38, .load 3 (.tmp 37), 3, "bounds.go:62", #[⟨32, .data⟩, ⟨16, .guard⟩], some (16, true)⟩) (v := (undef)) rfl (by kernel_rfl) (by kernel_rfl) (by kernel_rfl) (fun _ _ _ h => h) (Or.inr ⟨by rfl, rfl⟩) hHeld ?_
  simp only [Act.put, List.setIfInBounds_toArray, List.set_cons_zero, List.set_cons_succ]
  refine wpAnyH_take (i := 34) (oi := ⟨some 39, .build 50 #[(0, .tmp 36), (1, .tmp 38)], 50, "bounds.go:62", #[⟨31, .data⟩, ⟨33, .data⟩, ⟨16, .guard⟩], some (16, true)⟩) (v := (undef)) rfl (by kernel_rfl) (by kernel_rfl) (by kernel_rfl) (fun _ _ _ h => h) (Or.inr ⟨by rfl, rfl⟩) hHeld ?_
  simp only [Act.put, List.setIfInBounds_toArray, List.set_cons_zero, List.set_cons_succ]
  refine wpAnyH_take (i := 35) (oi := ⟨some 40, .indexAddr 46 (.global 0) (.const (.int .i64 3)), 0, "bounds.go:62", #[⟨16, .guard⟩], some (16, true)⟩) (v := (undef)) rfl (by kernel_rfl) (by kernel_rfl) (by kernel_rfl) (fun _ _ _ h => h) (Or.inr ⟨by rfl, rfl⟩) hHeld ?_
  simp only [Act.put, List.setIfInBounds_toArray, List.set_cons_zero, List.set_cons_succ]
  refine wpAnyH_take (i := 36) (oi := ⟨some 41, .load 41 (.tmp 40), 41, "bounds.go:62", #[⟨35, .data⟩, ⟨16, .guard⟩], some (16, true)⟩) (v := (undef)) rfl (by kernel_rfl) (by kernel_rfl) (by kernel_rfl) (fun _ _ _ h => h) (Or.inr ⟨by rfl, rfl⟩) hHeld ?_
  simp only [Act.put, List.setIfInBounds_toArray, List.set_cons_zero, List.set_cons_succ]
  refine wpAnyH_take (i := 37) (oi := ⟨some 42, .makeFunc (Fn.func 26) #[.tmp 41] #[], 48, "bounds.go:62", #[⟨36, .data⟩, ⟨16, .guard⟩], some (16, true)⟩) (v := (undef)) rfl (by kernel_rfl) (by kernel_rfl) (by kernel_rfl) (fun _ _ _ h => h) (Or.inr ⟨by rfl, rfl⟩) hHeld ?_
  simp only [Act.put, List.setIfInBounds_toArray, List.set_cons_zero, List.set_cons_succ]
  refine wpAnyH_take (i := 38) (oi := ⟨some 43, .fieldAddr 25 (.tmp 3) 3, 0, "bounds.go:62", #[⟨16, .guard⟩], some (16, true)⟩) (v := (undef)) rfl (by kernel_rfl) (by kernel_rfl) (by kernel_rfl) (fun _ _ _ h => h) (Or.inr ⟨by rfl, rfl⟩) hHeld ?_
  simp only [Act.put, List.setIfInBounds_toArray, List.set_cons_zero, List.set_cons_succ]
  refine wpAnyH_take (i := 39) (oi := ⟨some 44, .load 3 (.tmp 43), 3, "bounds.go:62", #[⟨38, .data⟩, ⟨16, .guard⟩], some (16, true)⟩) (v := (undef)) rfl (by kernel_rfl) (by kernel_rfl) (by kernel_rfl) (fun _ _ _ h => h) (Or.inr ⟨by rfl, rfl⟩) hHeld ?_
  simp only [Act.put, List.setIfInBounds_toArray, List.set_cons_zero, List.set_cons_succ]
  refine wpAnyH_take (i := 40) (oi := ⟨some 45, .build 50 #[(0, .tmp 42), (1, .tmp 44)], 50, "bounds.go:62", #[⟨37, .data⟩, ⟨39, .data⟩, ⟨16, .guard⟩], some (16, true)⟩) (v := (undef)) rfl (by kernel_rfl) (by kernel_rfl) (by kernel_rfl) (fun _ _ _ h => h) (Or.inr ⟨by rfl, rfl⟩) hHeld ?_
  simp only [Act.put, List.setIfInBounds_toArray, List.set_cons_zero, List.set_cons_succ]
  refine wpAnyH_take (i := 41) (oi := ⟨some 46, .buildSlice 52 4 #[(0, .tmp 27), (1, .tmp 33), (2, .tmp 39), (3, .tmp 45)], 52, "bounds.go:62", #[⟨22, .data⟩, ⟨28, .data⟩, ⟨34, .data⟩, ⟨40, .data⟩, ⟨16, .guard⟩], some (16, true)⟩) (v := (undef)) rfl (by kernel_rfl) (by kernel_rfl) (by kernel_rfl) (fun _ _ _ h => h) (Or.inr ⟨by rfl, rfl⟩) hHeld ?_
  simp only [Act.put, List.setIfInBounds_toArray, List.set_cons_zero, List.set_cons_succ]
  refine wpAnyH_take (i := 42) (oi := ⟨some 47, .call ⟨.value (.func 25), #[.tmp 46], #[52]⟩, 4, "bounds.go:62", #[⟨41, .data⟩, ⟨30, .chain⟩, ⟨16, .guard⟩], some (16, true)⟩) (v := (undef)) rfl (by kernel_rfl) (by kernel_rfl) (by kernel_rfl) (fun _ _ _ h => h) (Or.inr ⟨by rfl, rfl⟩) hHeld ?_
  simp only [Act.put, List.setIfInBounds_toArray, List.set_cons_zero, List.set_cons_succ]
  refine wpAnyH_take (i := 43) (oi := ⟨some 48, .pick (.tmp 21) (.tmp 47) (.const (.bool false)), 4, "bounds.go:62", #[⟨16, .data⟩, ⟨42, .data⟩], none⟩) (v := (.bool false)) rfl (by kernel_rfl) (by kernel_rfl) (by kernel_rfl) (fun _ _ _ h => h) (Or.inl ⟨by rfl, fun w' h' => by unfold execOp; go_simp⟩) hHeld ?_
  simp only [Act.put, List.setIfInBounds_toArray, List.set_cons_zero, List.set_cons_succ]
  refine wpAnyH_take (i := 44) (oi := ⟨some 4, .assign (.tmp 48), 4, "bounds.go:62", #[⟨43, .data⟩, ⟨42, .chain⟩, ⟨0, .phase⟩, ⟨1, .phase⟩, ⟨2, .phase⟩, ⟨3, .phase⟩, ⟨4, .phase⟩, ⟨5, .phase⟩, ⟨6, .phase⟩, ⟨7, .phase⟩, ⟨8, .phase⟩, ⟨9, .phase⟩, ⟨10, .phase⟩, ⟨11, .phase⟩, ⟨12, .phase⟩, ⟨13, .phase⟩, ⟨14, .phase⟩, ⟨15, .phase⟩, ⟨16, .phase⟩, ⟨17, .phase⟩, ⟨18, .phase⟩, ⟨19, .phase⟩, ⟨20, .phase⟩, ⟨21, .phase⟩, ⟨22, .phase⟩, ⟨23, .phase⟩, ⟨24, .phase⟩, ⟨25, .phase⟩, ⟨26, .phase⟩, ⟨27, .phase⟩, ⟨28, .phase⟩, ⟨29, .phase⟩, ⟨30, .phase⟩, ⟨31, .phase⟩, ⟨32, .phase⟩, ⟨33, .phase⟩, ⟨34, .phase⟩, ⟨35, .phase⟩, ⟨36, .phase⟩, ⟨37, .phase⟩, ⟨38, .phase⟩, ⟨39, .phase⟩, ⟨40, .phase⟩, ⟨41, .phase⟩, ⟨42, .phase⟩, ⟨43, .phase⟩], none⟩) (v := (.bool false)) rfl (by kernel_rfl) (by kernel_rfl) (by kernel_rfl) (fun _ _ _ h => h) (Or.inl ⟨by rfl, fun _ _ => by rfl⟩) hHeld ?_
  simp only [Act.put, List.setIfInBounds_toArray, List.set_cons_zero, List.set_cons_succ]
  refine wpAnyH_done (by kernel_rfl) ?_ _
  go_wp2
  go_ret
  exact ⟨by rw [decide_eq_false hno]; rfl, hb⟩

set_option maxHeartbeats 2000000 in
theorem mayBe_B (p : Par) (es ev er en : Int) (_ek : Bool) (w : World) (hR : Rws w) (hok : Ok p) :
    Calls Tryd.prog 17 #[paV p, esV ⟨es, ev, er, en, true⟩] w fun e w' => e = .returned (.bool (decide (May p ⟨es, ev, er, en, true⟩))) ∧ Below w.heap.size w w' := by
  have hb0 := newBox2 w (.cells #[.int .i64 p.mi, .int .i64 p.fi, .int .i64 p.ma] 23) (.cells #[.int .i64 es, .int .i64 ev, .int .i64 er, .int .i64 en, .bool true] 25)
  have hp := PBox.of (heap_new1 w (.cells #[.int .i64 p.mi, .int .i64 p.fi, .int .i64 p.ma] 23) (.cells #[.int .i64 es, .int .i64 ev, .int .i64 er, .int .i64 en, .bool true] 25))
  have he := EBox.of (e := ⟨es, ev, er, en, true⟩) (heap_new2 w (.cells #[.int .i64 p.mi, .int .i64 p.fi, .int .i64 p.ma] 23) (.cells #[.int .i64 es, .int .i64 ev, .int .i64 er, .int .i64 en, .bool true] 25))
  have hs : w.heap.size + 1 < ((w.alloc (.cells #[.int .i64 p.mi, .int .i64 p.fi, .int .i64 p.ma] 23)).alloc (.cells #[.int .i64 es, .int .i64 ev, .int .i64 er, .int .i64 en, .bool true] 25)).heap.size := by simp
  have hR0 := hR.later hb0 (Nat.le_refl _)
  go_enter Tryd.func17, Tryd.ntmps17
  go_wp2_with fail
  generalize (w.alloc (.cells #[.int .i64 p.mi, .int .i64 p.fi, .int .i64 p.ma] 23)).alloc (.cells #[.int .i64 es, .int .i64 ev, .int .i64 er, .int .i64 en, .bool true] 25) = w0 at *
  have hd0 : Below w0.heap.size w0 w0.drew := (Below.refl w0.heap.size w0).drew
  have hRd : Rws w0.drew := hR0.later hd0 (Nat.le_refl _)
  have hpd : PBox w0.drew w.heap.size p := hp.later hd0 (by omega)
  have hed : EBox w0.drew (w.heap.size + 1) ⟨es, ev, er, en, true⟩ := he.later hd0 hs
  have hbd : Below w.heap.size w w0.drew := hb0.drew
  have hsd : w.heap.size + 1 < w0.drew.heap.size := hs
  clear hp he hR0 hd0 hb0 hs hR
  refine wp_region_held_drew (S := fun w' => Rws w' ∧ PBox w' w.heap.size p ∧ EBox w' (w.heap.size + 1) ⟨es, ev, er, en, true⟩) (by kernel_rfl) ⟨hRd, hpd, hed⟩ (fun hHeld => ?_)
  refine wpAnyH_take (i := 0) (oi := ⟨some 5, .load 23 (.tmp 2), 23, "bounds.go:62", #[], none⟩) (v := (paV p)) rfl (by kernel_rfl) (by kernel_rfl) (by kernel_rfl) (fun _ _ _ h => h) (Or.inl ⟨by rfl, fun w' h' => by have c0 := h'.2.1.c0; have c1 := h'.2.1.c1; have c2 := h'.2.1.c2; unfold execOp; go_simp⟩) hHeld ?_
  simp only [Act.put, List.setIfInBounds_toArray, List.set_cons_zero, List.set_cons_succ]
  refine wpAnyH_ready (rs := [1]) (by kernel_rfl) (by simp) ?_
  refine AllReadyH.cons (o := ⟨some 6, .call ⟨.value (.func 22), #[.tmp 5], #[23]⟩, 4, "bounds.go:62", #[⟨0, .data⟩], none⟩) rfl (fun KK hK => ?_) (AllReadyH.nil)
  go_simp
  refine (paramsMayBe_any p _ hRd).mono ?_
  rintro e w1 ⟨rfl, hb1⟩
  rw [decide_eq_true hok]
  have hR1 := hRd.later hb1 (Nat.le_refl _)
  have hp1 := hpd.later hb1 (by omega)
  have he1 := hed.later hb1 hsd
  have hb := hbd.trans (hb1.mono hbd.size)
  have hs1 : w.heap.size + 1 < w1.heap.size := Nat.lt_of_lt_of_le hsd hb1.size
  clear hRd hpd hed hbd hb1 hsd
  dsimp only
  refine hK.out _ _ ⟨hR1, hp1, he1⟩ (fun hHeld => ?_)
  clear hK KK
  try simp only [Act.put, List.setIfInBounds_toArray, List.set_cons_zero, List.set_cons_succ]
  refine wpAnyH_take (i := 2) (oi := ⟨some 7, .move (.tmp 6), 4, "bounds.go:62", #[⟨1, .data⟩, ⟨1, .chain⟩], none⟩) (v := (.bool true)) rfl (by kernel_rfl) (by kernel_rfl) (by kernel_rfl) (fun _ _ _ h => h) (Or.inl ⟨by rfl, fun _ _ => by rfl⟩) hHeld ?_
  simp only [Act.put, List.setIfInBounds_toArray, List.set_cons_zero, List.set_cons_succ]
  refine wpAnyH_take (i := 3) (oi := ⟨some 8, .fieldAddr 25 (.tmp 3) 4, 0, "bounds.go:62", #[⟨2, .guard⟩], some (2, true)⟩) (v := (.pointer (some ⟨w.heap.size + 1, 4, none⟩))) rfl (by kernel_rfl) (by kernel_rfl) (by kernel_rfl) (fun _ _ _ h => h) (Or.inl ⟨by rfl, fun w' h' => by unfold execOp; go_simp⟩) hHeld ?_
  simp only [Act.put, List.setIfInBounds_toArray, List.set_cons_zero, List.set_cons_succ]
  refine wpAnyH_take (i := 4) (oi := ⟨some 9, .load 4 (.tmp 8), 4, "bounds.go:62", #[⟨3, .data⟩, ⟨2, .guard⟩], some (2, true)⟩) (v := (.bool true)) rfl (by kernel_rfl) (by kernel_rfl) (by kernel_rfl) (fun _ _ _ h => h) (Or.inl ⟨by rfl, fun w' h' => by have c0 := h'.2.2.c4; unfold execOp; go_simp⟩) hHeld ?_
  simp only [Act.put, List.setIfInBounds_toArray, List.set_cons_zero, List.set_cons_succ]
  refine wpAnyH_take (i := 5) (oi := ⟨some 10, .move (.tmp 9), 4, "bounds.go:62", #[⟨4, .data⟩, ⟨2, .chain⟩, ⟨2, .guard⟩], some (2, true)⟩) (v := (.bool true)) rfl (by kernel_rfl) (by kernel_rfl) (by kernel_rfl) (fun _ _ _ h => h) (Or.inl ⟨by rfl, fun _ _ => by rfl⟩) hHeld ?_
  simp only [Act.put, List.setIfInBounds_toArray, List.set_cons_zero, List.set_cons_succ]
  refine wpAnyH_take (i := 6) (oi := ⟨some 11, .fieldAddr 25 (.tmp 3) 0, 0, "bounds.go:62", #[⟨5, .guard⟩], some (5, false)⟩) (v := (undef)) rfl (by kernel_rfl) (by kernel_rfl) (by kernel_rfl) (fun _ _ _ h => h) (Or.inr ⟨by rfl, rfl⟩) hHeld ?_
  simp only [Act.put, List.setIfInBounds_toArray, List.set_cons_zero, List.set_cons_succ]
  refine wpAnyH_take (i := 7) (oi := ⟨some 12, .load 3 (.tmp 11), 3, "bounds.go:62", #[⟨6, .data⟩, ⟨5, .guard⟩], some (5, false)⟩) (v := (undef)) rfl (by kernel_rfl) (by kernel_rfl) (by kernel_rfl) (fun _ _ _ h => h) (Or.inr ⟨by rfl, rfl⟩) hHeld ?_
  simp only [Act.put, List.setIfInBounds_toArray, List.set_cons_zero, List.set_cons_succ]
  refine wpAnyH_take (i := 8) (oi := ⟨some 13, .binOp .eql 3 (.tmp 12) (.const (.int .i64 0)) 3, 4, "bounds.go:62", #[⟨7, .data⟩, ⟨5, .guard⟩], some (5, false)⟩) (v := (undef)) rfl (by kernel_rfl) (by kernel_rfl) (by kernel_rfl) (fun _ _ _ h => h) (Or.inr ⟨by rfl, rfl⟩) hHeld ?_
  simp only [Act.put, List.setIfInBounds_toArray, List.set_cons_zero, List.set_cons_succ]
  refine wpAnyH_take (i := 9) (oi := ⟨some 14, .move (.tmp 13), 4, "bounds.go:62", #[⟨8, .data⟩, ⟨5, .chain⟩, ⟨5, .guard⟩], some (5, false)⟩) (v := (undef)) rfl (by kernel_rfl) (by kernel_rfl) (by kernel_rfl) (fun _ _ _ h => h) (Or.inr ⟨by rfl, rfl⟩) hHeld ?_
  simp only [Act.put, List.setIfInBounds_toArray, List.set_cons_zero, List.set_cons_succ]
  refine wpAnyH_take (i := 10) (oi := ⟨some 15, .fieldAddr 25 (.tmp 3) 1, 0, "bounds.go:62", #[⟨9, .guard⟩], some (9, true)⟩) (v := (undef)) rfl (by kernel_rfl) (by kernel_rfl) (by kernel_rfl) (fun _ _ _ h => h) (Or.inr ⟨by rfl, rfl⟩) hHeld ?_
  simp only [Act.put, List.setIfInBounds_toArray, List.set_cons_zero, List.set_cons_succ]
  refine wpAnyH_take (i := 11) (oi := ⟨some 16, .load 3 (.tmp 15), 3, "bounds.go:62", #[⟨10, .data⟩, ⟨9, .guard⟩], some (9, true)⟩) (v := (undef)) rfl (by kernel_rfl) (by kernel_rfl) (by kernel_rfl) (fun _ _ _ h => h) (Or.inr ⟨by rfl, rfl⟩) hHeld ?_
  simp only [Act.put, List.setIfInBounds_toArray, List.set_cons_zero, List.set_cons_succ]
  refine wpAnyH_take (i := 12) (oi := ⟨some 17, .binOp .eql 3 (.tmp 16) (.const (.int .i64 0)) 3, 4, "bounds.go:62", #[⟨11, .data⟩, ⟨9, .guard⟩], some (9, true)⟩) (v := (undef)) rfl (by kernel_rfl) (by kernel_rfl) (by kernel_rfl) (fun _ _ _ h => h) (Or.inr ⟨by rfl, rfl⟩) hHeld ?_
  simp only [Act.put, List.setIfInBounds_toArray, List.set_cons_zero, List.set_cons_succ]
  refine wpAnyH_take (i := 13) (oi := ⟨some 18, .pick (.tmp 14) (.tmp 17) (.const (.bool false)), 4, "bounds.go:62", #[⟨9, .data⟩, ⟨12, .data⟩, ⟨5, .guard⟩], some (5, false)⟩) (v := (undef)) rfl (by kernel_rfl) (by kernel_rfl) (by kernel_rfl) (fun _ _ _ h => h) (Or.inr ⟨by rfl, rfl⟩) hHeld ?_
  simp only [Act.put, List.setIfInBounds_toArray, List.set_cons_zero, List.set_cons_succ]
  refine wpAnyH_take (i := 14) (oi := ⟨some 19, .pick (.tmp 10) (.const (.bool true)) (.tmp 18), 4, "bounds.go:62", #[⟨5, .data⟩, ⟨13, .data⟩, ⟨2, .guard⟩], some (2, true)⟩) (v := (.bool true)) rfl (by kernel_rfl) (by kernel_rfl) (by kernel_rfl) (fun _ _ _ h => h) (Or.inl ⟨by rfl, fun w' h' => by unfold execOp; go_simp⟩) hHeld ?_
  simp only [Act.put, List.setIfInBounds_toArray, List.set_cons_zero, List.set_cons_succ]
  refine wpAnyH_take (i := 15) (oi := ⟨some 20, .pick (.tmp 7) (.tmp 19) (.const (.bool false)), 4, "bounds.go:62", #[⟨2, .data⟩, ⟨14, .data⟩], none⟩) (v := (.bool true)) rfl (by kernel_rfl) (by kernel_rfl) (by kernel_rfl) (fun _ _ _ h => h) (Or.inl ⟨by rfl, fun w' h' => by unfold execOp; go_simp⟩) hHeld ?_
  simp only [Act.put, List.setIfInBounds_toArray, List.set_cons_zero, List.set_cons_succ]
  refine wpAnyH_take (i := 16) (oi := ⟨some 21, .move (.tmp 20), 4, "bounds.go:62", #[⟨15, .data⟩, ⟨9, .chain⟩], none⟩) (v := (.bool true)) rfl (by kernel_rfl) (by kernel_rfl) (by kernel_rfl) (fun _ _ _ h => h) (Or.inl ⟨by rfl, fun _ _ => by rfl⟩) hHeld ?_
  simp only [Act.put, List.setIfInBounds_toArray, List.set_cons_zero, List.set_cons_succ]
  refine wpAnyH_take (i := 17) (oi := ⟨some 22, .indexAddr 46 (.global 0) (.const (.int .i64 0)), 0, "bounds.go:62", #[⟨16, .guard⟩], some (16, true)⟩) (v := (.pointer (some ⟨0, 0, none⟩))) rfl (by kernel_rfl) (by kernel_rfl) (by kernel_rfl) (fun _ _ _ h => h) (Or.inl ⟨by rfl, fun w' h' => by unfold execOp; go_simp⟩) hHeld ?_
  simp only [Act.put, List.setIfInBounds_toArray, List.set_cons_zero, List.set_cons_succ]
  refine wpAnyH_take (i := 18) (oi := ⟨some 23, .load 41 (.tmp 22), 41, "bounds.go:62", #[⟨17, .data⟩, ⟨16, .guard⟩], some (16, true)⟩) (v := (rwV 0 16777216)) rfl (by kernel_rfl) (by kernel_rfl) (by kernel_rfl) (fun _ _ _ h => h) (Or.inl ⟨by rfl, fun w' h' => by have c0 := h'.1.c0; have c1 := h'.1.c1; unfold execOp; go_simp⟩) hHeld ?_
  simp only [Act.put, List.setIfInBounds_toArray, List.set_cons_zero, List.set_cons_succ]
  refine wpAnyH_take (i := 19) (oi := ⟨some 24, .makeFunc (Fn.func 26) #[.tmp 23] #[], 48, "bounds.go:62", #[⟨18, .data⟩, ⟨16, .guard⟩], some (16, true)⟩) (v := (fnV 0 16777216)) rfl (by kernel_rfl) (by kernel_rfl) (by kernel_rfl) (fun _ _ _ h => h) (Or.inl ⟨by rfl, fun w' h' => by unfold execOp; go_simp⟩) hHeld ?_
  simp only [Act.put, List.setIfInBounds_toArray, List.set_cons_zero, List.set_cons_succ]
  refine wpAnyH_take (i := 20) (oi := ⟨some 25, .fieldAddr 25 (.tmp 3) 0, 0, "bounds.go:62", #[⟨16, .guard⟩], some (16, true)⟩) (v := (.pointer (some ⟨w.heap.size + 1, 0, none⟩))) rfl (by kernel_rfl) (by kernel_rfl) (by kernel_rfl) (fun _ _ _ h => h) (Or.inl ⟨by rfl, fun w' h' => by unfold execOp; go_simp⟩) hHeld ?_
  simp only [Act.put, List.setIfInBounds_toArray, List.set_cons_zero, List.set_cons_succ]
  refine wpAnyH_take (i := 21) (oi := ⟨some 26, .load 3 (.tmp 25), 3, "bounds.go:62", #[⟨20, .data⟩, ⟨16, .guard⟩], some (16, true)⟩) (v := (.int .i64 es)) rfl (by kernel_rfl) (by kernel_rfl) (by kernel_rfl) (fun _ _ _ h => h) (Or.inl ⟨by rfl, fun w' h' => by have c0 := h'.2.2.c0; unfold execOp; go_simp⟩) hHeld ?_
  simp only [Act.put, List.setIfInBounds_toArray, List.set_cons_zero, List.set_cons_succ]
  refine wpAnyH_take (i := 22) (oi := ⟨some 27, .build 50 #[(0, .tmp 24), (1, .tmp 26)], 50, "bounds.go:62", #[⟨19, .data⟩, ⟨21, .data⟩, ⟨16, .guard⟩], some (16, true)⟩) (v := (.agg #[fnV 0 16777216, .int .i64 es])) rfl (by kernel_rfl) (by kernel_rfl) (by kernel_rfl) (fun _ _ _ h => h) (Or.inl ⟨by rfl, fun w' h' => by unfold execOp; go_simp⟩) hHeld ?_
  simp only [Act.put, List.setIfInBounds_toArray, List.set_cons_zero, List.set_cons_succ]
  refine wpAnyH_take (i := 23) (oi := ⟨some 28, .indexAddr 46 (.global 0) (.const (.int .i64 1)), 0, "bounds.go:62", #[⟨16, .guard⟩], some (16, true)⟩) (v := (.pointer (some ⟨0, 2, none⟩))) rfl (by kernel_rfl) (by kernel_rfl) (by kernel_rfl) (fun _ _ _ h => h) (Or.inl ⟨by rfl, fun w' h' => by unfold execOp; go_simp⟩) hHeld ?_
  simp only [Act.put, List.setIfInBounds_toArray, List.set_cons_zero, List.set_cons_succ]
  refine wpAnyH_take (i := 24) (oi := ⟨some 29, .load 41 (.tmp 28), 41, "bounds.go:62", #[⟨23, .data⟩, ⟨16, .guard⟩], some (16, true)⟩) (v := (rwV 0 16777216)) rfl (by kernel_rfl) (by kernel_rfl) (by kernel_rfl) (fun _ _ _ h => h) (Or.inl ⟨by rfl, fun w' h' => by have c0 := h'.1.c2; have c1 := h'.1.c3; unfold execOp; go_simp⟩) hHeld ?_
  simp only [Act.put, List.setIfInBounds_toArray, List.set_cons_zero, List.set_cons_succ]
  refine wpAnyH_take (i := 25) (oi := ⟨some 30, .makeFunc (Fn.func 26) #[.tmp 29] #[], 48, "bounds.go:62", #[⟨24, .data⟩, ⟨16, .guard⟩], some (16, true)⟩) (v := (fnV 0 16777216)) rfl (by kernel_rfl) (by kernel_rfl) (by kernel_rfl) (fun _ _ _ h => h) (Or.inl ⟨by rfl, fun w' h' => by unfold execOp; go_simp⟩) hHeld ?_
  simp only [Act.put, List.setIfInBounds_toArray, List.set_cons_zero, List.set_cons_succ]
  refine wpAnyH_take (i := 26) (oi := ⟨some 31, .fieldAddr 25 (.tmp 3) 1, 0, "bounds.go:62", #[⟨16, .guard⟩], some (16, true)⟩) (v := (.pointer (some ⟨w.heap.size + 1, 1, none⟩))) rfl (by kernel_rfl) (by kernel_rfl) (by kernel_rfl) (fun _ _ _ h => h) (Or.inl ⟨by rfl, fun w' h' => by unfold execOp; go_simp⟩) hHeld ?_
  simp only [Act.put, List.setIfInBounds_toArray, List.set_cons_zero, List.set_cons_succ]
  refine wpAnyH_take (i := 27) (oi := ⟨some 32, .load 3 (.tmp 31), 3, "bounds.go:62", #[⟨26, .data⟩, ⟨16, .guard⟩], some (16, true)⟩) (v := (.int .i64 ev)) rfl (by kernel_rfl) (by kernel_rfl) (by kernel_rfl) (fun _ _ _ h => h) (Or.inl ⟨by rfl, fun w' h' => by have c0 := h'.2.2.c1; unfold execOp; go_simp⟩) hHeld ?_
  simp only [Act.put, List.setIfInBounds_toArray, List.set_cons_zero, List.set_cons_succ]
  refine wpAnyH_take (i := 28) (oi := ⟨some 33, .build 50 #[(0, .tmp 30), (1, .tmp 32)], 50, "bounds.go:62", #[⟨25, .data⟩, ⟨27, .data⟩, ⟨16, .guard⟩], some (16, true)⟩) (v := (.agg #[fnV 0 16777216, .int .i64 ev])) rfl (by kernel_rfl) (by kernel_rfl) (by kernel_rfl) (fun _ _ _ h => h) (Or.inl ⟨by rfl, fun w' h' => by unfold execOp; go_simp⟩) hHeld ?_
  simp only [Act.put, List.setIfInBounds_toArray, List.set_cons_zero, List.set_cons_succ]
  refine wpAnyH_take (i := 29) (oi := ⟨some 34, .load 23 (.tmp 2), 23, "bounds.go:62", #[⟨16, .guard⟩], some (16, true)⟩) (v := (paV p)) rfl (by kernel_rfl) (by kernel_rfl) (by kernel_rfl) (fun _ _ _ h => h) (Or.inl ⟨by rfl, fun w' h' => by have c0 := h'.2.1.c0; have c1 := h'.2.1.c1; have c2 := h'.2.1.c2; unfold execOp; go_simp⟩) hHeld ?_
  simp only [Act.put, List.setIfInBounds_toArray, List.set_cons_zero, List.set_cons_succ]
  refine wpAnyH_take (i := 32) (oi := ⟨some 37, .fieldAddr 25 (.tmp 3) 2, 0, "bounds.go:62", #[⟨16, .guard⟩], some (16, true)⟩) (v := (.pointer (some ⟨w.heap.size + 1, 2, none⟩))) rfl (by kernel_rfl) (by kernel_rfl) (by kernel_rfl) (fun _ _ _ h => h) (Or.inl ⟨by rfl, fun w' h' => by unfold execOp; go_simp⟩) hHeld ?_
  simp only [Act.put, List.setIfInBounds_toArray, List.set_cons_zero, List.set_cons_succ]
  refine wpAnyH_take (i := 33) (oi := ⟨some 38, .load 3 (.tmp 37), 3, "bounds.go:62", #[⟨32, .data⟩, ⟨16, .guard⟩], some (16, true)⟩) (v := (.int .i64 er)) rfl (by kernel_rfl) (by kernel_rfl) (by kernel_rfl) (fun _ _ _ h => h) (Or.inl ⟨by rfl, fun w' h' => by have c0 := h'.2.2.c2; unfold execOp; go_simp⟩) hHeld ?_
  simp only [Act.put, List.setIfInBounds_toArray, List.set_cons_zero, List.set_cons_succ]
  refine wpAnyH_take (i := 35) (oi := ⟨some 40, .indexAddr 46 (.global 0) (.const (.int .i64 3)), 0, "bounds.go:62", #[⟨16, .guard⟩], some (16, true)⟩) (v := (.pointer (some ⟨0, 6, none⟩))) rfl (by kernel_rfl) (by kernel_rfl) (by kernel_rfl) (fun _ _ _ h => h) (Or.inl ⟨by rfl, fun w' h' => by unfold execOp; go_simp⟩) hHeld ?_
  simp only [Act.put, List.setIfInBounds_toArray, List.set_cons_zero, List.set_cons_succ]
  refine wpAnyH_take (i := 36) (oi := ⟨some 41, .load 41 (.tmp 40), 41, "bounds.go:62", #[⟨35, .data⟩, ⟨16, .guard⟩], some (16, true)⟩) (v := (rwV 0 20)) rfl (by kernel_rfl) (by kernel_rfl) (by kernel_rfl) (fun _ _ _ h => h) (Or.inl ⟨by rfl, fun w' h' => by have c0 := h'.1.c6; have c1 := h'.1.c7; unfold execOp; go_simp⟩) hHeld ?_
  simp only [Act.put, List.setIfInBounds_toArray, List.set_cons_zero, List.set_cons_succ]
  refine wpAnyH_take (i := 37) (oi := ⟨some 42, .makeFunc (Fn.func 26) #[.tmp 41] #[], 48, "bounds.go:62", #[⟨36, .data⟩, ⟨16, .guard⟩], some (16, true)⟩) (v := (fnV 0 20)) rfl (by kernel_rfl) (by kernel_rfl) (by kernel_rfl) (fun _ _ _ h => h) (Or.inl ⟨by rfl, fun w' h' => by unfold execOp; go_simp⟩) hHeld ?_
  simp only [Act.put, List.setIfInBounds_toArray, List.set_cons_zero, List.set_cons_succ]
  refine wpAnyH_take (i := 38) (oi := ⟨some 43, .fieldAddr 25 (.tmp 3) 3, 0, "bounds.go:62", #[⟨16, .guard⟩], some (16, true)⟩) (v := (.pointer (some ⟨w.heap.size + 1, 3, none⟩))) rfl (by kernel_rfl) (by kernel_rfl) (by kernel_rfl) (fun _ _ _ h => h) (Or.inl ⟨by rfl, fun w' h' => by unfold execOp; go_simp⟩) hHeld ?_
  simp only [Act.put, List.setIfInBounds_toArray, List.set_cons_zero, List.set_cons_succ]
  refine wpAnyH_take (i := 39) (oi := ⟨some 44, .load 3 (.tmp 43), 3, "bounds.go:62", #[⟨38, .data⟩, ⟨16, .guard⟩], some (16, true)⟩) (v := (.int .i64 en)) rfl (by kernel_rfl) (by kernel_rfl) (by kernel_rfl) (fun _ _ _ h => h) (Or.inl ⟨by rfl, fun w' h' => by have c0 := h'.2.2.c3; unfold execOp; go_simp⟩) hHeld ?_
  simp only [Act.put, List.setIfInBounds_toArray, List.set_cons_zero, List.set_cons_succ]
  refine wpAnyH_take (i := 40) (oi := ⟨some 45, .build 50 #[(0, .tmp 42), (1, .tmp 44)], 50, "bounds.go:62", #[⟨37, .data⟩, ⟨39, .data⟩, ⟨16, .guard⟩], some (16, true)⟩) (v := (.agg #[fnV 0 20, .int .i64 en])) rfl (by kernel_rfl) (by kernel_rfl) (by kernel_rfl) (fun _ _ _ h => h) (Or.inl ⟨by rfl, fun w' h' => by unfold execOp; go_simp⟩) hHeld ?_
  simp only [Act.put, List.setIfInBounds_toArray, List.set_cons_zero, List.set_cons_succ]
  refine wpAnyH_ready (rs := [30]) (by kernel_rfl) (by simp) ?_
  refine AllReadyH.cons (o := ⟨some 35, .call ⟨.value (.func 18), #[.tmp 34], #[23]⟩, 41, "bounds.go:65", #[⟨29, .data⟩, ⟨16, .chain⟩, ⟨16, .guard⟩], some (16, true)⟩) rfl (fun KK hK => ?_) (AllReadyH.nil)
  go_simp
  refine (waits_any p _ hR1).mono ?_
  rintro e w2 ⟨rfl, hb2⟩
  have hR2 := hR1.later hb2 (Nat.le_refl _)
  have hp2 := hp1.later hb2 (by omega)
  have he2 := he1.later hb2 hs1
  have hb' := hb.trans (hb2.mono hb.size)
  have hs2 : w.heap.size + 1 < w2.heap.size := Nat.lt_of_lt_of_le hs1 hb2.size
  clear hR1 hp1 he1 hb hb2 hs1
  dsimp only
  refine hK.out _ _ ⟨hR2, hp2, he2⟩ (fun hHeld => ?_)
  clear hK KK
  try simp only [Act.put, List.setIfInBounds_toArray, List.set_cons_zero, List.set_cons_succ]
  refine wpAnyH_take (i := 31) (oi := ⟨some 36, .makeFunc (Fn.func 26) #[.tmp 35] #[], 48, "bounds.go:62", #[⟨30, .data⟩, ⟨16, .guard⟩], some (16, true)⟩) (v := (fnV (max 1 p.mi) (min 1048576 p.ma))) rfl (by kernel_rfl) (by kernel_rfl) (by kernel_rfl) (fun _ _ _ h => h) (Or.inl ⟨by rfl, fun w' h' => by unfold execOp; go_simp⟩) hHeld ?_
  simp only [Act.put, List.setIfInBounds_toArray, List.set_cons_zero, List.set_cons_succ]
  refine wpAnyH_take (i := 34) (oi := ⟨some 39, .build 50 #[(0, .tmp 36), (1, .tmp 38)], 50, "bounds.go:62", #[⟨31, .data⟩, ⟨33, .data⟩, ⟨16, .guard⟩], some (16, true)⟩) (v := (.agg #[fnV (max 1 p.mi) (min 1048576 p.ma), .int .i64 er])) rfl (by kernel_rfl) (by kernel_rfl) (by kernel_rfl) (fun _ _ _ h => h) (Or.inl ⟨by rfl, fun w' h' => by unfold execOp; go_simp⟩) hHeld ?_
  simp only [Act.put, List.setIfInBounds_toArray, List.set_cons_zero, List.set_cons_succ]
  refine wpAnyH_ready (rs := [41]) (by kernel_rfl) (by simp) ?_
  refine AllReadyH.cons (o := ⟨some 46, .buildSlice 52 4 #[(0, .tmp 27), (1, .tmp 33), (2, .tmp 39), (3, .tmp 45)], 52, "bounds.go:62", #[⟨22, .data⟩, ⟨28, .data⟩, ⟨34, .data⟩, ⟨40, .data⟩, ⟨16, .guard⟩], some (16, true)⟩) rfl (fun KK hK => ?_) (AllReadyH.nil)
  go_simp
  have hn := newBox w2 (Obj.cells #[fnV 0 16777216, .int .i64 es, fnV 0 16777216, .int .i64 ev, fnV (max 1 p.mi) (min 1048576 p.ma), .int .i64 er, fnV 0 20, .int .i64 en] 50)
  have hRn := hR2.later hn (Nat.le_refl _)
  have hpn := hp2.later hn (by omega)
  have hen := he2.later hn hs2
  refine hK.out _ _ ⟨hRn, hpn, hen⟩ (fun hHeld => ?_)
  clear hK KK
  try simp only [Act.put, List.setIfInBounds_toArray, List.set_cons_zero, List.set_cons_succ]
  refine wpAnyH_ready (rs := [42]) (by kernel_rfl) (by simp) ?_
  refine AllReadyH.cons (o := ⟨some 47, .call ⟨.value (.func 25), #[.tmp 46], #[52]⟩, 4, "bounds.go:62", #[⟨41, .data⟩, ⟨30, .chain⟩, ⟨16, .guard⟩], some (16, true)⟩) rfl (fun KK hK => ?_) (AllReadyH.nil)
  go_simp
  have hC := Chk.of4 (heap_alloc_last w2 (Obj.cells #[fnV 0 16777216, .int .i64 es, fnV 0 16777216, .int .i64 ev, fnV (max 1 p.mi) (min 1048576 p.ma), .int .i64 er, fnV 0 20, .int .i64 en] 50))
  refine (allPass_any w2.heap.size [(0, 16777216, es), (0, 16777216, ev), (max 1 p.mi, min 1048576 p.ma, er), (0, 20, en)] _ (by simp) (by simp) hC).mono ?_
  rintro e w3 ⟨he, hb3⟩
  rw [show [(0, 16777216, es), (0, 16777216, ev), (max 1 p.mi, min 1048576 p.ma, er), (0, 20, en)].all pas = decide (May p ⟨es, ev, er, en, true⟩) from pass4 (e := ⟨es, ev, er, en, true⟩) hok (Or.inl rfl)] at he
  subst he
  have hq := hn.trans (hb3.mono hn.size)
  have hR3 := hR2.later hq (Nat.le_refl _)
  have hp3 := hp2.later hq (by omega)
  have he3 := he2.later hq hs2
  have hb'' := hb'.trans (hq.mono hb'.size)
  clear hb' hq hC hn hRn hpn hen hR2 hp2 he2 hb3 hs2
  dsimp only
  refine hK.out _ _ ⟨hR3, hp3, he3⟩ (fun hHeld => ?_)
  clear hK KK
  try simp only [Act.put, List.setIfInBounds_toArray, List.set_cons_zero, List.set_cons_succ]
  refine wpAnyH_take (i := 43) (oi := ⟨some 48, .pick (.tmp 21) (.tmp 47) (.const (.bool false)), 4, "bounds.go:62", #[⟨16, .data⟩, ⟨42, .data⟩], none⟩) (v := (.bool (decide (May p ⟨es, ev, er, en, true⟩)))) rfl (by kernel_rfl) (by kernel_rfl) (by kernel_rfl) (fun _ _ _ h => h) (Or.inl ⟨by rfl, fun w' h' => by unfold execOp; go_simp⟩) hHeld ?_
  simp only [Act.put, List.setIfInBounds_toArray, List.set_cons_zero, List.set_cons_succ]
  refine wpAnyH_take (i := 44) (oi := ⟨some 4, .assign (.tmp 48), 4, "bounds.go:62", #[⟨43, .data⟩, ⟨42, .chain⟩, ⟨0, .phase⟩, ⟨1, .phase⟩, ⟨2, .phase⟩, ⟨3, .phase⟩, ⟨4, .phase⟩, ⟨5, .phase⟩, ⟨6, .phase⟩, ⟨7, .phase⟩, ⟨8, .phase⟩, ⟨9, .phase⟩, ⟨10, .phase⟩, ⟨11, .phase⟩, ⟨12, .phase⟩, ⟨13, .phase⟩, ⟨14, .phase⟩, ⟨15, .phase⟩, ⟨16, .phase⟩, ⟨17, .phase⟩, ⟨18, .phase⟩, ⟨19, .phase⟩, ⟨20, .phase⟩, ⟨21, .phase⟩, ⟨22, .phase⟩, ⟨23, .phase⟩, ⟨24, .phase⟩, ⟨25, .phase⟩, ⟨26, .phase⟩, ⟨27, .phase⟩, ⟨28, .phase⟩, ⟨29, .phase⟩, ⟨30, .phase⟩, ⟨31, .phase⟩, ⟨32, .phase⟩, ⟨33, .phase⟩, ⟨34, .phase⟩, ⟨35, .phase⟩, ⟨36, .phase⟩, ⟨37, .phase⟩, ⟨38, .phase⟩, ⟨39, .phase⟩, ⟨40, .phase⟩, ⟨41, .phase⟩, ⟨42, .phase⟩, ⟨43, .phase⟩], none⟩) (v := (.bool (decide (May p ⟨es, ev, er, en, true⟩)))) rfl (by kernel_rfl) (by kernel_rfl) (by kernel_rfl) (fun _ _ _ h => h) (Or.inl ⟨by rfl, fun _ _ => by rfl⟩) hHeld ?_
  simp only [Act.put, List.setIfInBounds_toArray, List.set_cons_zero, List.set_cons_succ]
  refine wpAnyH_done (by kernel_rfl) ?_ _
  go_wp2
  go_ret
  exact ⟨rfl, hb''⟩

set_option maxHeartbeats 2000000 in
theorem mayBe_C (p : Par) (_es _ev er en : Int) (_ek : Bool) (w : World) (hR : Rws w) (hok : Ok p) :
    Calls Tryd.prog 17 #[paV p, esV ⟨0, 0, er, en, false⟩] w fun e w' => e = .returned (.bool (decide (May p ⟨0, 0, er, en, false⟩))) ∧ Below w.heap.size w w' := by
  have hb0 := newBox2 w (.cells #[.int .i64 p.mi, .int .i64 p.fi, .int .i64 p.ma] 23) (.cells #[.int .i64 0, .int .i64 0, .int .i64 er, .int .i64 en, .bool false] 25)
  have hp := PBox.of (heap_new1 w (.cells #[.int .i64 p.mi, .int .i64 p.fi, .int .i64 p.ma] 23) (.cells #[.int .i64 0, .int .i64 0, .int .i64 er, .int .i64 en, .bool false] 25))
  have he := EBox.of (e := ⟨0, 0, er, en, false⟩) (heap_new2 w (.cells #[.int .i64 p.mi, .int .i64 p.fi, .int .i64 p.ma] 23) (.cells #[.int .i64 0, .int .i64 0, .int .i64 er, .int .i64 en, .bool false] 25))
  have hs : w.heap.size + 1 < ((w.alloc (.cells #[.int .i64 p.mi, .int .i64 p.fi, .int .i64 p.ma] 23)).alloc (.cells #[.int .i64 0, .int .i64 0, .int .i64 er, .int .i64 en, .bool false] 25)).heap.size := by simp
  have hR0 := hR.later hb0 (Nat.le_refl _)
  go_enter Tryd.func17, Tryd.ntmps17
  go_wp2_with fail
  generalize (w.alloc (.cells #[.int .i64 p.mi, .int .i64 p.fi, .int .i64 p.ma] 23)).alloc (.cells #[.int .i64 0, .int .i64 0, .int .i64 er, .int .i64 en, .bool false] 25) = w0 at *
  have hd0 : Below w0.heap.size w0 w0.drew := (Below.refl w0.heap.size w0).drew
  have hRd : Rws w0.drew := hR0.later hd0 (Nat.le_refl _)
  have hpd : PBox w0.drew w.heap.size p := hp.later hd0 (by omega)
  have hed : EBox w0.drew (w.heap.size + 1) ⟨0, 0, er, en, false⟩ := he.later hd0 hs
  have hbd : Below w.heap.size w w0.drew := hb0.drew
  have hsd : w.heap.size + 1 < w0.drew.heap.size := hs
  clear hp he hR0 hd0 hb0 hs hR
  refine wp_region_held_drew (S := fun w' => Rws w' ∧ PBox w' w.heap.size p ∧ EBox w' (w.heap.size + 1) ⟨0, 0, er, en, false⟩) (by kernel_rfl) ⟨hRd, hpd, hed⟩ (fun hHeld => ?_)
  refine wpAnyH_take (i := 0) (oi := ⟨some 5, .load 23 (.tmp 2), 23, "bounds.go:62", #[], none⟩) (v := (paV p)) rfl (by kernel_rfl) (by kernel_rfl) (by kernel_rfl) (fun _ _ _ h => h) (Or.inl ⟨by rfl, fun w' h' => by have c0 := h'.2.1.c0; have c1 := h'.2.1.c1; have c2 := h'.2.1.c2; unfold execOp; go_simp⟩) hHeld ?_
  simp only [Act.put, List.setIfInBounds_toArray, List.set_cons_zero, List.set_cons_succ]
  refine wpAnyH_ready (rs := [1]) (by kernel_rfl) (by simp) ?_
  refine AllReadyH.cons (o := ⟨some 6, .call ⟨.value (.func 22), #[.tmp 5], #[23]⟩, 4, "bounds.go:62", #[⟨0, .data⟩], none⟩) rfl (fun KK hK => ?_) (AllReadyH.nil)
  go_simp
  refine (paramsMayBe_any p _ hRd).mono ?_
  rintro e w1 ⟨rfl, hb1⟩
  rw [decide_eq_true hok]
  have hR1 := hRd.later hb1 (Nat.le_refl _)
  have hp1 := hpd.later hb1 (by omega)
  have he1 := hed.later hb1 hsd
  have hb := hbd.trans (hb1.mono hbd.size)
  have hs1 : w.heap.size + 1 < w1.heap.size := Nat.lt_of_lt_of_le hsd hb1.size
  clear hRd hpd hed hbd hb1 hsd
  dsimp only
  refine hK.out _ _ ⟨hR1, hp1, he1⟩ (fun hHeld => ?_)
  clear hK KK
  try simp only [Act.put, List.setIfInBounds_toArray, List.set_cons_zero, List.set_cons_succ]
  refine wpAnyH_take (i := 2) (oi := ⟨some 7, .move (.tmp 6), 4, "bounds.go:62", #[⟨1, .data⟩, ⟨1, .chain⟩], none⟩) (v := (.bool true)) rfl (by kernel_rfl) (by kernel_rfl) (by kernel_rfl) (fun _ _ _ h => h) (Or.inl ⟨by rfl, fun _ _ => by rfl⟩) hHeld ?_
  simp only [Act.put, List.setIfInBounds_toArray, List.set_cons_zero, List.set_cons_succ]
  refine wpAnyH_take (i := 3) (oi := ⟨some 8, .fieldAddr 25 (.tmp 3) 4, 0, "bounds.go:62", #[⟨2, .guard⟩], some (2, true)⟩) (v := (.pointer (some ⟨w.heap.size + 1, 4, none⟩))) rfl (by kernel_rfl) (by kernel_rfl) (by kernel_rfl) (fun _ _ _ h => h) (Or.inl ⟨by rfl, fun w' h' => by unfold execOp; go_simp⟩) hHeld ?_
  simp only [Act.put, List.setIfInBounds_toArray, List.set_cons_zero, List.set_cons_succ]
  refine wpAnyH_take (i := 4) (oi := ⟨some 9, .load 4 (.tmp 8), 4, "bounds.go:62", #[⟨3, .data⟩, ⟨2, .guard⟩], some (2, true)⟩) (v := (.bool false)) rfl (by kernel_rfl) (by kernel_rfl) (by kernel_rfl) (fun _ _ _ h => h) (Or.inl ⟨by rfl, fun w' h' => by have c0 := h'.2.2.c4; unfold execOp; go_simp⟩) hHeld ?_
  simp only [Act.put, List.setIfInBounds_toArray, List.set_cons_zero, List.set_cons_succ]
  refine wpAnyH_take (i := 5) (oi := ⟨some 10, .move (.tmp 9), 4, "bounds.go:62", #[⟨4, .data⟩, ⟨2, .chain⟩, ⟨2, .guard⟩], some (2, true)⟩) (v := (.bool false)) rfl (by kernel_rfl) (by kernel_rfl) (by kernel_rfl) (fun _ _ _ h => h) (Or.inl ⟨by rfl, fun _ _ => by rfl⟩) hHeld ?_
  simp only [Act.put, List.setIfInBounds_toArray, List.set_cons_zero, List.set_cons_succ]
  refine wpAnyH_take (i := 6) (oi := ⟨some 11, .fieldAddr 25 (.tmp 3) 0, 0, "bounds.go:62", #[⟨5, .guard⟩], some (5, false)⟩) (v := (.pointer (some ⟨w.heap.size + 1, 0, none⟩))) rfl (by kernel_rfl) (by kernel_rfl) (by kernel_rfl) (fun _ _ _ h => h) (Or.inl ⟨by rfl, fun w' h' => by unfold execOp; go_simp⟩) hHeld ?_
  simp only [Act.put, List.setIfInBounds_toArray, List.set_cons_zero, List.set_cons_succ]
  refine wpAnyH_take (i := 7) (oi := ⟨some 12, .load 3 (.tmp 11), 3, "bounds.go:62", #[⟨6, .data⟩, ⟨5, .guard⟩], some (5, false)⟩) (v := (.int .i64 0)) rfl (by kernel_rfl) (by kernel_rfl) (by kernel_rfl) (fun _ _ _ h => h) (Or.inl ⟨by rfl, fun w' h' => by have c0 := h'.2.2.c0; unfold execOp; go_simp⟩) hHeld ?_
  simp only [Act.put, List.setIfInBounds_toArray, List.set_cons_zero, List.set_cons_succ]
  refine wpAnyH_take (i := 8) (oi := ⟨some 13, .binOp .eql 3 (.tmp 12) (.const (.int .i64 0)) 3, 4, "bounds.go:62", #[⟨7, .data⟩, ⟨5, .guard⟩], some (5, false)⟩) (v := (.bool true)) rfl (by kernel_rfl) (by kernel_rfl) (by kernel_rfl) (fun _ _ _ h => h) (Or.inl ⟨by rfl, fun w' h' => by unfold execOp; go_simp⟩) hHeld ?_
  simp only [Act.put, List.setIfInBounds_toArray, List.set_cons_zero, List.set_cons_succ]
  refine wpAnyH_take (i := 9) (oi := ⟨some 14, .move (.tmp 13), 4, "bounds.go:62", #[⟨8, .data⟩, ⟨5, .chain⟩, ⟨5, .guard⟩], some (5, false)⟩) (v := (.bool true)) rfl (by kernel_rfl) (by kernel_rfl) (by kernel_rfl) (fun _ _ _ h => h) (Or.inl ⟨by rfl, fun _ _ => by rfl⟩) hHeld ?_
  simp only [Act.put, List.setIfInBounds_toArray, List.set_cons_zero, List.set_cons_succ]
  refine wpAnyH_take (i := 10) (oi := ⟨some 15, .fieldAddr 25 (.tmp 3) 1, 0, "bounds.go:62", #[⟨9, .guard⟩], some (9, true)⟩) (v := (.pointer (some ⟨w.heap.size + 1, 1, none⟩))) rfl (by kernel_rfl) (by kernel_rfl) (by kernel_rfl) (fun _ _ _ h => h) (Or.inl ⟨by rfl, fun w' h' => by unfold execOp; go_simp⟩) hHeld ?_
  simp only [Act.put, List.setIfInBounds_toArray, List.set_cons_zero, List.set_cons_succ]
  refine wpAnyH_take (i := 11) (oi := ⟨some 16, .load 3 (.tmp 15), 3, "bounds.go:62", #[⟨10, .data⟩, ⟨9, .guard⟩], some (9, true)⟩) (v := (.int .i64 0)) rfl (by kernel_rfl) (by kernel_rfl) (by kernel_rfl) (fun _ _ _ h => h) (Or.inl ⟨by rfl, fun w' h' => by have c0 := h'.2.2.c1; unfold execOp; go_simp⟩) hHeld ?_
  simp only [Act.put, List.setIfInBounds_toArray, List.set_cons_zero, List.set_cons_succ]
  refine wpAnyH_take (i := 12) (oi := ⟨some 17, .binOp .eql 3 (.tmp 16) (.const (.int .i64 0)) 3, 4, "bounds.go:62", #[⟨11, .data⟩, ⟨9, .guard⟩], some (9, true)⟩) (v := (.bool true)) rfl (by kernel_rfl) (by kernel_rfl) (by kernel_rfl) (fun _ _ _ h => h) (Or.inl ⟨by rfl, fun w' h' => by unfold execOp; go_simp⟩) hHeld ?_
  simp only [Act.put, List.setIfInBounds_toArray, List.set_cons_zero, List.set_cons_succ]
  refine wpAnyH_take (i := 13) (oi := ⟨some 18, .pick (.tmp 14) (.tmp 17) (.const (.bool false)), 4, "bounds.go:62", #[⟨9, .data⟩, ⟨12, .data⟩, ⟨5, .guard⟩], some (5, false)⟩) (v := (.bool true)) rfl (by kernel_rfl) (by kernel_rfl) (by kernel_rfl) (fun _ _ _ h => h) (Or.inl ⟨by rfl, fun w' h' => by unfold execOp; go_simp⟩) hHeld ?_
  simp only [Act.put, List.setIfInBounds_toArray, List.set_cons_zero, List.set_cons_succ]
  refine wpAnyH_take (i := 14) (oi := ⟨some 19, .pick (.tmp 10) (.const (.bool true)) (.tmp 18), 4, "bounds.go:62", #[⟨5, .data⟩, ⟨13, .data⟩, ⟨2, .guard⟩], some (2, true)⟩) (v := (.bool true)) rfl (by kernel_rfl) (by kernel_rfl) (by kernel_rfl) (fun _ _ _ h => h) (Or.inl ⟨by rfl, fun w' h' => by unfold execOp; go_simp⟩) hHeld ?_
  simp only [Act.put, List.setIfInBounds_toArray, List.set_cons_zero, List.set_cons_succ]
  refine wpAnyH_take (i := 15) (oi := ⟨some 20, .pick (.tmp 7) (.tmp 19) (.const (.bool false)), 4, "bounds.go:62", #[⟨2, .data⟩, ⟨14, .data⟩], none⟩) (v := (.bool true)) rfl (by kernel_rfl) (by kernel_rfl) (by kernel_rfl) (fun _ _ _ h => h) (Or.inl ⟨by rfl, fun w' h' => by unfold execOp; go_simp⟩) hHeld ?_
  simp only [Act.put, List.setIfInBounds_toArray, List.set_cons_zero, List.set_cons_succ]
  refine wpAnyH_take (i := 16) (oi := ⟨some 21, .move (.tmp 20), 4, "bounds.go:62", #[⟨15, .data⟩, ⟨9, .chain⟩], none⟩) (v := (.bool true)) rfl (by kernel_rfl) (by kernel_rfl) (by kernel_rfl) (fun _ _ _ h => h) (Or.inl ⟨by rfl, fun _ _ => by rfl⟩) hHeld ?_
  simp only [Act.put, List.setIfInBounds_toArray, List.set_cons_zero, List.set_cons_succ]
  refine wpAnyH_take (i := 17) (oi := ⟨some 22, .indexAddr 46 (.global 0) (.const (.int .i64 0)), 0, "bounds.go:62", #[⟨16, .guard⟩], some (16, true)⟩) (v := (.pointer (some ⟨0, 0, none⟩))) rfl (by kernel_rfl) (by kernel_rfl) (by kernel_rfl) (fun _ _ _ h => h) (Or.inl ⟨by rfl, fun w' h' => by unfold execOp; go_simp⟩) hHeld ?_
  simp only [Act.put, List.setIfInBounds_toArray, List.set_cons_zero, List.set_cons_succ]
  refine wpAnyH_take (i := 18) (oi := ⟨some 23, .load 41 (.tmp 22), 41, "bounds.go:62", #[⟨17, .data⟩, ⟨16, .guard⟩], some (16, true)⟩) (v := (rwV 0 16777216)) rfl (by kernel_rfl) (by kernel_rfl) (by kernel_rfl) (fun _ _ _ h => h) (Or.inl ⟨by rfl, fun w' h' => by have c0 := h'.1.c0; have c1 := h'.1.c1; unfold execOp; go_simp⟩) hHeld ?_
  simp only [Act.put, List.setIfInBounds_toArray, List.set_cons_zero, List.set_cons_succ]
  refine wpAnyH_take (i := 19) (oi := ⟨some 24, .makeFunc (Fn.func 26) #[.tmp 23] #[], 48, "bounds.go:62", #[⟨18, .data⟩, ⟨16, .guard⟩], some (16, true)⟩) (v := (fnV 0 16777216)) rfl (by kernel_rfl) (by kernel_rfl) (by kernel_rfl) (fun _ _ _ h => h) (Or.inl ⟨by rfl, fun w' h' => by unfold execOp; go_simp⟩) hHeld ?_
  simp only [Act.put, List.setIfInBounds_toArray, List.set_cons_zero, List.set_cons_succ]
  refine wpAnyH_take (i := 20) (oi := ⟨some 25, .fieldAddr 25 (.tmp 3) 0, 0, "bounds.go:62", #[⟨16, .guard⟩], some (16, true)⟩) (v := (.pointer (some ⟨w.heap.size + 1, 0, none⟩))) rfl (by kernel_rfl) (by kernel_rfl) (by kernel_rfl) (fun _ _ _ h => h) (Or.inl ⟨by rfl, fun w' h' => by unfold execOp; go_simp⟩) hHeld ?_
  simp only [Act.put, List.setIfInBounds_toArray, List.set_cons_zero, List.set_cons_succ]
  refine wpAnyH_take (i := 21) (oi := ⟨some 26, .load 3 (.tmp 25), 3, "bounds.go:62", #[⟨20, .data⟩, ⟨16, .guard⟩], some (16, true)⟩) (v := (.int .i64 0)) rfl (by kernel_rfl) (by kernel_rfl) (by kernel_rfl) (fun _ _ _ h => h) (Or.inl ⟨by rfl, fun w' h' => by have c0 := h'.2.2.c0; unfold execOp; go_simp⟩) hHeld ?_
  simp only [Act.put, List.setIfInBounds_toArray, List.set_cons_zero, List.set_cons_succ]
  refine wpAnyH_take (i := 22) (oi := ⟨some 27, .build 50 #[(0, .tmp 24), (1, .tmp 26)], 50, "bounds.go:62", #[⟨19, .data⟩, ⟨21, .data⟩, ⟨16, .guard⟩], some (16, true)⟩) (v := (.agg #[fnV 0 16777216, .int .i64 0])) rfl (by kernel_rfl) (by kernel_rfl) (by kernel_rfl) (fun _ _ _ h => h) (Or.inl ⟨by rfl, fun w' h' => by unfold execOp; go_simp⟩) hHeld ?_
  simp only [Act.put, List.setIfInBounds_toArray, List.set_cons_zero, List.set_cons_succ]
  refine wpAnyH_take (i := 23) (oi := ⟨some 28, .indexAddr 46 (.global 0) (.const (.int .i64 1)), 0, "bounds.go:62", #[⟨16, .guard⟩], some (16, true)⟩) (v := (.pointer (some ⟨0, 2, none⟩))) rfl (by kernel_rfl) (by kernel_rfl) (by kernel_rfl) (fun _ _ _ h => h) (Or.inl ⟨by rfl, fun w' h' => by unfold execOp; go_simp⟩) hHeld ?_
  simp only [Act.put, List.setIfInBounds_toArray, List.set_cons_zero, List.set_cons_succ]
  refine wpAnyH_take (i := 24) (oi := ⟨some 29, .load 41 (.tmp 28), 41, "bounds.go:62", #[⟨23, .data⟩, ⟨16, .guard⟩], some (16, true)⟩) (v := (rwV 0 16777216)) rfl (by kernel_rfl) (by kernel_rfl) (by kernel_rfl) (fun _ _ _ h => h) (Or.inl ⟨by rfl, fun w' h' => by have c0 := h'.1.c2; have c1 := h'.1.c3; unfold execOp; go_simp⟩) hHeld ?_
  simp only [Act.put, List.setIfInBounds_toArray, List.set_cons_zero, List.set_cons_succ]
  refine wpAnyH_take (i := 25) (oi := ⟨some 30, .makeFunc (Fn.func 26) #[.tmp 29] #[], 48, "bounds.go:62", #[⟨24, .data⟩, ⟨16, .guard⟩], some (16, true)⟩) (v := (fnV 0 16777216)) rfl (by kernel_rfl) (by kernel_rfl) (by kernel_rfl) (fun _ _ _ h => h) (Or.inl ⟨by rfl, fun w' h' => by unfold execOp; go_simp⟩) hHeld ?_
  simp only [Act.put, List.setIfInBounds_toArray, List.set_cons_zero, List.set_cons_succ]
  refine wpAnyH_take (i := 26) (oi := ⟨some 31, .fieldAddr 25 (.tmp 3) 1, 0, "bounds.go:62", #[⟨16, .guard⟩], some (16, true)⟩) (v := (.pointer (some ⟨w.heap.size + 1, 1, none⟩))) rfl (by kernel_rfl) (by kernel_rfl) (by kernel_rfl) (fun _ _ _ h => h) (Or.inl ⟨by rfl, fun w' h' => by unfold execOp; go_simp⟩) hHeld ?_
  simp only [Act.put, List.setIfInBounds_toArray, List.set_cons_zero, List.set_cons_succ]
  refine wpAnyH_take (i := 27) (oi := ⟨some 32, .load 3 (.tmp 31), 3, "bounds.go:62", #[⟨26, .data⟩, ⟨16, .guard⟩], some (16, true)⟩) (v := (.int .i64 0)) rfl (by kernel_rfl) (by kernel_rfl) (by kernel_rfl) (fun _ _ _ h => h) (Or.inl ⟨by rfl, fun w' h' => by have c0 := h'.2.2.c1; unfold execOp; go_simp⟩) hHeld ?_
  simp only [Act.put, List.setIfInBounds_toArray, List.set_cons_zero, List.set_cons_succ]
  refine wpAnyH_take (i := 28) (oi := ⟨some 33, .build 50 #[(0, .tmp 30), (1, .tmp 32)], 50, "bounds.go:62", #[⟨25, .data⟩, ⟨27, .data⟩, ⟨16, .guard⟩], some (16, true)⟩) (v := (.agg #[fnV 0 16777216, .int .i64 0])) rfl (by kernel_rfl) (by kernel_rfl) (by kernel_rfl) (fun _ _ _ h => h) (Or.inl ⟨by rfl, fun w' h' => by unfold execOp; go_simp⟩) hHeld ?_
  simp only [Act.put, List.setIfInBounds_toArray, List.set_cons_zero, List.set_cons_succ]
  refine wpAnyH_take (i := 29) (oi := ⟨some 34, .load 23 (.tmp 2), 23, "bounds.go:62", #[⟨16, .guard⟩], some (16, true)⟩) (v := (paV p)) rfl (by kernel_rfl) (by kernel_rfl) (by kernel_rfl) (fun _ _ _ h => h) (Or.inl ⟨by rfl, fun w' h' => by have c0 := h'.2.1.c0; have c1 := h'.2.1.c1; have c2 := h'.2.1.c2; unfold execOp; go_simp⟩) hHeld ?_
  simp only [Act.put, List.setIfInBounds_toArray, List.set_cons_zero, List.set_cons_succ]
  refine wpAnyH_take (i := 32) (oi := ⟨some 37, .fieldAddr 25 (.tmp 3) 2, 0, "bounds.go:62", #[⟨16, .guard⟩], some (16, true)⟩) (v := (.pointer (some ⟨w.heap.size + 1, 2, none⟩))) rfl (by kernel_rfl) (by kernel_rfl) (by kernel_rfl) (fun _ _ _ h => h) (Or.inl ⟨by rfl, fun w' h' => by unfold execOp; go_simp⟩) hHeld ?_
  simp only [Act.put, List.setIfInBounds_toArray, List.set_cons_zero, List.set_cons_succ]
  refine wpAnyH_take (i := 33) (oi := ⟨some 38, .load 3 (.tmp 37), 3, "bounds.go:62", #[⟨32, .data⟩, ⟨16, .guard⟩], some (16, true)⟩) (v := (.int .i64 er)) rfl (by kernel_rfl) (by kernel_rfl) (by kernel_rfl) (fun _ _ _ h => h) (Or.inl ⟨by rfl, fun w' h' => by have c0 := h'.2.2.c2; unfold execOp; go_simp⟩) hHeld ?_
  simp only [Act.put, List.setIfInBounds_toArray, List.set_cons_zero, List.set_cons_succ]
  refine wpAnyH_take (i := 35) (oi := ⟨some 40, .indexAddr 46 (.global 0) (.const (.int .i64 3)), 0, "bounds.go:62", #[⟨16, .guard⟩], some (16, true)⟩) (v := (.pointer (some ⟨0, 6, none⟩))) rfl (by kernel_rfl) (by kernel_rfl) (by kernel_rfl) (fun _ _ _ h => h) (Or.inl ⟨by rfl, fun w' h' => by unfold execOp; go_simp⟩) hHeld ?_
  simp only [Act.put, List.setIfInBounds_toArray, List.set_cons_zero, List.set_cons_succ]
  refine wpAnyH_take (i := 36) (oi := ⟨some 41, .load 41 (.tmp 40), 41, "bounds.go:62", #[⟨35, .data⟩, ⟨16, .guard⟩], some (16, true)⟩) (v := (rwV 0 20)) rfl (by kernel_rfl) (by kernel_rfl) (by kernel_rfl) (fun _ _ _ h => h) (Or.inl ⟨by rfl, fun w' h' => by have c0 := h'.1.c6; have c1 := h'.1.c7; unfold execOp; go_simp⟩) hHeld ?_
  simp only [Act.put, List.setIfInBounds_toArray, List.set_cons_zero, List.set_cons_succ]
  refine wpAnyH_take (i := 37) (oi := ⟨some 42, .makeFunc (Fn.func 26) #[.tmp 41] #[], 48, "bounds.go:62", #[⟨36, .data⟩, ⟨16, .guard⟩], some (16, true)⟩) (v := (fnV 0 20)) rfl (by kernel_rfl) (by kernel_rfl) (by kernel_rfl) (fun _ _ _ h => h) (Or.inl ⟨by rfl, fun w' h' => by unfold execOp; go_simp⟩) hHeld ?_
  simp only [Act.put, List.setIfInBounds_toArray, List.set_cons_zero, List.set_cons_succ]
  refine wpAnyH_take (i := 38) (oi := ⟨some 43, .fieldAddr 25 (.tmp 3) 3, 0, "bounds.go:62", #[⟨16, .guard⟩], some (16, true)⟩) (v := (.pointer (some ⟨w.heap.size + 1, 3, none⟩))) rfl (by kernel_rfl) (by kernel_rfl) (by kernel_rfl) (fun _ _ _ h => h) (Or.inl ⟨by rfl, fun w' h' => by unfold execOp; go_simp⟩) hHeld ?_
  simp only [Act.put, List.setIfInBounds_toArray, List.set_cons_zero, List.set_cons_succ]
  refine wpAnyH_take (i := 39) (oi := ⟨some 44, .load 3 (.tmp 43), 3, "bounds.go:62", #[⟨38, .data⟩, ⟨16, .guard⟩], some (16, true)⟩) (v := (.int .i64 en)) rfl (by kernel_rfl) (by kernel_rfl) (by kernel_rfl) (fun _ _ _ h => h) (Or.inl ⟨by rfl, fun w' h' => by have c0 := h'.2.2.c3; unfold execOp; go_simp⟩) hHeld ?_
  simp only [Act.put, List.setIfInBounds_toArray, List.set_cons_zero, List.set_cons_succ]
  refine wpAnyH_take (i := 40) (oi := ⟨some 45, .build 50 #[(0, .tmp 42), (1, .tmp 44)], 50, "bounds.go:62", #[⟨37, .data⟩, ⟨39, .data⟩, ⟨16, .guard⟩], some (16, true)⟩) (v := (.agg #[fnV 0 20, .int .i64 en])) rfl (by kernel_rfl) (by kernel_rfl) (by kernel_rfl) (fun _ _ _ h => h) (Or.inl ⟨by rfl, fun w' h' => by unfold execOp; go_simp⟩) hHeld ?_
  simp only [Act.put, List.setIfInBounds_toArray, List.set_cons_zero, List.set_cons_succ]
  refine wpAnyH_ready (rs := [30]) (by kernel_rfl) (by simp) ?_
  refine AllReadyH.cons (o := ⟨some 35, .call ⟨.value (.func 18), #[.tmp 34], #[23]⟩, 41, "bounds.go:65", #[⟨29, .data⟩, ⟨16, .chain⟩, ⟨16, .guard⟩], some (16, true)⟩) rfl (fun KK hK => ?_) (AllReadyH.nil)
  go_simp
  refine (waits_any p _ hR1).mono ?_
  rintro e w2 ⟨rfl, hb2⟩
  have hR2 := hR1.later hb2 (Nat.le_refl _)
  have hp2 := hp1.later hb2 (by omega)
  have he2 := he1.later hb2 hs1
  have hb' := hb.trans (hb2.mono hb.size)
  have hs2 : w.heap.size + 1 < w2.heap.size := Nat.lt_of_lt_of_le hs1 hb2.size
  clear hR1 hp1 he1 hb hb2 hs1
  dsimp only
  refine hK.out _ _ ⟨hR2, hp2, he2⟩ (fun hHeld => ?_)
  clear hK KK
  try simp only [Act.put, List.setIfInBounds_toArray, List.set_cons_zero, List.set_cons_succ]
  refine wpAnyH_take (i := 31) (oi := ⟨some 36, .makeFunc (Fn.func 26) #[.tmp 35] #[], 48, "bounds.go:62", #[⟨30, .data⟩, ⟨16, .guard⟩], some (16, true)⟩) (v := (fnV (max 1 p.mi) (min 1048576 p.ma))) rfl (by kernel_rfl) (by kernel_rfl) (by kernel_rfl) (fun _ _ _ h => h) (Or.inl ⟨by rfl, fun w' h' => by unfold execOp; go_simp⟩) hHeld ?_
  simp only [Act.put, List.setIfInBounds_toArray, List.set_cons_zero, List.set_cons_succ]
  refine wpAnyH_take (i := 34) (oi := ⟨some 39, .build 50 #[(0, .tmp 36), (1, .tmp 38)], 50, "bounds.go:62", #[⟨31, .data⟩, ⟨33, .data⟩, ⟨16, .guard⟩], some (16, true)⟩) (v := (.agg #[fnV (max 1 p.mi) (min 1048576 p.ma), .int .i64 er])) rfl (by kernel_rfl) (by kernel_rfl) (by kernel_rfl) (fun _ _ _ h => h) (Or.inl ⟨by rfl, fun w' h' => by unfold execOp; go_simp⟩) hHeld ?_
  simp only [Act.put, List.setIfInBounds_toArray, List.set_cons_zero, List.set_cons_succ]
  refine wpAnyH_ready (rs := [41]) (by kernel_rfl) (by simp) ?_
  refine AllReadyH.cons (o := ⟨some 46, .buildSlice 52 4 #[(0, .tmp 27), (1, .tmp 33), (2, .tmp 39), (3, .tmp 45)], 52, "bounds.go:62", #[⟨22, .data⟩, ⟨28, .data⟩, ⟨34, .data⟩, ⟨40, .data⟩, ⟨16, .guard⟩], some (16, true)⟩) rfl (fun KK hK => ?_) (AllReadyH.nil)
  go_simp
  have hn := newBox w2 (Obj.cells #[fnV 0 16777216, .int .i64 0, fnV 0 16777216, .int .i64 0, fnV (max 1 p.mi) (min 1048576 p.ma), .int .i64 er, fnV 0 20, .int .i64 en] 50)
  have hRn := hR2.later hn (Nat.le_refl _)
  have hpn := hp2.later hn (by omega)
  have hen := he2.later hn hs2
  refine hK.out _ _ ⟨hRn, hpn, hen⟩ (fun hHeld => ?_)
  clear hK KK
  try simp only [Act.put, List.setIfInBounds_toArray, List.set_cons_zero, List.set_cons_succ]
  refine wpAnyH_ready (rs := [42]) (by kernel_rfl) (by simp) ?_
  refine AllReadyH.cons (o := ⟨some 47, .call ⟨.value (.func 25), #[.tmp 46], #[52]⟩, 4, "bounds.go:62", #[⟨41, .data⟩, ⟨30, .chain⟩, ⟨16, .guard⟩], some (16, true)⟩) rfl (fun KK hK => ?_) (AllReadyH.nil)
  go_simp
  have hC := Chk.of4 (heap_alloc_last w2 (Obj.cells #[fnV 0 16777216, .int .i64 0, fnV 0 16777216, .int .i64 0, fnV (max 1 p.mi) (min 1048576 p.ma), .int .i64 er, fnV 0 20, .int .i64 en] 50))
  refine (allPass_any w2.heap.size [(0, 16777216, 0), (0, 16777216, 0), (max 1 p.mi, min 1048576 p.ma, er), (0, 20, en)] _ (by simp) (by simp) hC).mono ?_
  rintro e w3 ⟨he, hb3⟩
  rw [show [(0, 16777216, 0), (0, 16777216, 0), (max 1 p.mi, min 1048576 p.ma, er), (0, 20, en)].all pas = decide (May p ⟨0, 0, er, en, false⟩) from pass4 (e := ⟨0, 0, er, en, false⟩) hok (Or.inr ⟨rfl, rfl⟩)] at he
  subst he
  have hq := hn.trans (hb3.mono hn.size)
  have hR3 := hR2.later hq (Nat.le_refl _)
  have hp3 := hp2.later hq (by omega)
  have he3 := he2.later hq hs2
  have hb'' := hb'.trans (hq.mono hb'.size)
  clear hb' hq hC hn hRn hpn hen hR2 hp2 he2 hb3 hs2
  dsimp only
  refine hK.out _ _ ⟨hR3, hp3, he3⟩ (fun hHeld => ?_)
  clear hK KK
  try simp only [Act.put, List.setIfInBounds_toArray, List.set_cons_zero, List.set_cons_succ]
  refine wpAnyH_take (i := 43) (oi := ⟨some 48, .pick (.tmp 21) (.tmp 47) (.const (.bool false)), 4, "bounds.go:62", #[⟨16, .data⟩, ⟨42, .data⟩], none⟩) (v := (.bool (decide (May p ⟨0, 0, er, en, false⟩)))) rfl (by kernel_rfl) (by kernel_rfl) (by kernel_rfl) (fun _ _ _ h => h) (Or.inl ⟨by rfl, fun w' h' => by unfold execOp; go_simp⟩) hHeld ?_
  simp only [Act.put, List.setIfInBounds_toArray, List.set_cons_zero, List.set_cons_succ]
  refine wpAnyH_take (i := 44) (oi := ⟨some 4, .assign (.tmp 48), 4, "bounds.go:62", #[⟨43, .data⟩, ⟨42, .chain⟩, ⟨0, .phase⟩, ⟨1, .phase⟩, ⟨2, .phase⟩, ⟨3, .phase⟩, ⟨4, .phase⟩, ⟨5, .phase⟩, ⟨6, .phase⟩, ⟨7, .phase⟩, ⟨8, .phase⟩, ⟨9, .phase⟩, ⟨10, .phase⟩, ⟨11, .phase⟩, ⟨12, .phase⟩, ⟨13, .phase⟩, ⟨14, .phase⟩, ⟨15, .phase⟩, ⟨16, .phase⟩, ⟨17, .phase⟩, ⟨18, .phase⟩, ⟨19, .phase⟩, ⟨20, .phase⟩, ⟨21, .phase⟩, ⟨22, .phase⟩, ⟨23, .phase⟩, ⟨24, .phase⟩, ⟨25, .phase⟩, ⟨26, .phase⟩, ⟨27, .phase⟩, ⟨28, .phase⟩, ⟨29, .phase⟩, ⟨30, .phase⟩, ⟨31, .phase⟩, ⟨32, .phase⟩, ⟨33, .phase⟩, ⟨34, .phase⟩, ⟨35, .phase⟩, ⟨36, .phase⟩, ⟨37, .phase⟩, ⟨38, .phase⟩, ⟨39, .phase⟩, ⟨40, .phase⟩, ⟨41, .phase⟩, ⟨42, .phase⟩, ⟨43, .phase⟩], none⟩) (v := (.bool (decide (May p ⟨0, 0, er, en, false⟩)))) rfl (by kernel_rfl) (by kernel_rfl) (by kernel_rfl) (fun _ _ _ h => h) (Or.inl ⟨by rfl, fun _ _ => by rfl⟩) hHeld ?_
  simp only [Act.put, List.setIfInBounds_toArray, List.set_cons_zero, List.set_cons_succ]
  refine wpAnyH_done (by kernel_rfl) ?_ _
  go_wp2
  go_ret
  exact ⟨rfl, hb''⟩

set_option maxHeartbeats 2000000 in
theorem mayBe_D (p : Par) (es ev er en : Int) (_ek : Bool) (w : World) (hR : Rws w) (hok : Ok p) (h0 : ¬ es = 0) :
    Calls Tryd.prog 17 #[paV p, esV ⟨es, ev, er, en, false⟩] w fun e w' => e = .returned (.bool (decide (May p ⟨es, ev, er, en, false⟩))) ∧ Below w.heap.size w w' := by
  have hb0 := newBox2 w (.cells #[.int .i64 p.mi, .int .i64 p.fi, .int .i64 p.ma] 23) (.cells #[.int .i64 es, .int .i64 ev, .int .i64 er, .int .i64 en, .bool false] 25)
  have hp := PBox.of (heap_new1 w (.cells #[.int .i64 p.mi, .int .i64 p.fi, .int .i64 p.ma] 23) (.cells #[.int .i64 es, .int .i64 ev, .int .i64 er, .int .i64 en, .bool false] 25))
  have he := EBox.of (e := ⟨es, ev, er, en, false⟩) (heap_new2 w (.cells #[.int .i64 p.mi, .int .i64 p.fi, .int .i64 p.ma] 23) (.cells #[.int .i64 es, .int .i64 ev, .int .i64 er, .int .i64 en, .bool false] 25))
  have hs : w.heap.size + 1 < ((w.alloc (.cells #[.int .i64 p.mi, .int .i64 p.fi, .int .i64 p.ma] 23)).alloc (.cells #[.int .i64 es, .int .i64 ev, .int .i64 er, .int .i64 en, .bool false] 25)).heap.size := by simp
  have hR0 := hR.later hb0 (Nat.le_refl _)
  have hno : ¬ May p ⟨es, ev, er, en, false⟩ := fun h => h.2.2.2.2.2.2.2.2.2.elim (fun h => by cases h) (fun h => h0 h.1)
  go_enter Tryd.func17, Tryd.ntmps17
  go_wp2_with fail
  generalize (w.alloc (.cells #[.int .i64 p.mi, .int .i64 p.fi, .int .i64 p.ma] 23)).alloc (.cells #[.int .i64 es, .int .i64 ev, .int .i64 er, .int .i64 en, .bool false] 25) = w0 at *
  have hd0 : Below w0.heap.size w0 w0.drew := (Below.refl w0.heap.size w0).drew
  have hRd : Rws w0.drew := hR0.later hd0 (Nat.le_refl _)
  have hpd : PBox w0.drew w.heap.size p := hp.later hd0 (by omega)
  have hed : EBox w0.drew (w.heap.size + 1) ⟨es, ev, er, en, false⟩ := he.later hd0 hs
  have hbd : Below w.heap.size w w0.drew := hb0.drew
  have hsd : w.heap.size + 1 < w0.drew.heap.size := hs
  clear hp he hR0 hd0 hb0 hs hR
  refine wp_region_held_drew (S := fun w' => Rws w' ∧ PBox w' w.heap.size p ∧ EBox w' (w.heap.size + 1) ⟨es, ev, er, en, false⟩) (by kernel_rfl) ⟨hRd, hpd, hed⟩ (fun hHeld => ?_)
  refine wpAnyH_take (i := 0) (oi := ⟨some 5, .load 23 (.tmp 2), 23, "bounds.go:62", #[], none⟩) (v := (paV p)) rfl (by kernel_rfl) (by kernel_rfl) (by kernel_rfl) (fun _ _ _ h => h) (Or.inl ⟨by rfl, fun w' h' => by have c0 := h'.2.1.c0; have c1 := h'.2.1.c1; have c2 := h'.2.1.c2; unfold execOp; go_simp⟩) hHeld ?_
  simp only [Act.put, List.setIfInBounds_toArray, List.set_cons_zero, List.set_cons_succ]
  refine wpAnyH_ready (rs := [1]) (by kernel_rfl) (by simp) ?_
  refine AllReadyH.cons (o := ⟨some 6, .call ⟨.value (.func 22), #[.tmp 5], #[23]⟩, 4, "bounds.go:62", #[⟨0, .data⟩], none⟩) rfl (fun KK hK => ?_) (AllReadyH.nil)
  go_simp
  refine (paramsMayBe_any p _ hRd).mono ?_
  rintro e w1 ⟨rfl, hb1⟩
  rw [decide_eq_true hok]
  have hR1 := hRd.later hb1 (Nat.le_refl _)
  have hp1 := hpd.later hb1 (by omega)
  have he1 := hed.later hb1 hsd
  have hb := hbd.trans (hb1.mono hbd.size)
  have hs1 : w.heap.size + 1 < w1.heap.size := Nat.lt_of_lt_of_le hsd hb1.size
  clear hRd hpd hed hbd hb1 hsd
  dsimp only
  refine hK.out _ _ ⟨hR1, hp1, he1⟩ (fun hHeld => ?_)
  clear hK KK
  try simp only [Act.put, List.setIfInBounds_toArray, List.set_cons_zero, List.set_cons_succ]
  refine wpAnyH_take (i := 2) (oi := ⟨some 7, .move (.tmp 6), 4, "bounds.go:62", #[⟨1, .data⟩, ⟨1, .chain⟩], none⟩) (v := (.bool true)) rfl (by kernel_rfl) (by kernel_rfl) (by kernel_rfl) (fun _ _ _ h => h) (Or.inl ⟨by rfl, fun _ _ => by rfl⟩) hHeld ?_
  simp only [Act.put, List.setIfInBounds_toArray, List.set_cons_zero, List.set_cons_succ]
  refine wpAnyH_take (i := 3) (oi := ⟨some 8, .fieldAddr 25 (.tmp 3) 4, 0, "bounds.go:62", #[⟨2, .guard⟩], some (2, true)⟩) (v := (.pointer (some ⟨w.heap.size + 1, 4, none⟩))) rfl (by kernel_rfl) (by kernel_rfl) (by kernel_rfl) (fun _ _ _ h => h) (Or.inl ⟨by rfl, fun w' h' => by unfold execOp; go_simp⟩) hHeld ?_
  simp only [Act.put, List.setIfInBounds_toArray, List.set_cons_zero, List.set_cons_succ]
  refine wpAnyH_take (i := 4) (oi := ⟨some 9, .load 4 (.tmp 8), 4, "bounds.go:62", #[⟨3, .data⟩, ⟨2, .guard⟩], some (2, true)⟩) (v := (.bool false)) rfl (by kernel_rfl) (by kernel_rfl) (by kernel_rfl) (fun _ _ _ h => h) (Or.inl ⟨by rfl, fun w' h' => by have c0 := h'.2.2.c4; unfold execOp; go_simp⟩) hHeld ?_
  simp only [Act.put, List.setIfInBounds_toArray, List.set_cons_zero, List.set_cons_succ]
  refine wpAnyH_take (i := 5) (oi := ⟨some 10, .move (.tmp 9), 4, "bounds.go:62", #[⟨4, .data⟩, ⟨2, .chain⟩, ⟨2, .guard⟩], some (2, true)⟩) (v := (.bool false)) rfl (by kernel_rfl) (by kernel_rfl) (by kernel_rfl) (fun _ _ _ h => h) (Or.inl ⟨by rfl, fun _ _ => by rfl⟩) hHeld ?_
  simp only [Act.put, List.setIfInBounds_toArray, List.set_cons_zero, List.set_cons_succ]
  refine wpAnyH_take (i := 6) (oi := ⟨some 11, .fieldAddr 25 (.tmp 3) 0, 0, "bounds.go:62", #[⟨5, .guard⟩], some (5, false)⟩) (v := (.pointer (some ⟨w.heap.size + 1, 0, none⟩))) rfl (by kernel_rfl) (by kernel_rfl) (by kernel_rfl) (fun _ _ _ h => h) (Or.inl ⟨by rfl, fun w' h' => by unfold execOp; go_simp⟩) hHeld ?_
  simp only [Act.put, List.setIfInBounds_toArray, List.set_cons_zero, List.set_cons_succ]
  refine wpAnyH_take (i := 7) (oi := ⟨some 12, .load 3 (.tmp 11), 3, "bounds.go:62", #[⟨6, .data⟩, ⟨5, .guard⟩], some (5, false)⟩) (v := (.int .i64 es)) rfl (by kernel_rfl) (by kernel_rfl) (by kernel_rfl) (fun _ _ _ h => h) (Or.inl ⟨by rfl, fun w' h' => by have c0 := h'.2.2.c0; unfold execOp; go_simp⟩) hHeld ?_
  simp only [Act.put, List.setIfInBounds_toArray, List.set_cons_zero, List.set_cons_succ]
  refine wpAnyH_take (i := 8) (oi := ⟨some 13, .binOp .eql 3 (.tmp 12) (.const (.int .i64 0)) 3, 4, "bounds.go:62", #[⟨7, .data⟩, ⟨5, .guard⟩], some (5, false)⟩) (v := (.bool false)) rfl (by kernel_rfl) (by kernel_rfl) (by kernel_rfl) (fun _ _ _ h => h) (Or.inl ⟨by rfl, fun w' h' => by unfold execOp; go_simp⟩) hHeld ?_
  simp only [Act.put, List.setIfInBounds_toArray, List.set_cons_zero, List.set_cons_succ]
  refine wpAnyH_take (i := 9) (oi := ⟨some 14, .move (.tmp 13), 4, "bounds.go:62", #[⟨8, .data⟩, ⟨5, .chain⟩, ⟨5, .guard⟩], some (5, false)⟩) (v := (.bool false)) rfl (by kernel_rfl) (by kernel_rfl) (by kernel_rfl) (fun _ _ _ h => h) (Or.inl ⟨by rfl, fun _ _ => by rfl⟩) hHeld ?_
  simp only [Act.put, List.setIfInBounds_toArray, List.set_cons_zero, List.set_cons_succ]
  refine wpAnyH_take (i := 10) (oi := ⟨some 15, .fieldAddr 25 (.tmp 3) 1, 0, "bounds.go:62", #[⟨9, .guard⟩], some (9, true)⟩) (v := (undef)) rfl (by kernel_rfl) (by kernel_rfl) (by kernel_rfl) (fun _ _ _ h => h) (Or.inr ⟨by rfl, rfl⟩) hHeld ?_
  simp only [Act.put, List.setIfInBounds_toArray, List.set_cons_zero, List.set_cons_succ]
  refine wpAnyH_take (i := 11) (oi := ⟨some 16, .load 3 (.tmp 15), 3, "bounds.go:62", #[⟨10, .data⟩, ⟨9, .guard⟩], some (9, true)⟩) (v := (undef)) rfl (by kernel_rfl) (by kernel_rfl) (by kernel_rfl) (fun _ _ _ h => h) (Or.inr ⟨by rfl, rfl⟩) hHeld ?_
  simp only [Act.put, List.setIfInBounds_toArray, List.set_cons_zero, List.set_cons_succ]
  refine wpAnyH_take (i := 12) (oi := ⟨some 17, .binOp .eql 3 (.tmp 16) (.const (.int .i64 0)) 3, 4, "bounds.go:62", #[⟨11, .data⟩, ⟨9, .guard⟩], some (9, true)⟩) (v := (undef)) rfl (by kernel_rfl) (by kernel_rfl) (by kernel_rfl) (fun _ _ _ h => h) (Or.inr ⟨by rfl, rfl⟩) hHeld ?_
  simp only [Act.put, List.setIfInBounds_toArray, List.set_cons_zero, List.set_cons_succ]
  refine wpAnyH_take (i := 13) (oi := ⟨some 18, .pick (.tmp 14) (.tmp 17) (.const (.bool false)), 4, "bounds.go:62", #[⟨9, .data⟩, ⟨12, .data⟩, ⟨5, .guard⟩], some (5, false)⟩) (v := (.bool false)) rfl (by kernel_rfl) (by kernel_rfl) (by kernel_rfl) (fun _ _ _ h => h) (Or.inl ⟨by rfl, fun w' h' => by unfold execOp; go_simp⟩) hHeld ?_
  simp only [Act.put, List.setIfInBounds_toArray, List.set_cons_zero, List.set_cons_succ]
  refine wpAnyH_take (i := 14) (oi := ⟨some 19, .pick (.tmp 10) (.const (.bool true)) (.tmp 18), 4, "bounds.go:62", #[⟨5, .data⟩, ⟨13, .data⟩, ⟨2, .guard⟩], some (2, true)⟩) (v := (.bool false)) rfl (by kernel_rfl) (by kernel_rfl) (by kernel_rfl) (fun _ _ _ h => h) (Or.inl ⟨by rfl, fun w' h' => by unfold execOp; go_simp⟩) hHeld ?_
  simp only [Act.put, List.setIfInBounds_toArray, List.set_cons_zero, List.set_cons_succ]
  refine wpAnyH_take (i := 15) (oi := ⟨some 20, .pick (.tmp 7) (.tmp 19) (.const (.bool false)), 4, "bounds.go:62", #[⟨2, .data⟩, ⟨14, .data⟩], none⟩) (v := (.bool false)) rfl (by kernel_rfl) (by kernel_rfl) (by kernel_rfl) (fun _ _ _ h => h) (Or.inl ⟨by rfl, fun w' h' => by unfold execOp; go_simp⟩) hHeld ?_
  simp only [Act.put, List.setIfInBounds_toArray, List.set_cons_zero, List.set_cons_succ]
  refine wpAnyH_take (i := 16) (oi := ⟨some 21, .move (.tmp 20), 4, "bounds.go:62", #[⟨15, .data⟩, ⟨9, .chain⟩], none⟩) (v := (.bool false)) rfl (by kernel_rfl) (by kernel_rfl) (by kernel_rfl) (fun _ _ _ h => h) (Or.inl ⟨by rfl, fun _ _ => by rfl⟩) hHeld ?_
  simp only [Act.put, List.setIfInBounds_toArray, List.set_cons_zero, List.set_cons_succ]
  refine wpAnyH_take (i := 17) (oi := ⟨some 22, .indexAddr 46 (.global 0) (.const (.int .i64 0)), 0, "bounds.go:62", #[⟨16, .guard⟩], some (16, true)⟩) (v := (undef)) rfl (by kernel_rfl) (by kernel_rfl) (by kernel_rfl) (fun _ _ _ h => h) (Or.inr ⟨by rfl, rfl⟩) hHeld ?_
  simp only [Act.put, List.setIfInBounds_toArray, List.set_cons_zero, List.set_cons_succ]
  refine wpAnyH_take (i := 18) (oi := ⟨some 23, .load 41 (.tmp 22), 41, "bounds.go:62", #[⟨17, .data⟩, ⟨16, .guard⟩], some (16, true)⟩) (v := (undef)) rfl (by kernel_rfl) (by kernel_rfl) (by kernel_rfl) (fun _ _ _ h => h) (Or.inr ⟨by rfl, rfl⟩) hHeld ?_
  simp only [Act.put, List.setIfInBounds_toArray, List.set_cons_zero, List.set_cons_succ]
  refine wpAnyH_take (i := 19) (oi := ⟨some 24, .makeFunc (Fn.func 26) #[.tmp 23] #[], 48, "bounds.go:62", #[⟨18, .data⟩, ⟨16, .guard⟩], some (16, true)⟩) (v := (undef)) rfl (by kernel_rfl) (by kernel_rfl) (by kernel_rfl) (fun _ _ _ h => h) (Or.inr ⟨by rfl, rfl⟩) hHeld ?_
  simp only [Act.put, List.setIfInBounds_toArray, List.set_cons_zero, List.set_cons_succ]
  refine wpAnyH_take (i := 20) (oi := ⟨some 25, .fieldAddr 25 (.tmp 3) 0, 0, "bounds.go:62", #[⟨16, .guard⟩], some (16, true)⟩) (v := (undef)) rfl (by kernel_rfl) (by kernel_rfl) (by kernel_rfl) (fun _ _ _ h => h) (Or.inr ⟨by rfl, rfl⟩) hHeld ?_
  simp only [Act.put, List.setIfInBounds_toArray, List.set_cons_zero, List.set_cons_succ]
  refine wpAnyH_take (i := 21) (oi := ⟨some 26, .load 3 (.tmp 25), 3, "bounds.go:62", #[⟨20, .data⟩, ⟨16, .guard⟩], some (16, true)⟩) (v := (undef)) rfl (by kernel_rfl) (by kernel_rfl) (by kernel_rfl) (fun _ _ _ h => h) (Or.inr ⟨by rfl, rfl⟩) hHeld ?_
  simp only [Act.put, List.setIfInBounds_toArray, List.set_cons_zero, List.set_cons_succ]
  refine wpAnyH_take (i := 22) (oi := ⟨some 27, .build 50 #[(0, .tmp 24), (1, .tmp 26)], 50, "bounds.go:62", #[⟨19, .data⟩, ⟨21, .data⟩, ⟨16, .guard⟩], some (16, true)⟩) (v := (undef)) rfl (by kernel_rfl) (by kernel_rfl) (by kernel_rfl) (fun _ _ _ h => h) (Or.inr ⟨by rfl, rfl⟩) hHeld ?_
  simp only [Act.put, List.setIfInBounds_toArray, List.set_cons_zero, List.set_cons_succ]
  refine wpAnyH_take (i := 23) (oi := ⟨some 28, .indexAddr 46 (.global 0) (.const (.int .i64 1)), 0, "bounds.go:62", #[⟨16, .guard⟩], some (16, true)⟩) (v := (undef)) rfl (by kernel_rfl) (by kernel_rfl) (by kernel_rfl) (fun _ _ _ h => h) (Or.inr ⟨by rfl, rfl⟩) hHeld ?_
  simp only [Act.put, List.setIfInBounds_toArray, List.set_cons_zero, List.set_cons_succ]
  refine wpAnyH_take (i := 24) (oi := ⟨some 29, .load 41 (.tmp 28), 41, "bounds.go:62", #[⟨23, .data⟩, ⟨16, .guard⟩], some (16, true)⟩) (v := (undef)) rfl (by kernel_rfl) (by kernel_rfl) (by kernel_rfl) (fun _ _ _ h => h) (Or.inr ⟨by rfl, rfl⟩) hHeld ?_
  simp only [Act.put, List.setIfInBounds_toArray, List.set_cons_zero, List.set_cons_succ]
  refine wpAnyH_take (i := 25) (oi := ⟨some 30, .makeFunc (Fn.func 26) #[.tmp 29] #[], 48, "bounds.go:62", #[⟨24, .data⟩, ⟨16, .guard⟩], some (16, true)⟩) (v := (undef)) rfl (by kernel_rfl) (by kernel_rfl) (by kernel_rfl) (fun _ _ _ h => h) (Or.inr ⟨by rfl, rfl⟩) hHeld ?_
  simp only [Act.put, List.setIfInBounds_toArray, List.set_cons_zero, List.set_cons_succ]
  refine wpAnyH_take (i := 26) (oi := ⟨some 31, .fieldAddr 25 (.tmp 3) 1, 0, "bounds.go:62", #[⟨16, .guard⟩], some (16, true)⟩) (v := (undef)) rfl (by kernel_rfl) (by kernel_rfl) (by kernel_rfl) (fun _ _ _ h => h) (Or.inr ⟨by rfl, rfl⟩) hHeld ?_
  simp only [Act.put, List.setIfInBounds_toArray, List.set_cons_zero, List.set_cons_succ]
  refine wpAnyH_take (i := 27) (oi := ⟨some 32, .load 3 (.tmp 31), 3, "bounds.go:62", #[⟨26, .data⟩, ⟨16, .guard⟩], some (16, true)⟩) (v := (undef)) rfl (by kernel_rfl) (by kernel_rfl) (by kernel_rfl) (fun _ _ _ h => h) (Or.inr ⟨by rfl, rfl⟩) hHeld ?_
  simp only [Act.put, List.setIfInBounds_toArray, List.set_cons_zero, List.set_cons_succ]
  refine wpAnyH_take (i := 28) (oi := ⟨some 33, .build 50 #[(0, .tmp 30), (1, .tmp 32)], 50, "bounds.go:62", #[⟨25, .data⟩, ⟨27, .data⟩, ⟨16, .guard⟩], some (16, true)⟩) (v := (undef)) rfl (by kernel_rfl) (by kernel_rfl) (by kernel_rfl) (fun _ _ _ h => h) (Or.inr ⟨by rfl, rfl⟩) hHeld ?_
  simp only [Act.put, List.setIfInBounds_toArray, List.set_cons_zero, List.set_cons_succ]
  refine wpAnyH_take (i := 29) (oi := ⟨some 34, .load 23 (.tmp 2), 23, "bounds.go:62", #[⟨16, .guard⟩], some (16, true)⟩) (v := (undef)) rfl (by kernel_rfl) (by kernel_rfl) (by kernel_rfl) (fun _ _ _ h => h) (Or.inr ⟨by rfl, rfl⟩) hHeld ?_
  simp only [Act.put, List.setIfInBounds_toArray, List.set_cons_zero, List.set_cons_succ]
  refine wpAnyH_take (i := 30) (oi := ⟨some 35, .call ⟨.value (.func 18), #[.tmp 34], #[23]⟩, 41, "bounds.go:65", #[⟨29, .data⟩, ⟨16, .chain⟩, ⟨16, .guard⟩], some (16, true)⟩) (v := (undef)) rfl (by kernel_rfl) (by kernel_rfl) (by kernel_rfl) (fun _ _ _ h => h) (Or.inr ⟨by rfl, rfl⟩) hHeld ?_
  simp only [Act.put, List.setIfInBounds_toArray, List.set_cons_zero, List.set_cons_succ]
  refine wpAnyH_take (i := 31) (oi := ⟨some 36, .makeFunc (Fn.func 26) #[.tmp 35] #[], 48, "bounds.go:62", #[⟨30, .data⟩, ⟨16, .guard⟩], some (16, true)⟩) (v := (undef)) rfl (by kernel_rfl) (by kernel_rfl) (by kernel_rfl) (fun _ _ _ h => h) (Or.inr ⟨by rfl, rfl⟩) hHeld ?_
  simp only [Act.put, List.setIfInBounds_toArray, List.set_cons_zero, List.set_cons_succ]
  refine wpAnyH_take (i := 32) (oi := ⟨some 37, .fieldAddr 25 (.tmp 3) 2, 0, "bounds.go:62", #[⟨16, .guard⟩], some (16, true)⟩) (v := (undef)) rfl (by kernel_rfl) (by kernel_rfl) (by kernel_rfl) (fun _ _ _ h => h) (Or.inr ⟨by rfl, rfl⟩) hHeld ?_
  simp only [Act.put, List.setIfInBounds_toArray, List.set_cons_zero, List.set_cons_succ]
  refine wpAnyH_take (i := 33) (oi := ⟨some 38, .load 3 (.tmp 37), 3, "bounds.go:62", #[⟨32, .data⟩, ⟨16, .guard⟩], some (16, true)⟩) (v := (undef)) rfl (by kernel_rfl) (by kernel_rfl) (by kernel_rfl) (fun _ _ _ h => h) (Or.inr ⟨by rfl, rfl⟩) hHeld ?_
  simp only [Act.put, List.setIfInBounds_toArray, List.set_cons_zero, List.set_cons_succ]
  refine wpAnyH_take (i := 34) (oi := ⟨some 39, .build 50 #[(0, .tmp 36), (1, .tmp 38)], 50, "bounds.go:62", #[⟨31, .data⟩, ⟨33, .data⟩, ⟨16, .guard⟩], some (16, true)⟩) (v := (undef)) rfl (by kernel_rfl) (by kernel_rfl) (by kernel_rfl) (fun _ _ _ h => h) (Or.inr ⟨by rfl, rfl⟩) hHeld ?_
  simp only [Act.put, List.setIfInBounds_toArray, List.set_cons_zero, List.set_cons_succ]
  refine wpAnyH_take (i := 35) (oi := ⟨some 40, .indexAddr 46 (.global 0) (.const (.int .i64 3)), 0, "bounds.go:62", #[⟨16, .guard⟩], some (16, true)⟩) (v := (undef)) rfl (by kernel_rfl) (by kernel_rfl) (by kernel_rfl) (fun _ _ _ h => h) (Or.inr ⟨by rfl, rfl⟩) hHeld ?_
  simp only [Act.put, List.setIfInBounds_toArray, List.set_cons_zero, List.set_cons_succ]
  refine wpAnyH_take (i := 36) (oi := ⟨some 41, .load 41 (.tmp 40), 41, "bounds.go:62", #[⟨35, .data⟩, ⟨16, .guard⟩], some (16, true)⟩) (v := (undef)) rfl (by kernel_rfl) (by kernel_rfl) (by kernel_rfl) (fun _ _ _ h => h) (Or.inr ⟨by rfl, rfl⟩) hHeld ?_
  simp only [Act.put, List.setIfInBounds_toArray, List.set_cons_zero, List.set_cons_succ]
  refine wpAnyH_take (i := 37) (oi := ⟨some 42, .makeFunc (Fn.func 26) #[.tmp 41] #[], 48, "bounds.go:62", #[⟨36, .data⟩, ⟨16, .guard⟩], some (16, true)⟩) (v := (undef)) rfl (by kernel_rfl) (by kernel_rfl) (by kernel_rfl) (fun _ _ _ h => h) (Or.inr ⟨by rfl, rfl⟩) hHeld ?_
  simp only [Act.put, List.setIfInBounds_toArray, List.set_cons_zero, List.set_cons_succ]
  refine wpAnyH_take (i := 38) (oi := ⟨some 43, .fieldAddr 25 (.tmp 3) 3, 0, "bounds.go:62", #[⟨16, .guard⟩], some (16, true)⟩) (v := (undef)) rfl (by kernel_rfl) (by kernel_rfl) (by kernel_rfl) (fun _ _ _ h => h) (Or.inr ⟨by rfl, rfl⟩) hHeld ?_
  simp only [Act.put, List.setIfInBounds_toArray, List.set_cons_zero, List.set_cons_succ]
  refine wpAnyH_take (i := 39) (oi := ⟨some 44, .load 3 (.tmp 43), 3, "bounds.go:62", #[⟨38, .data⟩, ⟨16, .guard⟩], some (16, true)⟩) (v := (undef)) rfl (by kernel_rfl) (by kernel_rfl) (by kernel_rfl) (fun _ _ _ h => h) (Or.inr ⟨by rfl, rfl⟩) hHeld ?_
  simp only [Act.put, List.setIfInBounds_toArray, List.set_cons_zero, List.set_cons_succ]
  refine wpAnyH_take (i := 40) (oi := ⟨some 45, .build 50 #[(0, .tmp 42), (1, .tmp 44)], 50, "bounds.go:62", #[⟨37, .data⟩, ⟨39, .data⟩, ⟨16, .guard⟩], some (16, true)⟩) (v := (undef)) rfl (by kernel_rfl) (by kernel_rfl) (by kernel_rfl) (fun _ _ _ h => h) (Or.inr ⟨by rfl, rfl⟩) hHeld ?_
  simp only [Act.put, List.setIfInBounds_toArray, List.set_cons_zero, List.set_cons_succ]
  refine wpAnyH_take (i := 41) (oi := ⟨some 46, .buildSlice 52 4 #[(0, .tmp 27), (1, .tmp 33), (2, .tmp 39), (3, .tmp 45)], 52, "bounds.go:62", #[⟨22, .data⟩, ⟨28, .data⟩, ⟨34, .data⟩, ⟨40, .data⟩, ⟨16, .guard⟩], some (16, true)⟩) (v := (undef)) rfl (by kernel_rfl) (by kernel_rfl) (by kernel_rfl) (fun _ _ _ h => h) (Or.inr ⟨by rfl, rfl⟩) hHeld ?_
  simp only [Act.put, List.setIfInBounds_toArray, List.set_cons_zero, List.set_cons_succ]
  refine wpAnyH_take (i := 42) (oi := ⟨some 47, .call ⟨.value (.func 25), #[.tmp 46], #[52]⟩, 4, "bounds.go:62", #[⟨41, .data⟩, ⟨30, .chain⟩, ⟨16, .guard⟩], some (16, true)⟩) (v := (undef)) rfl (by kernel_rfl) (by kernel_rfl) (by kernel_rfl) (fun _ _ _ h => h) (Or.inr ⟨by rfl, rfl⟩) hHeld ?_
  simp only [Act.put, List.setIfInBounds_toArray, List.set_cons_zero, List.set_cons_succ]
  refine wpAnyH_take (i := 43) (oi := ⟨some 48, .pick (.tmp 21) (.tmp 47) (.const (.bool false)), 4, "bounds.go:62", #[⟨16, .data⟩, ⟨42, .data⟩], none⟩) (v := (.bool false)) rfl (by kernel_rfl) (by kernel_rfl) (by kernel_rfl) (fun _ _ _ h => h) (Or.inl ⟨by rfl, fun w' h' => by unfold execOp; go_simp⟩) hHeld ?_
  simp only [Act.put, List.setIfInBounds_toArray, List.set_cons_zero, List.set_cons_succ]
  refine wpAnyH_take (i := 44) (oi := ⟨some 4, .assign (.tmp 48), 4, "bounds.go:62", #[⟨43, .data⟩, ⟨42, .chain⟩, ⟨0, .phase⟩, ⟨1, .phase⟩, ⟨2, .phase⟩, ⟨3, .phase⟩, ⟨4, .phase⟩, ⟨5, .phase⟩, ⟨6, .phase⟩, ⟨7, .phase⟩, ⟨8, .phase⟩, ⟨9, .phase⟩, ⟨10, .phase⟩, ⟨11, .phase⟩, ⟨12, .phase⟩, ⟨13, .phase⟩, ⟨14, .phase⟩, ⟨15, .phase⟩, ⟨16, .phase⟩, ⟨17, .phase⟩, ⟨18, .phase⟩, ⟨19, .phase⟩, ⟨20, .phase⟩, ⟨21, .phase⟩, ⟨22, .phase⟩, ⟨23, .phase⟩, ⟨24, .phase⟩, ⟨25, .phase⟩, ⟨26, .phase⟩, ⟨27, .phase⟩, ⟨28, .phase⟩, ⟨29, .phase⟩, ⟨30, .phase⟩, ⟨31, .phase⟩, ⟨32, .phase⟩, ⟨33, .phase⟩, ⟨34, .phase⟩, ⟨35, .phase⟩, ⟨36, .phase⟩, ⟨37, .phase⟩, ⟨38, .phase⟩, ⟨39, .phase⟩, ⟨40, .phase⟩, ⟨41, .phase⟩, ⟨42, .phase⟩, ⟨43, .phase⟩], none⟩) (v := (.bool false)) rfl (by kernel_rfl) (by kernel_rfl) (by kernel_rfl) (fun _ _ _ h => h) (Or.inl ⟨by rfl, fun _ _ => by rfl⟩) hHeld ?_
  simp only [Act.put, List.setIfInBounds_toArray, List.set_cons_zero, List.set_cons_succ]
  refine wpAnyH_done (by kernel_rfl) ?_ _
  go_wp2
  go_ret
  exact ⟨by rw [decide_eq_false hno]; rfl, hb⟩

set_option maxHeartbeats 2000000 in
theorem mayBe_E (p : Par) (_es ev er en : Int) (_ek : Bool) (w : World) (hR : Rws w) (hok : Ok p) (h0 : ¬ ev = 0) :
    Calls Tryd.prog 17 #[paV p, esV ⟨0, ev, er, en, false⟩] w fun e w' => e = .returned (.bool (decide (May p ⟨0, ev, er, en, false⟩))) ∧ Below w.heap.size w w' := by
  have hb0 := newBox2 w (.cells #[.int .i64 p.mi, .int .i64 p.fi, .int .i64 p.ma] 23) (.cells #[.int .i64 0, .int .i64 ev, .int .i64 er, .int .i64 en, .bool false] 25)
  have hp := PBox.of (heap_new1 w (.cells #[.int .i64 p.mi, .int .i64 p.fi, .int .i64 p.ma] 23) (.cells #[.int .i64 0, .int .i64 ev, .int .i64 er, .int .i64 en, .bool false] 25))
  have he := EBox.of (e := ⟨0, ev, er, en, false⟩) (heap_new2 w (.cells #[.int .i64 p.mi, .int .i64 p.fi, .int .i64 p.ma] 23) (.cells #[.int .i64 0, .int .i64 ev, .int .i64 er, .int .i64 en, .bool false] 25))
  have hs : w.heap.size + 1 < ((w.alloc (.cells #[.int .i64 p.mi, .int .i64 p.fi, .int .i64 p.ma] 23)).alloc (.cells #[.int .i64 0, .int .i64 ev, .int .i64 er, .int .i64 en, .bool false] 25)).heap.size := by simp
  have hR0 := hR.later hb0 (Nat.le_refl _)
  have hno : ¬ May p ⟨0, ev, er, en, false⟩ := fun h => h.2.2.2.2.2.2.2.2.2.elim (fun h => by cases h) (fun h => h0 h.2)
  go_enter Tryd.func17, Tryd.ntmps17
  go_wp2_with fail
  generalize (w.alloc (.cells #[.int .i64 p.mi, .int .i64 p.fi, .int .i64 p.ma] 23)).alloc (.cells #[.int .i64 0, .int .i64 ev, .int .i64 er, .int .i64 en, .bool false] 25) = w0 at *
  have hd0 : Below w0.heap.size w0 w0.drew := (Below.refl w0.heap.size w0).drew
  have hRd : Rws w0.drew := hR0.later hd0 (Nat.le_refl _)
  have hpd : PBox w0.drew w.heap.size p := hp.later hd0 (by omega)
  have hed : EBox w0.drew (w.heap.size + 1) ⟨0, ev, er, en, false⟩ := he.later hd0 hs
  have hbd : Below w.heap.size w w0.drew := hb0.drew
  have hsd : w.heap.size + 1 < w0.drew.heap.size := hs
  clear hp he hR0 hd0 hb0 hs hR
  refine wp_region_held_drew (S := fun w' => Rws w' ∧ PBox w' w.heap.size p ∧ EBox w' (w.heap.size + 1) ⟨0, ev, er, en, false⟩) (by kernel_rfl) ⟨hRd, hpd, hed⟩ (fun hHeld => ?_)
  refine wpAnyH_take (i := 0) (oi := ⟨some 5, .load 23 (.tmp 2), 23, "bounds.go:62", #[], none⟩) (v := (paV p)) rfl (by kernel_rfl) (by kernel_rfl) (by kernel_rfl) (fun _ _ _ h => h) (Or.inl ⟨by rfl, fun w' h' => by have c0 := h'.2.1.c0; have c1 := h'.2.1.c1; have c2 := h'.2.1.c2; unfold execOp; go_simp⟩) hHeld ?_
  simp only [Act.put, List.setIfInBounds_toArray, List.set_cons_zero, List.set_cons_succ]
  refine wpAnyH_ready (rs := [1]) (by kernel_rfl) (by simp) ?_
  refine AllReadyH.cons (o := ⟨some 6, .call ⟨.value (.func 22), #[.tmp 5], #[23]⟩, 4, "bounds.go:62", #[⟨0, .data⟩], none⟩) rfl (fun KK hK => ?_) (AllReadyH.nil)
  go_simp
  refine (paramsMayBe_any p _ hRd).mono ?_
  rintro e w1 ⟨rfl, hb1⟩
  rw [decide_eq_true hok]
  have hR1 := hRd.later hb1 (Nat.le_refl _)
  have hp1 := hpd.later hb1 (by omega)
  have he1 := hed.later hb1 hsd
  have hb := hbd.trans (hb1.mono hbd.size)
  have hs1 : w.heap.size + 1 < w1.heap.size := Nat.lt_of_lt_of_le hsd hb1.size
  clear hRd hpd hed hbd hb1 hsd
  dsimp only
  refine hK.out _ _ ⟨hR1, hp1, he1⟩ (fun hHeld => ?_)
  clear hK KK
  try simp only [Act.put, List.setIfInBounds_toArray, List.set_cons_zero, List.set_cons_succ]
  refine wpAnyH_take (i := 2) (oi := ⟨some 7, .move (.tmp 6), 4, "bounds.go:62", #[⟨1, .data⟩, ⟨1, .chain⟩], none⟩) (v := (.bool true)) rfl (by kernel_rfl) (by kernel_rfl) (by kernel_rfl) (fun _ _ _ h => h) (Or.inl ⟨by rfl, fun _ _ => by rfl⟩) hHeld ?_
  simp only [Act.put, List.setIfInBounds_toArray, List.set_cons_zero, List.set_cons_succ]
  refine wpAnyH_take (i := 3) (oi := ⟨some 8, .fieldAddr 25 (.tmp 3) 4, 0, "bounds.go:62", #[⟨2, .guard⟩], some (2, true)⟩) (v := (.pointer (some ⟨w.heap.size + 1, 4, none⟩))) rfl (by kernel_rfl) (by kernel_rfl) (by kernel_rfl) (fun _ _ _ h => h) (Or.inl ⟨by rfl, fun w' h' => by unfold execOp; go_simp⟩) hHeld ?_
  simp only [Act.put, List.setIfInBounds_toArray, List.set_cons_zero, List.set_cons_succ]
  refine wpAnyH_take (i := 4) (oi := ⟨some 9, .load 4 (.tmp 8), 4, "bounds.go:62", #[⟨3, .data⟩, ⟨2, .guard⟩], some (2, true)⟩) (v := (.bool false)) rfl (by kernel_rfl) (by kernel_rfl) (by kernel_rfl) (fun _ _ _ h => h) (Or.inl ⟨by rfl, fun w' h' => by have c0 := h'.2.2.c4; unfold execOp; go_simp⟩) hHeld ?_
  simp only [Act.put, List.setIfInBounds_toArray, List.set_cons_zero, List.set_cons_succ]
  refine wpAnyH_take (i := 5) (oi := ⟨some 10, .move (.tmp 9), 4, "bounds.go:62", #[⟨4, .data⟩, ⟨2, .chain⟩, ⟨2, .guard⟩], some (2, true)⟩) (v := (.bool false)) rfl (by kernel_rfl) (by kernel_rfl) (by kernel_rfl) (fun _ _ _ h => h) (Or.inl ⟨by rfl, fun _ _ => by rfl⟩) hHeld ?_
  simp only [Act.put, List.setIfInBounds_toArray, List.set_cons_zero, List.set_cons_succ]
  refine wpAnyH_take (i := 6) (oi := ⟨some 11, .fieldAddr 25 (.tmp 3) 0, 0, "bounds.go:62", #[⟨5, .guard⟩], some (5, false)⟩) (v := (.pointer (some ⟨w.heap.size + 1, 0, none⟩))) rfl (by kernel_rfl) (by kernel_rfl) (by kernel_rfl) (fun _ _ _ h => h) (Or.inl ⟨by rfl, fun w' h' => by unfold execOp; go_simp⟩) hHeld ?_
  simp only [Act.put, List.setIfInBounds_toArray, List.set_cons_zero, List.set_cons_succ]
  refine wpAnyH_take (i := 7) (oi := ⟨some 12, .load 3 (.tmp 11), 3, "bounds.go:62", #[⟨6, .data⟩, ⟨5, .guard⟩], some (5, false)⟩) (v := (.int .i64 0)) rfl (by kernel_rfl) (by kernel_rfl) (by kernel_rfl) (fun _ _ _ h => h) (Or.inl ⟨by rfl, fun w' h' => by have c0 := h'.2.2.c0; unfold execOp; go_simp⟩) hHeld ?_
  simp only [Act.put, List.setIfInBounds_toArray, List.set_cons_zero, List.set_cons_succ]
  refine wpAnyH_take (i := 8) (oi := ⟨some 13, .binOp .eql 3 (.tmp 12) (.const (.int .i64 0)) 3, 4, "bounds.go:62", #[⟨7, .data⟩, ⟨5, .guard⟩], some (5, false)⟩) (v := (.bool true)) rfl (by kernel_rfl) (by kernel_rfl) (by kernel_rfl) (fun _ _ _ h => h) (Or.inl ⟨by rfl, fun w' h' => by unfold execOp; go_simp⟩) hHeld ?_
  simp only [Act.put, List.setIfInBounds_toArray, List.set_cons_zero, List.set_cons_succ]
  refine wpAnyH_take (i := 9) (oi := ⟨some 14, .move (.tmp 13), 4, "bounds.go:62", #[⟨8, .data⟩, ⟨5, .chain⟩, ⟨5, .guard⟩], some (5, false)⟩) (v := (.bool true)) rfl (by kernel_rfl) (by kernel_rfl) (by kernel_rfl) (fun _ _ _ h => h) (Or.inl ⟨by rfl, fun _ _ => by rfl⟩) hHeld ?_
  simp only [Act.put, List.setIfInBounds_toArray, List.set_cons_zero, List.set_cons_succ]
  refine wpAnyH_take (i := 10) (oi := ⟨some 15, .fieldAddr 25 (.tmp 3) 1, 0, "bounds.go:62", #[⟨9, .guard⟩], some (9, true)⟩) (v := (.pointer (some ⟨w.heap.size + 1, 1, none⟩))) rfl (by kernel_rfl) (by kernel_rfl) (by kernel_rfl) (fun _ _ _ h => h) (Or.inl ⟨by rfl, fun w' h' => by unfold execOp; go_simp⟩) hHeld ?_
  simp only [Act.put, List.setIfInBounds_toArray, List.set_cons_zero, List.set_cons_succ]
  refine wpAnyH_take (i := 11) (oi := ⟨some 16, .load 3 (.tmp 15), 3, "bounds.go:62", #[⟨10, .data⟩, ⟨9, .guard⟩], some (9, true)⟩) (v := (.int .i64 ev)) rfl (by kernel_rfl) (by kernel_rfl) (by kernel_rfl) (fun _ _ _ h => h) (Or.inl ⟨by rfl, fun w' h' => by have c0 := h'.2.2.c1; unfold execOp; go_simp⟩) hHeld ?_
  simp only [Act.put, List.setIfInBounds_toArray, List.set_cons_zero, List.set_cons_succ]
  refine wpAnyH_take (i := 12) (oi := ⟨some 17, .binOp .eql 3 (.tmp 16) (.const (.int .i64 0)) 3, 4, "bounds.go:62", #[⟨11, .data⟩, ⟨9, .guard⟩], some (9, true)⟩) (v := (.bool false)) rfl (by kernel_rfl) (by kernel_rfl) (by kernel_rfl) (fun _ _ _ h => h) (Or.inl ⟨by rfl, fun w' h' => by unfold execOp; go_simp⟩) hHeld ?_
  simp only [Act.put, List.setIfInBounds_toArray, List.set_cons_zero, List.set_cons_succ]
  refine wpAnyH_take (i := 13) (oi := ⟨some 18, .pick (.tmp 14) (.tmp 17) (.const (.bool false)), 4, "bounds.go:62", #[⟨9, .data⟩, ⟨12, .data⟩, ⟨5, .guard⟩], some (5, false)⟩) (v := (.bool false)) rfl (by kernel_rfl) (by kernel_rfl) (by kernel_rfl) (fun _ _ _ h => h) (Or.inl ⟨by rfl, fun w' h' => by unfold execOp; go_simp⟩) hHeld ?_
  simp only [Act.put, List.setIfInBounds_toArray, List.set_cons_zero, List.set_cons_succ]
  refine wpAnyH_take (i := 14) (oi := ⟨some 19, .pick (.tmp 10) (.const (.bool true)) (.tmp 18), 4, "bounds.go:62", #[⟨5, .data⟩, ⟨13, .data⟩, ⟨2, .guard⟩], some (2, true)⟩) (v := (.bool false)) rfl (by kernel_rfl) (by kernel_rfl) (by kernel_rfl) (fun _ _ _ h => h) (Or.inl ⟨by rfl, fun w' h' => by unfold execOp; go_simp⟩) hHeld ?_
  simp only [Act.put, List.setIfInBounds_toArray, List.set_cons_zero, List.set_cons_succ]
  refine wpAnyH_take (i := 15) (oi := ⟨some 20, .pick (.tmp 7) (.tmp 19) (.const (.bool false)), 4, "bounds.go:62", #[⟨2, .data⟩, ⟨14, .data⟩], none⟩) (v := (.bool false)) rfl (by kernel_rfl) (by kernel_rfl) (by kernel_rfl) (fun _ _ _ h => h) (Or.inl ⟨by rfl, fun w' h' => by unfold execOp; go_simp⟩) hHeld ?_
  simp only [Act.put, List.setIfInBounds_toArray, List.set_cons_zero, List.set_cons_succ]
  refine wpAnyH_take (i := 16) (oi := ⟨some 21, .move (.tmp 20), 4, "bounds.go:62", #[⟨15, .data⟩, ⟨9, .chain⟩], none⟩) (v := (.bool false)) rfl (by kernel_rfl) (by kernel_rfl) (by kernel_rfl) (fun _ _ _ h => h) (Or.inl ⟨by rfl, fun _ _ => by rfl⟩) hHeld ?_
  simp only [Act.put, List.setIfInBounds_toArray, List.set_cons_zero, List.set_cons_succ]
  refine wpAnyH_take (i := 17) (oi := ⟨some 22, .indexAddr 46 (.global 0) (.const (.int .i64 0)), 0, "bounds.go:62", #[⟨16, .guard⟩], some (16, true)⟩) (v := (undef)) rfl (by kernel_rfl) (by kernel_rfl) (by kernel_rfl) (fun _ _ _ h => h) (Or.inr ⟨by rfl, rfl⟩) hHeld ?_
  simp only [Act.put, List.setIfInBounds_toArray, List.set_cons_zero, List.set_cons_succ]
  refine wpAnyH_take (i := 18) (oi := ⟨some 23, .load 41 (.tmp 22), 41, "bounds.go:62", #[⟨17, .data⟩, ⟨16, .guard⟩], some (16, true)⟩) (v := (undef)) rfl (by kernel_rfl) (by kernel_rfl) (by kernel_rfl) (fun _ _ _ h => h) (Or.inr ⟨by rfl, rfl⟩) hHeld ?_
  simp only [Act.put, List.setIfInBounds_toArray, List.set_cons_zero, List.set_cons_succ]
  refine wpAnyH_take (i := 19) (oi := ⟨some 24, .makeFunc (Fn.func 26) #[.tmp 23] #[], 48, "bounds.go:62", #[⟨18, .data⟩, ⟨16, .guard⟩], some (16, true)⟩) (v := (undef)) rfl (by kernel_rfl) (by kernel_rfl) (by kernel_rfl) (fun _ _ _ h => h) (Or.inr ⟨by rfl, rfl⟩) hHeld ?_
  simp only [Act.put, List.setIfInBounds_toArray, List.set_cons_zero, List.set_cons_succ]
  refine wpAnyH_take (i := 20) (oi := ⟨some 25, .fieldAddr 25 (.tmp 3) 0, 0, "bounds.go:62", #[⟨16, .guard⟩], some (16, true)⟩) (v := (undef)) rfl (by kernel_rfl) (by kernel_rfl) (by kernel_rfl) (fun _ _ _ h => h) (Or.inr ⟨by rfl, rfl⟩) hHeld ?_
  simp only [Act.put, List.setIfInBounds_toArray, List.set_cons_zero, List.set_cons_succ]
  refine wpAnyH_take (i := 21) (oi := ⟨some 26, .load 3 (.tmp 25), 3, "bounds.go:62", #[⟨20, .data⟩, ⟨16, .guard⟩], some (16, true)⟩) (v := (undef)) rfl (by kernel_rfl) (by kernel_rfl) (by kernel_rfl) (fun _ _ _ h => h) (Or.inr ⟨by rfl, rfl⟩) hHeld ?_
  simp only [Act.put, List.setIfInBounds_toArray, List.set_cons_zero, List.set_cons_succ]
  refine wpAnyH_take (i := 22) (oi := ⟨some 27, .build 50 #[(0, .tmp 24), (1, .tmp 26)], 50, "bounds.go:62", #[⟨19, .data⟩, ⟨21, .data⟩, ⟨16, .guard⟩], some (16, true)⟩) (v := (undef)) rfl (by kernel_rfl) (by kernel_rfl) (by kernel_rfl) (fun _ _ _ h => h) (Or.inr ⟨by rfl, rfl⟩) hHeld ?_
  simp only [Act.put, List.setIfInBounds_toArray, List.set_cons_zero, List.set_cons_succ]
  refine wpAnyH_take (i := 23) (oi := ⟨some 28, .indexAddr 46 (.global 0) (.const (.int .i64 1)), 0, "bounds.go:62", #[⟨16, .guard⟩], some (16, true)⟩) (v := (undef)) rfl (by kernel_rfl) (by kernel_rfl) (by kernel_rfl) (fun _ _ _ h => h) (Or.inr ⟨by rfl, rfl⟩) hHeld ?_
  simp only [Act.put, List.setIfInBounds_toArray, List.set_cons_zero, List.set_cons_succ]
  refine wpAnyH_take (i := 24) (oi := ⟨some 29, .load 41 (.tmp 28), 41, "bounds.go:62", #[⟨23, .data⟩, ⟨16, .guard⟩], some (16, true)⟩) (v := (undef)) rfl (by kernel_rfl) (by kernel_rfl) (by kernel_rfl) (fun _ _ _ h => h) (Or.inr ⟨by rfl, rfl⟩) hHeld ?_
  simp only [Act.put, List.setIfInBounds_toArray, List.set_cons_zero, List.set_cons_succ]
  refine wpAnyH_take (i := 25) (oi := ⟨some 30, .makeFunc (Fn.func 26) #[.tmp 29] #[], 48, "bounds.go:62", #[⟨24, .data⟩, ⟨16, .guard⟩], some (16, true)⟩) (v := (undef)) rfl (by kernel_rfl) (by kernel_rfl) (by kernel_rfl) (fun _ _ _ h => h) (Or.inr ⟨by rfl, rfl⟩) hHeld ?_
  simp only [Act.put, List.setIfInBounds_toArray, List.set_cons_zero, List.set_cons_succ]
  refine wpAnyH_take (i := 26) (oi := ⟨some 31, .fieldAddr 25 (.tmp 3) 1, 0, "bounds.go:62", #[⟨16, .guard⟩], some (16, true)⟩) (v := (undef)) rfl (by kernel_rfl) (by kernel_rfl) (by kernel_rfl) (fun _ _ _ h => h) (Or.inr ⟨by rfl, rfl⟩) hHeld ?_
  simp only [Act.put, List.setIfInBounds_toArray, List.set_cons_zero, List.set_cons_succ]
  refine wpAnyH_take (i := 27) (oi := ⟨some 32, .load 3 (.tmp 31), 3, "bounds.go:62", #[⟨26, .data⟩, ⟨16, .guard⟩], some (16, true)⟩) (v := (undef)) rfl (by kernel_rfl) (by kernel_rfl) (by kernel_rfl) (fun _ _ _ h => h) (Or.inr ⟨by rfl, rfl⟩) hHeld ?_
  simp only [Act.put, List.setIfInBounds_toArray, List.set_cons_zero, List.set_cons_succ]
  refine wpAnyH_take (i := 28) (oi := ⟨some 33, .build 50 #[(0, .tmp 30), (1, .tmp 32)], 50, "bounds.go:62", #[⟨25, .data⟩, ⟨27, .data⟩, ⟨16, .guard⟩], some (16, true)⟩) (v := (undef)) rfl (by kernel_rfl) (by kernel_rfl) (by kernel_rfl) (fun _ _ _ h => h) (Or.inr ⟨by rfl, rfl⟩) hHeld ?_
  simp only [Act.put, List.setIfInBounds_toArray, List.set_cons_zero, List.set_cons_succ]
  refine wpAnyH_take (i := 29) (oi := ⟨some 34, .load 23 (.tmp 2), 23, "bounds.go:62", #[⟨16, .guard⟩], some (16, true)⟩) (v := (undef)) rfl (by kernel_rfl) (by kernel_rfl) (by kernel_rfl) (fun _ _ _ h => h) (Or.inr ⟨by rfl, rfl⟩) hHeld ?_
  simp only [Act.put, List.setIfInBounds_toArray, List.set_cons_zero, List.set_cons_succ]
  refine wpAnyH_take (i := 30) (oi := ⟨some 35, .call ⟨.value (.func 18), #[.tmp 34], #[23]⟩, 41, "bounds.go:65", #[⟨29, .data⟩, ⟨16, .chain⟩, ⟨16, .guard⟩], some (16, true)⟩) (v := (undef)) rfl (by kernel_rfl) (by kernel_rfl) (by kernel_rfl) (fun _ _ _ h => h) (Or.inr ⟨by rfl, rfl⟩) hHeld ?_
  simp only [Act.put, List.setIfInBounds_toArray, List.set_cons_zero, List.set_cons_succ]
  refine wpAnyH_take (i := 31) (oi := ⟨some 36, .makeFunc (Fn.func 26) #[.tmp 35] #[], 48, "bounds.go:62", #[⟨30, .data⟩, ⟨16, .guard⟩], some (16, true)⟩) (v := (undef)) rfl (by kernel_rfl) (by kernel_rfl) (by kernel_rfl) (fun _ _ _ h => h) (Or.inr ⟨by rfl, rfl⟩) hHeld ?_
  simp only [Act.put, List.setIfInBounds_toArray, List.set_cons_zero, List.set_cons_succ]
  refine wpAnyH_take (i := 32) (oi := ⟨some 37, .fieldAddr 25 (.tmp 3) 2, 0, "bounds.go:62", #[⟨16, .guard⟩], some (16, true)⟩) (v := (undef)) rfl (by kernel_rfl) (by kernel_rfl) (by kernel_rfl) (fun _ _ _ h => h) (Or.inr ⟨by rfl, rfl⟩) hHeld ?_
  simp only [Act.put, List.setIfInBounds_toArray, List.set_cons_zero, List.set_cons_succ]
  refine wpAnyH_take (i := 33) (oi := ⟨some 38, .load 3 (.tmp 37), 3, "bounds.go:62", #[⟨32, .data⟩, ⟨16, .guard⟩], some (16, true)⟩) (v := (undef)) rfl (by kernel_rfl) (by kernel_rfl) (by kernel_rfl) (fun _ _ _ h => h) (Or.inr ⟨by rfl, rfl⟩) hHeld ?_
  simp only [Act.put, List.setIfInBounds_toArray, List.set_cons_zero, List.set_cons_succ]
  refine wpAnyH_take (i := 34) (oi := ⟨some 39, .build 50 #[(0, .tmp 36), (1, .tmp 38)], 50, "bounds.go:62", #[⟨31, .data⟩, ⟨33, .data⟩, ⟨16, .guard⟩], some (16, true)⟩) (v := (undef)) rfl (by kernel_rfl) (by kernel_rfl) (by kernel_rfl) (fun _ _ _ h => h) (Or.inr ⟨by rfl, rfl⟩) hHeld ?_
  simp only [Act.put, List.setIfInBounds_toArray, List.set_cons_zero, List.set_cons_succ]
  refine wpAnyH_take (i := 35) (oi := ⟨some 40, .indexAddr 46 (.global 0) (.const (.int .i64 3)), 0, "bounds.go:62", #[⟨16, .guard⟩], some (16, true)⟩) (v := (undef)) rfl (by kernel_rfl) (by kernel_rfl) (by kernel_rfl) (fun _ _ _ h => h) (Or.inr ⟨by rfl, rfl⟩) hHeld ?_
  simp only [Act.put, List.setIfInBounds_toArray, List.set_cons_zero, List.set_cons_succ]
  refine wpAnyH_take (i := 36) (oi := ⟨some 41, .load 41 (.tmp 40), 41, "bounds.go:62", #[⟨35, .data⟩, ⟨16, .guard⟩], some (16, true)⟩) (v := (undef)) rfl (by kernel_rfl) (by kernel_rfl) (by kernel_rfl) (fun _ _ _ h => h) (Or.inr ⟨by rfl, rfl⟩) hHeld ?_
  simp only [Act.put, List.setIfInBounds_toArray, List.set_cons_zero, List.set_cons_succ]
  refine wpAnyH_take (i := 37) (oi := ⟨some 42, .makeFunc (Fn.func 26) #[.tmp 41] #[], 48, "bounds.go:62", #[⟨36, .data⟩, ⟨16, .guard⟩], some (16, true)⟩) (v := (undef)) rfl (by kernel_rfl) (by kernel_rfl) (by kernel_rfl) (fun _ _ _ h => h) (Or.inr ⟨by rfl, rfl⟩) hHeld ?_
  simp only [Act.put, List.setIfInBounds_toArray, List.set_cons_zero, List.set_cons_succ]
  refine wpAnyH_take (i := 38) (oi := ⟨some 43, .fieldAddr 25 (.tmp 3) 3, 0, "bounds.go:62", #[⟨16, .guard⟩], some (16, true)⟩) (v := (undef)) rfl (by kernel_rfl) (by kernel_rfl) (by kernel_rfl) (fun _ _ _ h => h) (Or.inr ⟨by rfl, rfl⟩) hHeld ?_
  simp only [Act.put, List.setIfInBounds_toArray, List.set_cons_zero, List.set_cons_succ]
  refine wpAnyH_take (i := 39) (oi := ⟨some 44, .load 3 (.tmp 43), 3, "bounds.go:62", #[⟨38, .data⟩, ⟨16, .guard⟩], some (16, true)⟩) (v := (undef)) rfl (by kernel_rfl) (by kernel_rfl) (by kernel_rfl) (fun _ _ _ h => h) (Or.inr ⟨by rfl, rfl⟩) hHeld ?_
  simp only [Act.put, List.setIfInBounds_toArray, List.set_cons_zero, List.set_cons_succ]
  refine wpAnyH_take (i := 40) (oi := ⟨some 45, .build 50 #[(0, .tmp 42), (1, .tmp 44)], 50, "bounds.go:62", #[⟨37, .data⟩, ⟨39, .data⟩, ⟨16, .guard⟩], some (16, true)⟩) (v := (undef)) rfl (by kernel_rfl) (by kernel_rfl) (by kernel_rfl) (fun _ _ _ h => h) (Or.inr ⟨by rfl, rfl⟩) hHeld ?_
  simp only [Act.put, List.setIfInBounds_toArray, List.set_cons_zero, List.set_cons_succ]
  refine wpAnyH_take (i := 41) (oi := ⟨some 46, .buildSlice 52 4 #[(0, .tmp 27), (1, .tmp 33), (2, .tmp 39), (3, .tmp 45)], 52, "bounds.go:62", #[⟨22, .data⟩, ⟨28, .data⟩, ⟨34, .data⟩, ⟨40, .data⟩, ⟨16, .guard⟩], some (16, true)⟩) (v := (undef)) rfl (by kernel_rfl) (by kernel_rfl) (by kernel_rfl) (fun _ _ _ h => h) (Or.inr ⟨by rfl, rfl⟩) hHeld ?_
  simp only [Act.put, List.setIfInBounds_toArray, List.set_cons_zero, List.set_cons_succ]
  refine wpAnyH_take (i := 42) (oi := ⟨some 47, .call ⟨.value (.func 25), #[.tmp 46], #[52]⟩, 4, "bounds.go:62", #[⟨41, .data⟩, ⟨30, .chain⟩, ⟨16, .guard⟩], some (16, true)⟩) (v := (undef)) rfl (by kernel_rfl) (by kernel_rfl) (by kernel_rfl) (fun _ _ _ h => h) (Or.inr ⟨by rfl, rfl⟩) hHeld ?_
  simp only [Act.put, List.setIfInBounds_toArray, List.set_cons_zero, List.set_cons_succ]
  refine wpAnyH_take (i := 43) (oi := ⟨some 48, .pick (.tmp 21) (.tmp 47) (.const (.bool false)), 4, "bounds.go:62", #[⟨16, .data⟩, ⟨42, .data⟩], none⟩) (v := (.bool false)) rfl (by kernel_rfl) (by kernel_rfl) (by kernel_rfl) (fun _ _ _ h => h) (Or.inl ⟨by rfl, fun w' h' => by unfold execOp; go_simp⟩) hHeld ?_
  simp only [Act.put, List.setIfInBounds_toArray, List.set_cons_zero, List.set_cons_succ]
  refine wpAnyH_take (i := 44) (oi := ⟨some 4, .assign (.tmp 48), 4, "bounds.go:62", #[⟨43, .data⟩, ⟨42, .chain⟩, ⟨0, .phase⟩, ⟨1, .phase⟩, ⟨2, .phase⟩, ⟨3, .phase⟩, ⟨4, .phase⟩, ⟨5, .phase⟩, ⟨6, .phase⟩, ⟨7, .phase⟩, ⟨8, .phase⟩, ⟨9, .phase⟩, ⟨10, .phase⟩, ⟨11, .phase⟩, ⟨12, .phase⟩, ⟨13, .phase⟩, ⟨14, .phase⟩, ⟨15, .phase⟩, ⟨16, .phase⟩, ⟨17, .phase⟩, ⟨18, .phase⟩, ⟨19, .phase⟩, ⟨20, .phase⟩, ⟨21, .phase⟩, ⟨22, .phase⟩, ⟨23, .phase⟩, ⟨24, .phase⟩, ⟨25, .phase⟩, ⟨26, .phase⟩, ⟨27, .phase⟩, ⟨28, .phase⟩, ⟨29, .phase⟩, ⟨30, .phase⟩, ⟨31, .phase⟩, ⟨32, .phase⟩, ⟨33, .phase⟩, ⟨34, .phase⟩, ⟨35, .phase⟩, ⟨36, .phase⟩, ⟨37, .phase⟩, ⟨38, .phase⟩, ⟨39, .phase⟩, ⟨40, .phase⟩, ⟨41, .phase⟩, ⟨42, .phase⟩, ⟨43, .phase⟩], none⟩) (v := (.bool false)) rfl (by kernel_rfl) (by kernel_rfl) (by kernel_rfl) (fun _ _ _ h => h) (Or.inl ⟨by rfl, fun _ _ => by rfl⟩) hHeld ?_
  simp only [Act.put, List.setIfInBounds_toArray, List.set_cons_zero, List.set_cons_succ]
  refine wpAnyH_done (by kernel_rfl) ?_ _
  go_wp2
  go_ret
  exact ⟨by rw [decide_eq_false hno]; rfl, hb⟩

theorem mayBe_any (p : Par) (e : Est) (w : World) (hR : Rws w) :
    Calls Tryd.prog 17 #[paV p, esV e] w fun r w' => r = .returned (.bool (decide (May p e))) ∧ Below w.heap.size w w' := by
  obtain ⟨es, ev, er, en, ek⟩ := e
  by_cases hok : Ok p
  · cases ek with
    | true => exact mayBe_B p es ev er en true w hR hok
    | false =>
      by_cases h0 : es = 0
      · subst h0
        by_cases h1 : ev = 0
        · subst h1; exact mayBe_C p 0 0 er en false w hR hok
        · exact mayBe_E p 0 ev er en false w hR hok h1
      · exact mayBe_D p es ev er en false w hR hok h0
  · exact mayBe_A p es ev er en ek w hR hok
end Go.Proofs.YtjaheoccofcklabDoor
