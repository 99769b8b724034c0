/- paramsMayBe. -/
import Derived.Test.YtjaheoccofcklabDoorR2
namespace Go.Proofs.YtjaheoccofcklabDoor
open Go.RowKit
set_option maxRecDepth 100000

theorem mf_run (fn : Fn) (first cap : Array Value) (w : World) : (Instr.makeFunc fn first cap).run Tryd.prog w = .ok (.func fn first cap) w := rfl
attribute [local go_sem] mf_run

/-- Params that may be. -/
def Ok (p : Par) : Prop := 1 ≤ p.mi ∧ p.mi ≤ p.fi ∧ p.fi ≤ p.ma ∧ p.ma ≤ 1048576
instance (p : Par) : Decidable (Ok p) := by unfold Ok; infer_instance
theorem pass3 (p : Par) : [(1, 1048576, p.mi), (1, 1048576, p.ma), (max 1 p.mi, min 1048576 p.ma, p.fi)].all pas = decide (Ok p) := by
  simp only [List.all_cons, List.all_nil, Bool.and_true, pas, ← Bool.decide_and]
  rw [decide_eq_decide]
  unfold Ok
  omega
theorem Chk.of3 {w : World} {g : Nat} {a b x a' b' x' a'' b'' x'' : Int} {t : TypeId} (h : w.heap[g]? = some (.cells #[fnV a b, .int .i64 x, fnV a' b', .int .i64 x', fnV a'' b'', .int .i64 x''] t)) :
    Chk w g [(a, b, x), (a', b', x'), (a'', b'', x'')] := by
  intro i p q r hi
  match i, hi with
  | 0, hi => simp only [List.getElem?_cons_zero, Option.some.injEq, Prod.mk.injEq] at hi; obtain ⟨rfl, rfl, rfl⟩ := hi; simp [World.cell?, h]
  | 1, hi => simp only [List.getElem?_cons_succ, List.getElem?_cons_zero, Option.some.injEq, Prod.mk.injEq] at hi; obtain ⟨rfl, rfl, rfl⟩ := hi; simp [World.cell?, h]
  | 2, hi => simp only [List.getElem?_cons_succ, List.getElem?_cons_zero, Option.some.injEq, Prod.mk.injEq] at hi; obtain ⟨rfl, rfl, rfl⟩ := hi; simp [World.cell?, h]
  | k + 3, hi => simp at hi

set_option maxHeartbeats 2000000 in
theorem paramsMayBe_any (p : Par) (w : World) (hR : Rws w) :
    Calls Tryd.prog 22 #[paV p] w fun e w' => e = .returned (.bool (decide (Ok p))) ∧ Below w.heap.size w w' := by
  have hb0 := newBox w (.cells #[.int .i64 p.mi, .int .i64 p.fi, .int .i64 p.ma] 23)
  have hs : w.heap.size < (w.alloc (.cells #[.int .i64 p.mi, .int .i64 p.fi, .int .i64 p.ma] 23)).heap.size := by simp
  have hp := PBox.of (heap_alloc_last w (.cells #[.int .i64 p.mi, .int .i64 p.fi, .int .i64 p.ma] 23))
  have hR0 := hR.later hb0 (Nat.le_refl _)
  go_enter Tryd.func22, Tryd.ntmps22
  go_wp2_with fail
  generalize w.alloc (.cells #[.int .i64 p.mi, .int .i64 p.fi, .int .i64 p.ma] 23) = w0 at *
  have v0 : w0.cell? ⟨0, 4, none⟩ = some (.int .i64 1) ∧ w0.cell? ⟨0, 5, none⟩ = some (.int .i64 1048576) ∧ w0.cell? ⟨w.heap.size, 0, none⟩ = some (.int .i64 p.mi) ∧ w0.cell? ⟨w.heap.size, 1, none⟩ = some (.int .i64 p.fi) ∧ w0.cell? ⟨w.heap.size, 2, none⟩ = some (.int .i64 p.ma) := ⟨hR0.c4, hR0.c5, hp.c0, hp.c1, hp.c2⟩
  have hd0 : Below w0.heap.size w0 w0.drew := (Below.refl w0.heap.size w0).drew
  have hRd : Rws w0.drew := hR0.later hd0 (Nat.le_refl _)
  have hpd : PBox w0.drew w.heap.size p := hp.later hd0 hs
  have hbd : Below w.heap.size w w0.drew := hb0.drew
  have hsd : w.heap.size < w0.drew.heap.size := hs
  clear hp hR0 hd0 hb0 hs hR
  refine wp_region_held_drew (S := fun w' => Rws w' ∧ PBox w' w.heap.size p) (by kernel_rfl) ⟨hRd, hpd⟩ (fun hHeld => ?_)
  refine wpAnyH_take (i := 0) (oi := ⟨some 3, .indexAddr 46 (.global 0) (.const (.int .i64 2)), 0, "bounds.go:53", #[], none⟩) (v := (.pointer (some ⟨0, 4, none⟩))) rfl (by kernel_rfl) (by kernel_rfl) (by kernel_rfl) (fun _ _ _ h => h) (Or.inl ⟨by rfl, fun w' h' => by unfold execOp; go_simp⟩) hHeld ?_
  simp only [Act.put, List.setIfInBounds_toArray, List.set_cons_zero, List.set_cons_succ]
  refine wpAnyH_take (i := 1) (oi := ⟨some 4, .load 41 (.tmp 3), 41, "bounds.go:53", #[⟨0, .data⟩], none⟩) (v := (rwV 1 1048576)) rfl (by kernel_rfl) (by kernel_rfl) (by kernel_rfl) (fun _ _ _ h => h) (Or.inl ⟨by rfl, fun w' h' => by have c0 := h'.1.c4; have c1 := h'.1.c5; unfold execOp; go_simp⟩) hHeld ?_
  simp only [Act.put, List.setIfInBounds_toArray, List.set_cons_zero, List.set_cons_succ]
  refine wpAnyH_take (i := 2) (oi := ⟨some 5, .makeFunc (Fn.func 26) #[.tmp 4] #[], 48, "bounds.go:53", #[⟨1, .data⟩], none⟩) (v := (fnV 1 1048576)) rfl (by kernel_rfl) (by kernel_rfl) (by kernel_rfl) (fun _ _ _ h => h) (Or.inl ⟨by rfl, fun w' h' => by unfold execOp; go_simp⟩) hHeld ?_
  simp only [Act.put, List.setIfInBounds_toArray, List.set_cons_zero, List.set_cons_succ]
  refine wpAnyH_take (i := 3) (oi := ⟨some 6, .fieldAddr 23 (.tmp 1) 0, 0, "bounds.go:53", #[], none⟩) (v := (.pointer (some ⟨w.heap.size, 0, none⟩))) rfl (by kernel_rfl) (by kernel_rfl) (by kernel_rfl) (fun _ _ _ h => h) (Or.inl ⟨by rfl, fun w' h' => by unfold execOp; go_simp⟩) hHeld ?_
  simp only [Act.put, List.setIfInBounds_toArray, List.set_cons_zero, List.set_cons_succ]
  refine wpAnyH_take (i := 4) (oi := ⟨some 7, .load 3 (.tmp 6), 3, "bounds.go:53", #[⟨3, .data⟩], none⟩) (v := (.int .i64 p.mi)) rfl (by kernel_rfl) (by kernel_rfl) (by kernel_rfl) (fun _ _ _ h => h) (Or.inl ⟨by rfl, fun w' h' => by have c0 := h'.2.c0; unfold execOp; go_simp⟩) hHeld ?_
  simp only [Act.put, List.setIfInBounds_toArray, List.set_cons_zero, List.set_cons_succ]
  refine wpAnyH_take (i := 5) (oi := ⟨some 8, .build 50 #[(0, .tmp 5), (1, .tmp 7)], 50, "bounds.go:53", #[⟨2, .data⟩, ⟨4, .data⟩], none⟩) (v := (.agg #[fnV 1 1048576, .int .i64 p.mi])) rfl (by kernel_rfl) (by kernel_rfl) (by kernel_rfl) (fun _ _ _ h => h) (Or.inl ⟨by rfl, fun w' h' => by unfold execOp; go_simp⟩) hHeld ?_
  simp only [Act.put, List.setIfInBounds_toArray, List.set_cons_zero, List.set_cons_succ]
  refine wpAnyH_take (i := 6) (oi := ⟨some 9, .indexAddr 46 (.global 0) (.const (.int .i64 2)), 0, "bounds.go:53", #[], none⟩) (v := (.pointer (some ⟨0, 4, none⟩))) rfl (by kernel_rfl) (by kernel_rfl) (by kernel_rfl) (fun _ _ _ h => h) (Or.inl ⟨by rfl, fun w' h' => by unfold execOp; go_simp⟩) hHeld ?_
  simp only [Act.put, List.setIfInBounds_toArray, List.set_cons_zero, List.set_cons_succ]
  refine wpAnyH_take (i := 7) (oi := ⟨some 10, .load 41 (.tmp 9), 41, "bounds.go:53", #[⟨6, .data⟩], none⟩) (v := (rwV 1 1048576)) rfl (by kernel_rfl) (by kernel_rfl) (by kernel_rfl) (fun _ _ _ h => h) (Or.inl ⟨by rfl, fun w' h' => by have c0 := h'.1.c4; have c1 := h'.1.c5; unfold execOp; go_simp⟩) hHeld ?_
  simp only [Act.put, List.setIfInBounds_toArray, List.set_cons_zero, List.set_cons_succ]
  refine wpAnyH_take (i := 8) (oi := ⟨some 11, .makeFunc (Fn.func 26) #[.tmp 10] #[], 48, "bounds.go:53", #[⟨7, .data⟩], none⟩) (v := (fnV 1 1048576)) rfl (by kernel_rfl) (by kernel_rfl) (by kernel_rfl) (fun _ _ _ h => h) (Or.inl ⟨by rfl, fun w' h' => by unfold execOp; go_simp⟩) hHeld ?_
  simp only [Act.put, List.setIfInBounds_toArray, List.set_cons_zero, List.set_cons_succ]
  refine wpAnyH_take (i := 9) (oi := ⟨some 12, .fieldAddr 23 (.tmp 1) 2, 0, "bounds.go:53", #[], none⟩) (v := (.pointer (some ⟨w.heap.size, 2, none⟩))) rfl (by kernel_rfl) (by kernel_rfl) (by kernel_rfl) (fun _ _ _ h => h) (Or.inl ⟨by rfl, fun w' h' => by unfold execOp; go_simp⟩) hHeld ?_
  simp only [Act.put, List.setIfInBounds_toArray, List.set_cons_zero, List.set_cons_succ]
  refine wpAnyH_take (i := 10) (oi := ⟨some 13, .load 3 (.tmp 12), 3, "bounds.go:53", #[⟨9, .data⟩], none⟩) (v := (.int .i64 p.ma)) rfl (by kernel_rfl) (by kernel_rfl) (by kernel_rfl) (fun _ _ _ h => h) (Or.inl ⟨by rfl, fun w' h' => by have c0 := h'.2.c2; unfold execOp; go_simp⟩) hHeld ?_
  simp only [Act.put, List.setIfInBounds_toArray, List.set_cons_zero, List.set_cons_succ]
  refine wpAnyH_take (i := 11) (oi := ⟨some 14, .build 50 #[(0, .tmp 11), (1, .tmp 13)], 50, "bounds.go:53", #[⟨8, .data⟩, ⟨10, .data⟩], none⟩) (v := (.agg #[fnV 1 1048576, .int .i64 p.ma])) rfl (by kernel_rfl) (by kernel_rfl) (by kernel_rfl) (fun _ _ _ h => h) (Or.inl ⟨by rfl, fun w' h' => by unfold execOp; go_simp⟩) hHeld ?_
  simp only [Act.put, List.setIfInBounds_toArray, List.set_cons_zero, List.set_cons_succ]
  refine wpAnyH_take (i := 12) (oi := ⟨some 15, .load 23 (.tmp 1), 23, "bounds.go:53", #[], none⟩) (v := (paV p)) rfl (by kernel_rfl) (by kernel_rfl) (by kernel_rfl) (fun _ _ _ h => h) (Or.inl ⟨by rfl, fun w' h' => by have c0 := h'.2.c0; have c1 := h'.2.c1; have c2 := h'.2.c2; unfold execOp; go_simp⟩) hHeld ?_
  simp only [Act.put, List.setIfInBounds_toArray, List.set_cons_zero, List.set_cons_succ]
  refine wpAnyH_take (i := 15) (oi := ⟨some 18, .fieldAddr 23 (.tmp 1) 1, 0, "bounds.go:53", #[], none⟩) (v := (.pointer (some ⟨w.heap.size, 1, none⟩))) rfl (by kernel_rfl) (by kernel_rfl) (by kernel_rfl) (fun _ _ _ h => h) (Or.inl ⟨by rfl, fun w' h' => by unfold execOp; go_simp⟩) hHeld ?_
  simp only [Act.put, List.setIfInBounds_toArray, List.set_cons_zero, List.set_cons_succ]
  refine wpAnyH_take (i := 16) (oi := ⟨some 19, .load 3 (.tmp 18), 3, "bounds.go:53", #[⟨15, .data⟩], none⟩) (v := (.int .i64 p.fi)) rfl (by kernel_rfl) (by kernel_rfl) (by kernel_rfl) (fun _ _ _ h => h) (Or.inl ⟨by rfl, fun w' h' => by have c0 := h'.2.c1; unfold execOp; go_simp⟩) hHeld ?_
  simp only [Act.put, List.setIfInBounds_toArray, List.set_cons_zero, List.set_cons_succ]
  refine wpAnyH_ready (rs := [13]) (by kernel_rfl) (by simp) ?_
  refine AllReadyH.cons (o := ⟨some 16, .call ⟨.value (.func 18), #[.tmp 15], #[23]⟩, 41, "bounds.go:56", #[⟨12, .data⟩], none⟩) rfl (fun KK hK => ?_) (AllReadyH.nil)
  go_simp
  refine (waits_any p _ hRd).mono ?_
  rintro e w1 ⟨rfl, hb1⟩
  have hR1 := hRd.later hb1 (Nat.le_refl _)
  have hp1 := hpd.later hb1 hsd
  have hb := hbd.trans (hb1.mono hbd.size)
  have hs1 : w.heap.size < w1.heap.size := Nat.lt_of_lt_of_le hsd hb1.size
  clear hRd hpd hbd hb1 hsd v0
  dsimp only
  refine hK.out _ _ ⟨hR1, hp1⟩ (fun hHeld => ?_)
  clear hK KK
  try simp only [Act.put, List.setIfInBounds_toArray, List.set_cons_zero, List.set_cons_succ]
  refine wpAnyH_take (i := 14) (oi := ⟨some 17, .makeFunc (Fn.func 26) #[.tmp 16] #[], 48, "bounds.go:53", #[⟨13, .data⟩], none⟩) (v := (fnV (max 1 p.mi) (min 1048576 p.ma))) rfl (by kernel_rfl) (by kernel_rfl) (by kernel_rfl) (fun _ _ _ h => h) (Or.inl ⟨by rfl, fun w' h' => by unfold execOp; go_simp⟩) hHeld ?_
  simp only [Act.put, List.setIfInBounds_toArray, List.set_cons_zero, List.set_cons_succ]
  refine wpAnyH_take (i := 17) (oi := ⟨some 20, .build 50 #[(0, .tmp 17), (1, .tmp 19)], 50, "bounds.go:53", #[⟨14, .data⟩, ⟨16, .data⟩], none⟩) (v := (.agg #[fnV (max 1 p.mi) (min 1048576 p.ma), .int .i64 p.fi])) rfl (by kernel_rfl) (by kernel_rfl) (by kernel_rfl) (fun _ _ _ h => h) (Or.inl ⟨by rfl, fun w' h' => by unfold execOp; go_simp⟩) hHeld ?_
  simp only [Act.put, List.setIfInBounds_toArray, List.set_cons_zero, List.set_cons_succ]
  refine wpAnyH_ready (rs := [18]) (by kernel_rfl) (by simp) ?_
  refine AllReadyH.cons (o := ⟨some 21, .buildSlice 52 3 #[(0, .tmp 8), (1, .tmp 14), (2, .tmp 20)], 52, "bounds.go:53", #[⟨5, .data⟩, ⟨11, .data⟩, ⟨17, .data⟩], none⟩) rfl (fun KK hK => ?_) (AllReadyH.nil)
  go_simp
  have hn := newBox w1 (Obj.cells #[fnV 1 1048576, .int .i64 p.mi, fnV 1 1048576, .int .i64 p.ma, fnV (max 1 p.mi) (min 1048576 p.ma), .int .i64 p.fi] 50)
  have hRn := hR1.later hn (Nat.le_refl _)
  have hpn := hp1.later hn hs1
  refine hK.out _ _ ⟨hRn, hpn⟩ (fun hHeld => ?_)
  clear hK KK
  try simp only [Act.put, List.setIfInBounds_toArray, List.set_cons_zero, List.set_cons_succ]
  refine wpAnyH_ready (rs := [19]) (by kernel_rfl) (by simp) ?_
  refine AllReadyH.cons (o := ⟨some 22, .call ⟨.value (.func 25), #[.tmp 21], #[52]⟩, 4, "bounds.go:53", #[⟨18, .data⟩, ⟨13, .chain⟩], none⟩) rfl (fun KK hK => ?_) (AllReadyH.nil)
  go_simp
  have hC := Chk.of3 (heap_alloc_last w1 (Obj.cells #[fnV 1 1048576, .int .i64 p.mi, fnV 1 1048576, .int .i64 p.ma, fnV (max 1 p.mi) (min 1048576 p.ma), .int .i64 p.fi] 50))
  refine (allPass_any w1.heap.size [(1, 1048576, p.mi), (1, 1048576, p.ma), (max 1 p.mi, min 1048576 p.ma, p.fi)] _ (by simp) (by simp) hC).mono ?_
  rintro e w2 ⟨he, hb2⟩
  rw [pass3] at he
  subst he
  have hq := hn.trans (hb2.mono hn.size)
  have hR2 := hR1.later hq (Nat.le_refl _)
  have hp2 := hp1.later hq hs1
  have hb' := hb.trans (hq.mono hb.size)
  clear hb hq hC hn hRn hpn hR1 hp1 hb2 hs1
  dsimp only
  refine hK.out _ _ ⟨hR2, hp2⟩ (fun hHeld => ?_)
  clear hK KK
  try simp only [Act.put, List.setIfInBounds_toArray, List.set_cons_zero, List.set_cons_succ]
  refine wpAnyH_take (i := 20) (oi := ⟨some 2, .assign (.tmp 22), 4, "bounds.go:53", #[⟨19, .data⟩, ⟨19, .chain⟩, ⟨0, .phase⟩, ⟨1, .phase⟩, ⟨2, .phase⟩, ⟨3, .phase⟩, ⟨4, .phase⟩, ⟨5, .phase⟩, ⟨6, .phase⟩, ⟨7, .phase⟩, ⟨8, .phase⟩, ⟨9, .phase⟩, ⟨10, .phase⟩, ⟨11, .phase⟩, ⟨12, .phase⟩, ⟨13, .phase⟩, ⟨14, .phase⟩, ⟨15, .phase⟩, ⟨16, .phase⟩, ⟨17, .phase⟩, ⟨18, .phase⟩, ⟨19, .phase⟩], none⟩) (v := (.bool (decide (Ok p)))) rfl (by kernel_rfl) (by kernel_rfl) (by kernel_rfl) (fun _ _ _ h => h) (Or.inl ⟨by rfl, fun _ _ => by rfl⟩) hHeld ?_
  simp only [Act.put, List.setIfInBounds_toArray, List.set_cons_zero, List.set_cons_succ]
  refine wpAnyH_done (by kernel_rfl) ?_ _
  go_wp2
  go_ret
  exact ⟨rfl, hb'⟩
end Go.Proofs.YtjaheoccofcklabDoor
