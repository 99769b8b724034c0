/- The document's own queue: New, Push, by their contracts. -/
import Derived.Test.YtkfdneohkgmmbaaQ1r
import Derived.Deep.AppendLies
import Derived.Deep.RegionLaw
import Derived.Deep.DrawnRows
namespace Go.Proofs.Ytkfdneohkgmmbaa
open Go.RowKit
set_option maxRecDepth 100000
attribute [local go_sem ↓] Go.wp_at_zero Go.wp_at_succ

set_option maxHeartbeats 400000 in
theorem rnew_no (c p : Int) (w : World) (h : manyB c = false ∨ manyB p = false) :
    Calls Try.prog 22 #[.int .i64 c, .int .i64 p] w fun e w' => e = .returned (.pointer none) ∧ w' = w := by
  unfold manyB at h
  simp at h
  by_cases h1 : c < 1
  · clear h
    go_enter Try.func22, Try.ntmps22
    go_wp2
    go_ret
    exact ⟨rfl, rfl⟩
  · by_cases h2 : c > 64
    · clear h
      go_enter Try.func22, Try.ntmps22
      go_wp2
      go_ret
      exact ⟨rfl, rfl⟩
    · by_cases h3 : p < 1
      · clear h
        go_enter Try.func22, Try.ntmps22
        go_wp2
        go_ret
        exact ⟨rfl, rfl⟩
      · have h4 : p > 64 := by omega
        clear h
        go_enter Try.func22, Try.ntmps22
        go_wp2
        go_ret
        exact ⟨rfl, rfl⟩
theorem Rx.made (w : World) (lab : Nat → Nat) (k n P : Nat) (hn : n + 1 ≤ 64) (hP : P ≤ 64) (w' : World) (h1 : w'.heap[w.heap.size]? = some (.cells (List.replicate (n + 1) (Value.slice none 0 0)).toArray 40)) (h2 : w'.heap[w.heap.size + 1]? = some (.cells #[.slice (some ⟨w.heap.size, 0, none⟩) (n + 1) (n + 1), .int .i64 P, .int .i64 n] 75)) :
    Rx KR w' (rl lab w k) k (w.heap.size + 1) w.heap.size P n (List.replicate (n + 1) (Value.slice none 0 0)) (List.replicate (n + 1) []) :=
  ⟨by rw [List.length_replicate]; exact h2, h1, by simp, fun i h1 h2 => by simp only [List.getElem_replicate]; exact ⟨by simp, Or.inl ⟨rfl, rfl⟩⟩, fun i j h1 h2 b hij hi => (by simp [Value.ownBlock] at hi), rl_new (by omega), rl_new (Nat.le_refl _), fun i h1 b hi => (by simp [Value.ownBlock] at hi), fun i h2 => by simp, hP, by simpa using hn, by simp⟩
set_option maxHeartbeats 1000000 in
theorem rnew_ok (n p : Nat) (w : World) (lab : Nat → Nat) (k : Nat) (hc2 : n + 1 ≤ 64) (hp1 : 1 ≤ p) (hp2 : p ≤ 64) :
    Calls Try.prog 22 #[.int .i64 ((n : Int) + 1), .int .i64 p] w fun e w' => ∃ qb, e = .returned (.pointer (some ⟨qb, 0, none⟩)) ∧ Ru KR w' (rl lab w k) k qb p n (List.replicate (n + 1) []) ∧ Below w.heap.size w w' := by
  have a1 : (n : Int) + 1 ≤ 64 := by omega
  have a2 : (0 : Int) ≤ n := by omega
  have a3 : (1 : Int) ≤ p := by omega
  have a4 : (p : Int) ≤ 64 := by omega
  obtain ⟨i0, hi, hz0, hz1, hz2⟩ := info_parts Try.infoSI
  go_enter Try.func22, Try.ntmps22
  go_wp2_with (at_make; (refine wpList_make_row _ rfl _ _ 67 rfl 40 i0 (.slice none 0 0) Try.underlying67 hi hz0 hz1 rfl .i64 .i64 (n + 1) (by rfl) (by rfl) (by rw [hz2]; omega) (by omega) ?_))
  go_ret
  refine ⟨w.heap.size + 1, by simp, ?_⟩
  have hb : Below w.heap.size w ((w.alloc (.cells (madeCells #[Value.slice none 0 0] (n + 1)) 40)).alloc (.cells #[.slice (some ⟨w.heap.size, 0, none⟩) (n + 1) (n + 1), .int .i64 p, .int .i64 n] 75)) := ((Below.refl _ w).alloc (Nat.le_refl _) _).alloc (by simp) _
  refine ⟨⟨w.heap.size, _, Rx.made w lab k n p hc2 hp2 _ ?_ ?_⟩, hb⟩
  · rw [Below.heap_alloc _ _ _ (by simp), heap_alloc_new, made_nil]
  · have := heap_alloc_new (w.alloc (.cells (madeCells #[Value.slice none 0 0] (n + 1)) 40)) (.cells #[.slice (some ⟨w.heap.size, 0, none⟩) (n + 1) (n + 1), .int .i64 p, .int .i64 n] 75)
    simpa using this
theorem rpush_no {w : World} {lab : Nat → Nat} {k qb P nx : Nat} {L : List (List Int)} (hq : Ru KR w lab k qb P nx L) (c : Int) (v : Int) (hc : c < 0 ∨ (L.length : Int) ≤ c) :
    Calls Try.prog 35 #[.pointer (some ⟨qb, 0, none⟩), .int .i64 c, .int .i64 v] w fun e w' => e = .returned (.int .i64 1) ∧ w' = w := by
  obtain ⟨wb, vs, h⟩ := hq
  have h2 := h.c2
  have hn := h.hn
  clear h
  by_cases h0 : c < 0
  · go_enter Try.func35, Try.ntmps35
    go_wp2
    go_ret
    exact ⟨rfl, rfl⟩
  · have a1 : ¬ c < L.length := by omega
    have a2 : (L.length : Int) ≤ c := by omega
    clear hc
    go_enter Try.func35, Try.ntmps35
    go_wp2
    go_ret
    exact ⟨rfl, rfl⟩
set_option maxHeartbeats 1000000 in
theorem rpush_full {w : World} {lab : Nat → Nat} {k qb P nx : Nat} {L : List (List Int)} (hq : Ru KR w lab k qb P nx L) (c : Nat) (v : Int) (hc : c < L.length) (hl : L[c].length = P) :
    Calls Try.prog 35 #[.pointer (some ⟨qb, 0, none⟩), .int .i64 c, .int .i64 v] w fun e w' => e = .returned (.int .i64 141) ∧ ∃ m, w' = w.drewN m := by
  obtain ⟨wb, vs, h⟩ := hq
  have hcv : c < vs.length := by rw [h.len]; exact hc
  obtain ⟨ao, cap, hv⟩ := own_slice (h.own c hcv hc)
  have h0 := h.c0
  have h2 := h.c2
  have hw := h.cw c hcv
  rw [hv, hl] at hw
  have a1 : (c : Int) < L.length := by omega
  clear hv h hl
  go_enter Try.func35, Try.ntmps35
  go_wp2_with fail
  go_quiet (fail)
  go_wp2
  go_ret
  exact ⟨rfl, _, rfl⟩
set_option maxHeartbeats 4000000 in
theorem rpush_ok {w : World} {lab : Nat → Nat} {k qb P nx : Nat} {L : List (List Int)} (hq : Ru KR w lab k qb P nx L) (c : Nat) (v : Int) (hc : c < L.length) (hl : L[c].length < P) :
    Calls Try.prog 35 #[.pointer (some ⟨qb, 0, none⟩), .int .i64 c, .int .i64 v] w fun e w' => e = .returned (.int .i64 0) ∧ Ru KR w' (rl lab w k) k qb P nx (L.set c (L[c] ++ [v])) ∧ Turns (fun i => lab i = k) w w' := by
  obtain ⟨wb, vs, h⟩ := hq
  obtain ⟨i0, hi, hz0, hz1, hz2⟩ := info_parts Try.infoInt
  have hcv : c < vs.length := by rw [h.len]; exact hc
  have hrow := h.own c hcv hc
  obtain ⟨ao, cap, hv, hLi⟩ := Li.row (xs := L[c]) (by rw [show (L[c].map (Value.int .i64)) = L[c].flatMap KR.cs from (flatI L[c]).symm]; exact hrow)
  have h0 := h.c0
  have h2 := h.c2
  have hw := h.cw c hcv
  have hP := h.hP
  have hwl := heap_lt h.row
  have hql := heap_lt h.box
  have hR := h.row
  rw [hv] at hw
  have a1 : (c : Int) < L.length := by omega
  have a2 : (0 : Int) ≤ c := by omega
  obtain ⟨m, hm⟩ : ∃ m, L[c].length = m := ⟨_, rfl⟩
  rw [hm] at hw hl hLi
  have a3 : (m : Int) < P := by omega
  have a4 : (P : Int) ≤ 64 := by omega
  have HM : Hid (L[c].length = m) := hm
  have HH : Hid (Rx KR w lab k qb wb P nx vs L) := h
  clear hv hm hrow h
  go_enter Try.func35, Try.ntmps35
  go_wp2_with fail
  go_quiet (fail)
  go_wp2_with fail
  -- REGION
  obtain ⟨n, hn⟩ : ∃ n, L.length = n := ⟨_, rfl⟩
  have HF : Hid (∀ w4 : World, Below w.heap.size w w4 → w4.cell? ⟨wb, c, none⟩ = some (.slice ao m cap) ∧ w4.cell? ⟨qb, 0, none⟩ = some (.slice (some ⟨wb, 0, none⟩) n n) ∧ w4.frozen? ⟨wb, c, none⟩ = false) := fun w4 b4 => by
    have hr4 := (b4.block wb hwl).trans hR
    refine ⟨(World.cell?_of_block (w := w) (a := ⟨wb, c, none⟩) (b4.block wb hwl)).trans hw, ?_, by simp [World.frozen?, hr4]⟩
    rw [← hn]
    exact (World.cell?_of_block (w := w) (a := ⟨qb, 0, none⟩) (b4.block qb hql)).trans h2
  have HLi : Hid (∀ w4 : World, Below w.heap.size w w4 → Li w4 ao m cap L[c]) := fun w4 b4 => hLi.below b4 (Nat.le_refl _)
  have b0 : Below w.heap.size w (w.drewN nq) := ⟨rfl, rfl, rfl, Nat.le_refl _, fun _ _ => rfl⟩
  have hqw : qb ≠ wb := by
    rintro rfl
    have := HH.out.box; rw [HH.out.row] at this
    exact KR.ne3 (Obj.cells.inj (Option.some.inj this)).2.1.symm
  rw [hn] at a1 h2 ⊢
  clear hLi hw h0 h2 hR hn
  generalize w.drewN nq = W0 at b0 ⊢
  have b1 : Below w.heap.size w W0.drew := ⟨b0.os, b0.tape, b0.output, b0.size, b0.block⟩
  have bA : Below w.heap.size w (W0.drew.alloc (.cells #[.int .i64 v] 3)) := b1.alloc b1.size _
  have HX : Hid (∀ j u, [Value.int .i64 v][j]? = some u → (W0.drew.alloc (.cells #[.int .i64 v] 3)).cell? ((⟨W0.heap.size, 0, none⟩ : Addr).add j) = some u) := cell_one_new W0.drew (.int .i64 v) 3
  refine wp_region_held_drew (S := fun w' => w'.cell? ⟨qb, 0, none⟩ = some (.slice (some ⟨wb, 0, none⟩) n n)) (by kernel_rfl) (HF.out _ b1).2.1 (fun hHeld => ?_)
  refine wpAnyH_take (i := 0) (oi := ⟨some 31, .move (.tmp 0), 52, "queue.go:29", #[], none⟩) (v := (.pointer (some ⟨qb, 0, none⟩))) rfl (by kernel_rfl) (by kernel_rfl) (by kernel_rfl) (fun _ _ _ h => h) (Or.inl ⟨by rfl, fun _ _ => by rfl⟩) hHeld ?_
  simp only [Act.put, List.setIfInBounds_toArray, List.set_cons_zero, List.set_cons_succ]
  refine wpAnyH_take (i := 1) (oi := ⟨some 32, .nilCheck (.tmp 31), 0, "queue.go:29", #[⟨0, .data⟩], none⟩) (v := (.pointer (some ⟨qb, 0, none⟩))) rfl (by kernel_rfl) (by kernel_rfl) (by kernel_rfl) (fun _ _ _ h => h) (Or.inl ⟨by rfl, fun _ _ => by rfl⟩) hHeld ?_
  simp only [Act.put, List.setIfInBounds_toArray, List.set_cons_zero, List.set_cons_succ]
  refine wpAnyH_take (i := 2) (oi := ⟨some 33, .fieldAddr 75 (.tmp 32) 0, 0, "queue.go:29", #[⟨1, .data⟩], none⟩) (v := (.pointer (some ⟨qb, 0, none⟩))) rfl (by kernel_rfl) (by kernel_rfl) (by kernel_rfl) (fun _ _ _ h => h) (Or.inl ⟨by rfl, fun _ _ => by rfl⟩) hHeld ?_
  simp only [Act.put, List.setIfInBounds_toArray, List.set_cons_zero, List.set_cons_succ]
  refine wpAnyH_take (i := 3) (oi := ⟨some 34, .load 67 (.tmp 33), 67, "queue.go:29", #[⟨2, .data⟩], none⟩) (v := (.slice (some ⟨wb, 0, none⟩) n n)) rfl (by kernel_rfl) (by kernel_rfl) (by kernel_rfl) (fun _ _ _ h => h) (Or.inl ⟨by rfl, fun w' h' => by have e0 : w'.cell? ⟨qb, 0, none⟩ = _ := h'; unfold execOp; go_simp⟩) hHeld ?_
  simp only [Act.put, List.setIfInBounds_toArray, List.set_cons_zero, List.set_cons_succ]
  refine wpAnyH_take (i := 4) (oi := ⟨some 35, .move (.tmp 1), 3, "queue.go:29", #[], none⟩) (v := (.int .i64 (c : Nat))) rfl (by kernel_rfl) (by kernel_rfl) (by kernel_rfl) (fun _ _ _ h => h) (Or.inl ⟨by rfl, fun _ _ => by rfl⟩) hHeld ?_
  simp only [Act.put, List.setIfInBounds_toArray, List.set_cons_zero, List.set_cons_succ]
  refine wpAnyH_take (i := 5) (oi := ⟨some 36, .move (.tmp 0), 52, "queue.go:29", #[], none⟩) (v := (.pointer (some ⟨qb, 0, none⟩))) rfl (by kernel_rfl) (by kernel_rfl) (by kernel_rfl) (fun _ _ _ h => h) (Or.inl ⟨by rfl, fun _ _ => by rfl⟩) hHeld ?_
  simp only [Act.put, List.setIfInBounds_toArray, List.set_cons_zero, List.set_cons_succ]
  refine wpAnyH_take (i := 6) (oi := ⟨some 37, .nilCheck (.tmp 36), 0, "queue.go:29", #[⟨5, .data⟩], none⟩) (v := (.pointer (some ⟨qb, 0, none⟩))) rfl (by kernel_rfl) (by kernel_rfl) (by kernel_rfl) (fun _ _ _ h => h) (Or.inl ⟨by rfl, fun _ _ => by rfl⟩) hHeld ?_
  simp only [Act.put, List.setIfInBounds_toArray, List.set_cons_zero, List.set_cons_succ]
  refine wpAnyH_take (i := 7) (oi := ⟨some 38, .fieldAddr 75 (.tmp 37) 0, 0, "queue.go:29", #[⟨6, .data⟩], none⟩) (v := (.pointer (some ⟨qb, 0, none⟩))) rfl (by kernel_rfl) (by kernel_rfl) (by kernel_rfl) (fun _ _ _ h => h) (Or.inl ⟨by rfl, fun _ _ => by rfl⟩) hHeld ?_
  simp only [Act.put, List.setIfInBounds_toArray, List.set_cons_zero, List.set_cons_succ]
  refine wpAnyH_take (i := 8) (oi := ⟨some 39, .load 67 (.tmp 38), 67, "queue.go:29", #[⟨7, .data⟩], none⟩) (v := (.slice (some ⟨wb, 0, none⟩) n n)) rfl (by kernel_rfl) (by kernel_rfl) (by kernel_rfl) (fun _ _ _ h => h) (Or.inl ⟨by rfl, fun w' h' => by have e0 : w'.cell? ⟨qb, 0, none⟩ = _ := h'; unfold execOp; go_simp⟩) hHeld ?_
  simp only [Act.put, List.setIfInBounds_toArray, List.set_cons_zero, List.set_cons_succ]
  refine wpAnyH_take (i := 9) (oi := ⟨some 40, .move (.tmp 1), 3, "queue.go:29", #[], none⟩) (v := (.int .i64 (c : Nat))) rfl (by kernel_rfl) (by kernel_rfl) (by kernel_rfl) (fun _ _ _ h => h) (Or.inl ⟨by rfl, fun _ _ => by rfl⟩) hHeld ?_
  simp only [Act.put, List.setIfInBounds_toArray, List.set_cons_zero, List.set_cons_succ]
  refine wpAnyH_take (i := 10) (oi := ⟨some 41, .indexAddr 67 (.tmp 39) (.tmp 40), 0, "queue.go:29", #[⟨8, .data⟩, ⟨9, .data⟩], none⟩) (v := (.pointer (some ⟨wb, c, none⟩))) rfl (by kernel_rfl) (by kernel_rfl) (by kernel_rfl) (fun _ _ _ h => h) (Or.inl ⟨by rfl, fun w' h' => by unfold execOp; go_simp⟩) hHeld ?_
  simp only [Act.put, List.setIfInBounds_toArray, List.set_cons_zero, List.set_cons_succ]
  refine wpAnyH_take (i := 13) (oi := ⟨some 44, .move (.tmp 2), 3, "queue.go:29", #[], none⟩) (v := (.int .i64 v)) rfl (by kernel_rfl) (by kernel_rfl) (by kernel_rfl) (fun _ _ _ h => h) (Or.inl ⟨by rfl, fun _ _ => by rfl⟩) hHeld ?_
  simp only [Act.put, List.setIfInBounds_toArray, List.set_cons_zero, List.set_cons_succ]
  refine wpAnyH_ready (rs := [11, 14]) (by kernel_rfl) (by simp) ?_
  refine AllReadyH.cons (o := ⟨some 42, .load 40 (.tmp 41), 40, "queue.go:29", #[⟨10, .data⟩], none⟩) rfl (fun KK hK => ?_) (AllReadyH.cons (o := ⟨some 45, .buildSlice 40 1 #[(0, .tmp 44)], 40, "queue.go:29", #[⟨13, .data⟩], none⟩) rfl (fun KK hK => ?_) (AllReadyH.nil))
  · have e1 := (HF.out _ b1).1
    go_simp
    refine hK.out _ _ (HF.out _ b1).2.1 (fun hHeld => ?_)
    clear hK KK
    try simp only [Act.put, List.setIfInBounds_toArray, List.set_cons_zero, List.set_cons_succ]
    refine wpAnyH_ready (rs := [12, 14]) (by kernel_rfl) (by simp) ?_
    refine AllReadyH.cons (o := ⟨some 43, .call ⟨.value (.func 40), #[.tmp 42], #[40]⟩, 40, "queue.go:29", #[⟨11, .data⟩], none⟩) rfl (fun KK hK => ?_) (AllReadyH.cons (o := ⟨some 45, .buildSlice 40 1 #[(0, .tmp 44)], 40, "queue.go:29", #[⟨13, .data⟩], none⟩) rfl (fun KK hK => ?_) (AllReadyH.nil))
    · go_simp
      refine (ints_any ao m cap L[c] W0.drew (HLi.out _ b1) (by omega)).mono ?_
      rintro e wI ⟨vI, rfl, oI, bI⟩
      obtain ⟨aI, cI, rfl⟩ := own_slice oI
      have hsz := b1.size
      have bJ : Below w.heap.size w wI := b1.trans (bI.mono hsz)
      have oJ : wI.ownsRow w.heap.size 3 1 (.slice aI m cI) m (L[c].map (Value.int .i64)) := ownsRow_mono oI hsz
      have FI := HF.out wI bJ
      have i3 := FI.2.1
      clear FI
      clear oI bI hsz
      go_wp2_with fail
      refine hK.out _ _ i3 (fun hHeld => ?_)
      clear hK KK
      try simp only [Act.put, List.setIfInBounds_toArray, List.set_cons_zero, List.set_cons_succ]
      refine wpAnyH_ready (rs := [14]) (by kernel_rfl) (by simp) ?_
      refine AllReadyH.cons (o := ⟨some 45, .buildSlice 40 1 #[(0, .tmp 44)], 40, "queue.go:29", #[⟨13, .data⟩], none⟩) rfl (fun KK hK => ?_) (AllReadyH.nil)
      have hFA := HF.out (wI.alloc (.cells #[.int .i64 v] 3)) (bJ.alloc bJ.size _)
      have j3 := hFA.2.1
      clear hFA
      go_simp
      refine hK.out _ _ j3 (fun hHeld => ?_)
      clear hK KK
      try simp only [Act.put, List.setIfInBounds_toArray, List.set_cons_zero, List.set_cons_succ]
      refine wpAnyH_ready (rs := [15]) (by kernel_rfl) (by simp) ?_
      refine AllReadyH.cons (o := ⟨some 46, .call ⟨.builtin .append, #[.tmp 43, .tmp 45], #[40, 40]⟩, 40, "queue.go:29", #[⟨12, .data⟩, ⟨14, .data⟩, ⟨12, .chain⟩], none⟩) rfl (fun KK hK => ?_) (AllReadyH.nil)
      refine step_append_lies _ rfl _ _ 40 rfl 0 3 i0 (.int .i64 0) 1 8 Try.underlying40 hi hz0 hz1 hz2 rfl (by decide) _ m _ rfl (World.ownsRow.alloc (ownsRow_mono oJ (Nat.zero_le _)) _) ⟨wI.heap.size, 0, none⟩ 1 1 [.int .i64 v] rfl rfl (cell_one_new _ _ _) (by intro u hu; simp at hu; subst hu; rfl) (by decide) (by unfold maxLen; omega) (by omega) (Nat.zero_le _) _ rfl ?_
      intro gC cC wC hoC hgC hatC hltC
      have bC : Below w.heap.size w wC := (bJ.alloc bJ.size _).grown hgC (by have := bJ.size; simp; omega) (fun k hk => own_ge oJ hk)
      have hge : w.heap.size ≤ gC := hatC.elim (fun q => own_ge oJ q) (fun q => by have := bJ.size; simp at q; omega)
      have F3 := HF.out wC bC
      have f3 := F3.1
      have q3 := F3.2.1
      have z3 := F3.2.2
      clear F3
      refine hK.out _ _ q3 (fun hHeld => ?_)
      clear hK KK
      try simp only [Act.put, List.setIfInBounds_toArray, List.set_cons_zero, List.set_cons_succ]
      refine wpAnyH_take (i := 16) (oi := ⟨some 47, .indexAddr 67 (.tmp 34) (.tmp 35), 0, "queue.go:29", #[⟨3, .data⟩, ⟨4, .data⟩, ⟨0, .phase⟩, ⟨1, .phase⟩, ⟨2, .phase⟩, ⟨3, .phase⟩, ⟨4, .phase⟩, ⟨5, .phase⟩, ⟨6, .phase⟩, ⟨7, .phase⟩, ⟨8, .phase⟩, ⟨9, .phase⟩, ⟨10, .phase⟩, ⟨11, .phase⟩, ⟨12, .phase⟩, ⟨13, .phase⟩, ⟨14, .phase⟩, ⟨15, .phase⟩], none⟩) (v := (.pointer (some ⟨wb, c, none⟩))) rfl (by kernel_rfl) (by kernel_rfl) (by kernel_rfl) (fun _ _ _ h => h) (Or.inl ⟨by rfl, fun w' h' => by unfold execOp; go_simp⟩) hHeld ?_
      simp only [Act.put, List.setIfInBounds_toArray, List.set_cons_zero, List.set_cons_succ]
      refine wpAnyH_ready (rs := [17]) (by kernel_rfl) (by simp) ?_
      refine AllReadyH.cons (o := ⟨none, .store 40 (.tmp 47) (.tmp 46), 0, "queue.go:29", #[⟨16, .data⟩, ⟨15, .data⟩, ⟨15, .chain⟩, ⟨0, .phase⟩, ⟨1, .phase⟩, ⟨2, .phase⟩, ⟨3, .phase⟩, ⟨4, .phase⟩, ⟨5, .phase⟩, ⟨6, .phase⟩, ⟨7, .phase⟩, ⟨8, .phase⟩, ⟨9, .phase⟩, ⟨10, .phase⟩, ⟨11, .phase⟩, ⟨12, .phase⟩, ⟨13, .phase⟩, ⟨14, .phase⟩, ⟨15, .phase⟩], none⟩) rfl (fun KK hK => ?_) (AllReadyH.nil)
      have k9 : (wC.setCell ⟨wb, c, none⟩ (.slice (some ⟨gC, 0, none⟩) (m + 1) cC)).cell? ⟨qb, 0, none⟩ = some (.slice (some ⟨wb, 0, none⟩) n n) := (World.cell?_of_block (w := wC) (a := ⟨qb, 0, none⟩) ((Turns.cell wC wb c _).block qb (World.block_lt_of_cell? wC _ q3) hqw)).trans q3
      go_simp
      refine hK.out _ _ k9 (fun hHeld => ?_)
      clear hK KK
      try simp only [Act.put, List.setIfInBounds_toArray, List.set_cons_zero, List.set_cons_succ]
      refine wpAnyH_done (by kernel_rfl) ?_ _
      clear f3 z3 q3 k9 hHeld
      go_wp2_with fail
      go_ret
      have h := HH.out
      have hE : (L[c] ++ [v]).length = m + 1 := by simp [HM.out]
      have hS := h.stored c hc (.slice (some ⟨gC, 0, none⟩) (m + 1) cC) (L[c] ++ [v]) (Below.turns bC _) (by
        rw [hE, show (L[c] ++ [v]).flatMap KR.cs = (L[c] ++ [v]).map (Value.int .i64) from flatI _]
        show wC.ownsRow 0 3 1 _ _ _
        simpa using hoC) (fun b hb => by
        cases hb
        exact Or.inr hge) (by omega)
      exact ⟨rfl, hS.1, hS.2⟩
    · go_simp
      refine hK.out _ _ (HF.out _ bA).2.1 (fun hHeld => ?_)
      clear hK KK
      try simp only [Act.put, List.setIfInBounds_toArray, List.set_cons_zero, List.set_cons_succ]
      refine wpAnyH_ready (rs := [12]) (by kernel_rfl) (by simp) ?_
      refine AllReadyH.cons (o := ⟨some 43, .call ⟨.value (.func 40), #[.tmp 42], #[40]⟩, 40, "queue.go:29", #[⟨11, .data⟩], none⟩) rfl (fun KK hK => ?_) (AllReadyH.nil)
      go_simp
      refine (ints_any ao m cap L[c] (W0.drew.alloc (.cells #[.int .i64 v] 3)) (HLi.out _ bA) (by omega)).mono ?_
      rintro e wI ⟨vI, rfl, oI, bI⟩
      obtain ⟨aI, cI, rfl⟩ := own_slice oI
      have hsz := bA.size
      have bJ : Below w.heap.size w wI := bA.trans (bI.mono hsz)
      have oJ : wI.ownsRow w.heap.size 3 1 (.slice aI m cI) m (L[c].map (Value.int .i64)) := ownsRow_mono oI hsz
      have FI := HF.out wI bJ
      have i3 := FI.2.1
      clear FI
      have hnI : ∀ j u, [Value.int .i64 v][j]? = some u → wI.cell? ((⟨W0.heap.size, 0, none⟩ : Addr).add j) = some u := fun j u hu => (bI.cell (World.block_lt_of_cell? _ _ (HX.out j u hu))).trans (HX.out j u hu)
      clear oI bI hsz
      go_wp2_with fail
      refine hK.out _ _ i3 (fun hHeld => ?_)
      clear hK KK
      try simp only [Act.put, List.setIfInBounds_toArray, List.set_cons_zero, List.set_cons_succ]
      refine wpAnyH_ready (rs := [15]) (by kernel_rfl) (by simp) ?_
      refine AllReadyH.cons (o := ⟨some 46, .call ⟨.builtin .append, #[.tmp 43, .tmp 45], #[40, 40]⟩, 40, "queue.go:29", #[⟨12, .data⟩, ⟨14, .data⟩, ⟨12, .chain⟩], none⟩) rfl (fun KK hK => ?_) (AllReadyH.nil)
      refine step_append_lies _ rfl _ _ 40 rfl 0 3 i0 (.int .i64 0) 1 8 Try.underlying40 hi hz0 hz1 hz2 rfl (by decide) _ m _ rfl (ownsRow_mono oJ (Nat.zero_le _)) ⟨W0.heap.size, 0, none⟩ 1 1 [.int .i64 v] rfl rfl hnI (by intro u hu; simp at hu; subst hu; rfl) (by decide) (by unfold maxLen; omega) (by omega) (Nat.zero_le _) _ rfl ?_
      intro gC cC wC hoC hgC hatC hltC
      have bC : Below w.heap.size w wC := bJ.grown hgC bJ.size (fun k hk => own_ge oJ hk)
      have hge : w.heap.size ≤ gC := hatC.elim (fun q => own_ge oJ q) (fun q => by have := bJ.size; omega)
      have F3 := HF.out wC bC
      have f3 := F3.1
      have q3 := F3.2.1
      have z3 := F3.2.2
      clear F3
      refine hK.out _ _ q3 (fun hHeld => ?_)
      clear hK KK
      try simp only [Act.put, List.setIfInBounds_toArray, List.set_cons_zero, List.set_cons_succ]
      refine wpAnyH_take (i := 16) (oi := ⟨some 47, .indexAddr 67 (.tmp 34) (.tmp 35), 0, "queue.go:29", #[⟨3, .data⟩, ⟨4, .data⟩, ⟨0, .phase⟩, ⟨1, .phase⟩, ⟨2, .phase⟩, ⟨3, .phase⟩, ⟨4, .phase⟩, ⟨5, .phase⟩, ⟨6, .phase⟩, ⟨7, .phase⟩, ⟨8, .phase⟩, ⟨9, .phase⟩, ⟨10, .phase⟩, ⟨11, .phase⟩, ⟨12, .phase⟩, ⟨13, .phase⟩, ⟨14, .phase⟩, ⟨15, .phase⟩], none⟩) (v := (.pointer (some ⟨wb, c, none⟩))) rfl (by kernel_rfl) (by kernel_rfl) (by kernel_rfl) (fun _ _ _ h => h) (Or.inl ⟨by rfl, fun w' h' => by unfold execOp; go_simp⟩) hHeld ?_
      simp only [Act.put, List.setIfInBounds_toArray, List.set_cons_zero, List.set_cons_succ]
      refine wpAnyH_ready (rs := [17]) (by kernel_rfl) (by simp) ?_
      refine AllReadyH.cons (o := ⟨none, .store 40 (.tmp 47) (.tmp 46), 0, "queue.go:29", #[⟨16, .data⟩, ⟨15, .data⟩, ⟨15, .chain⟩, ⟨0, .phase⟩, ⟨1, .phase⟩, ⟨2, .phase⟩, ⟨3, .phase⟩, ⟨4, .phase⟩, ⟨5, .phase⟩, ⟨6, .phase⟩, ⟨7, .phase⟩, ⟨8, .phase⟩, ⟨9, .phase⟩, ⟨10, .phase⟩, ⟨11, .phase⟩, ⟨12, .phase⟩, ⟨13, .phase⟩, ⟨14, .phase⟩, ⟨15, .phase⟩], none⟩) rfl (fun KK hK => ?_) (AllReadyH.nil)
      have k9 : (wC.setCell ⟨wb, c, none⟩ (.slice (some ⟨gC, 0, none⟩) (m + 1) cC)).cell? ⟨qb, 0, none⟩ = some (.slice (some ⟨wb, 0, none⟩) n n) := (World.cell?_of_block (w := wC) (a := ⟨qb, 0, none⟩) ((Turns.cell wC wb c _).block qb (World.block_lt_of_cell? wC _ q3) hqw)).trans q3
      go_simp
      refine hK.out _ _ k9 (fun hHeld => ?_)
      clear hK KK
      try simp only [Act.put, List.setIfInBounds_toArray, List.set_cons_zero, List.set_cons_succ]
      refine wpAnyH_done (by kernel_rfl) ?_ _
      clear f3 z3 q3 k9 hHeld
      go_wp2_with fail
      go_ret
      have h := HH.out
      have hE : (L[c] ++ [v]).length = m + 1 := by simp [HM.out]
      have hS := h.stored c hc (.slice (some ⟨gC, 0, none⟩) (m + 1) cC) (L[c] ++ [v]) (Below.turns bC _) (by
        rw [hE, show (L[c] ++ [v]).flatMap KR.cs = (L[c] ++ [v]).map (Value.int .i64) from flatI _]
        show wC.ownsRow 0 3 1 _ _ _
        simpa using hoC) (fun b hb => by
        cases hb
        exact Or.inr hge) (by omega)
      exact ⟨rfl, hS.1, hS.2⟩
  · go_simp
    refine hK.out _ _ (HF.out _ bA).2.1 (fun hHeld => ?_)
    clear hK KK
    try simp only [Act.put, List.setIfInBounds_toArray, List.set_cons_zero, List.set_cons_succ]
    refine wpAnyH_ready (rs := [11]) (by kernel_rfl) (by simp) ?_
    refine AllReadyH.cons (o := ⟨some 42, .load 40 (.tmp 41), 40, "queue.go:29", #[⟨10, .data⟩], none⟩) rfl (fun KK hK => ?_) (AllReadyH.nil)
    have e1 : (W0.alloc (.cells #[.int .i64 v] 3)).drew.cell? ⟨wb, c, none⟩ = some (.slice ao m cap) := (HF.out _ bA).1
    go_simp
    refine hK.out _ _ (HF.out _ bA).2.1 (fun hHeld => ?_)
    clear hK KK
    try simp only [Act.put, List.setIfInBounds_toArray, List.set_cons_zero, List.set_cons_succ]
    refine wpAnyH_ready (rs := [12]) (by kernel_rfl) (by simp) ?_
    refine AllReadyH.cons (o := ⟨some 43, .call ⟨.value (.func 40), #[.tmp 42], #[40]⟩, 40, "queue.go:29", #[⟨11, .data⟩], none⟩) rfl (fun KK hK => ?_) (AllReadyH.nil)
    go_simp
    refine (ints_any ao m cap L[c] (W0.drew.alloc (.cells #[.int .i64 v] 3)) (HLi.out _ bA) (by omega)).mono ?_
    rintro e wI ⟨vI, rfl, oI, bI⟩
    obtain ⟨aI, cI, rfl⟩ := own_slice oI
    have hsz := bA.size
    have bJ : Below w.heap.size w wI := bA.trans (bI.mono hsz)
    have oJ : wI.ownsRow w.heap.size 3 1 (.slice aI m cI) m (L[c].map (Value.int .i64)) := ownsRow_mono oI hsz
    have FI := HF.out wI bJ
    have i3 := FI.2.1
    clear FI
    have hnI : ∀ j u, [Value.int .i64 v][j]? = some u → wI.cell? ((⟨W0.heap.size, 0, none⟩ : Addr).add j) = some u := fun j u hu => (bI.cell (World.block_lt_of_cell? _ _ (HX.out j u hu))).trans (HX.out j u hu)
    clear oI bI hsz
    go_wp2_with fail
    refine hK.out _ _ i3 (fun hHeld => ?_)
    clear hK KK
    try simp only [Act.put, List.setIfInBounds_toArray, List.set_cons_zero, List.set_cons_succ]
    refine wpAnyH_ready (rs := [15]) (by kernel_rfl) (by simp) ?_
    refine AllReadyH.cons (o := ⟨some 46, .call ⟨.builtin .append, #[.tmp 43, .tmp 45], #[40, 40]⟩, 40, "queue.go:29", #[⟨12, .data⟩, ⟨14, .data⟩, ⟨12, .chain⟩], none⟩) rfl (fun KK hK => ?_) (AllReadyH.nil)
    refine step_append_lies _ rfl _ _ 40 rfl 0 3 i0 (.int .i64 0) 1 8 Try.underlying40 hi hz0 hz1 hz2 rfl (by decide) _ m _ rfl (ownsRow_mono oJ (Nat.zero_le _)) ⟨W0.heap.size, 0, none⟩ 1 1 [.int .i64 v] rfl rfl hnI (by intro u hu; simp at hu; subst hu; rfl) (by decide) (by unfold maxLen; omega) (by omega) (Nat.zero_le _) _ rfl ?_
    intro gC cC wC hoC hgC hatC hltC
    have bC : Below w.heap.size w wC := bJ.grown hgC bJ.size (fun k hk => own_ge oJ hk)
    have hge : w.heap.size ≤ gC := hatC.elim (fun q => own_ge oJ q) (fun q => by have := bJ.size; omega)
    have F3 := HF.out wC bC
    have f3 := F3.1
    have q3 := F3.2.1
    have z3 := F3.2.2
    clear F3
    refine hK.out _ _ q3 (fun hHeld => ?_)
    clear hK KK
    try simp only [Act.put, List.setIfInBounds_toArray, List.set_cons_zero, List.set_cons_succ]
    refine wpAnyH_take (i := 16) (oi := ⟨some 47, .indexAddr 67 (.tmp 34) (.tmp 35), 0, "queue.go:29", #[⟨3, .data⟩, ⟨4, .data⟩, ⟨0, .phase⟩, ⟨1, .phase⟩, ⟨2, .phase⟩, ⟨3, .phase⟩, ⟨4, .phase⟩, ⟨5, .phase⟩, ⟨6, .phase⟩, ⟨7, .phase⟩, ⟨8, .phase⟩, ⟨9, .phase⟩, ⟨10, .phase⟩, ⟨11, .phase⟩, ⟨12, .phase⟩, ⟨13, .phase⟩, ⟨14, .phase⟩, ⟨15, .phase⟩], none⟩) (v := (.pointer (some ⟨wb, c, none⟩))) rfl (by kernel_rfl) (by kernel_rfl) (by kernel_rfl) (fun _ _ _ h => h) (Or.inl ⟨by rfl, fun w' h' => by unfold execOp; go_simp⟩) hHeld ?_
    simp only [Act.put, List.setIfInBounds_toArray, List.set_cons_zero, List.set_cons_succ]
    refine wpAnyH_ready (rs := [17]) (by kernel_rfl) (by simp) ?_
    refine AllReadyH.cons (o := ⟨none, .store 40 (.tmp 47) (.tmp 46), 0, "queue.go:29", #[⟨16, .data⟩, ⟨15, .data⟩, ⟨15, .chain⟩, ⟨0, .phase⟩, ⟨1, .phase⟩, ⟨2, .phase⟩, ⟨3, .phase⟩, ⟨4, .phase⟩, ⟨5, .phase⟩, ⟨6, .phase⟩, ⟨7, .phase⟩, ⟨8, .phase⟩, ⟨9, .phase⟩, ⟨10, .phase⟩, ⟨11, .phase⟩, ⟨12, .phase⟩, ⟨13, .phase⟩, ⟨14, .phase⟩, ⟨15, .phase⟩], none⟩) rfl (fun KK hK => ?_) (AllReadyH.nil)
    have k9 : (wC.setCell ⟨wb, c, none⟩ (.slice (some ⟨gC, 0, none⟩) (m + 1) cC)).cell? ⟨qb, 0, none⟩ = some (.slice (some ⟨wb, 0, none⟩) n n) := (World.cell?_of_block (w := wC) (a := ⟨qb, 0, none⟩) ((Turns.cell wC wb c _).block qb (World.block_lt_of_cell? wC _ q3) hqw)).trans q3
    go_simp
    refine hK.out _ _ k9 (fun hHeld => ?_)
    clear hK KK
    try simp only [Act.put, List.setIfInBounds_toArray, List.set_cons_zero, List.set_cons_succ]
    refine wpAnyH_done (by kernel_rfl) ?_ _
    clear f3 z3 q3 k9 hHeld
    go_wp2_with fail
    go_ret
    have h := HH.out
    have hE : (L[c] ++ [v]).length = m + 1 := by simp [HM.out]
    have hS := h.stored c hc (.slice (some ⟨gC, 0, none⟩) (m + 1) cC) (L[c] ++ [v]) (Below.turns bC _) (by
      rw [hE, show (L[c] ++ [v]).flatMap KR.cs = (L[c] ++ [v]).map (Value.int .i64) from flatI _]
      show wC.ownsRow 0 3 1 _ _ _
      simpa using hoC) (fun b hb => by
      cases hb
      exact Or.inr hge) (by omega)
    exact ⟨rfl, hS.1, hS.2⟩

end Go.Proofs.Ytkfdneohkgmmbaa
