/- The program's Show, kind by kind. (Written by mkW17.py.) -/
import Derived.Test.YtjkmdacgiebbfaaDoorW16
namespace Go.Proofs.YtjkmdacgiebbfaaDoor
open Go.RowKit Go.Sort
set_option maxRecDepth 100000

set_option maxHeartbeats 4000000 in
theorem showP_1 (e : Ev) (hk : e.kind = 1) (w : World) (hE : e.Ok w) (hG : Gl w) : Calls Tryd.prog 4 #[e.val] w fun r w' => r = .returned (.string (tx e.line)) ∧ Below w.heap.size w w' := by
  have hX := EBx.new w e
  have b1 : Below w.heap.size w (w.alloc (.cells e.vals 38)) := (Below.refl _ w).alloc (Nat.le_refl _) _
  have d0 := hX.cell 0 (.int .i64 e.kind) rfl
  rw [hk] at d0
  have hv : e.vals.size = 36 := rfl
  have hr1 : (w.alloc (.cells e.vals 38)).heap.size = w.heap.size + 1 := by simp
  obtain ⟨ia, ik, im, ic, i1, i2, i3, i4, i5, i6, i7, i8⟩ := hE.ints
  have hwI : ∀ x ∈ [e.a, e.k, e.code], isI x := by
    intro x hx
    simp only [List.mem_cons, List.not_mem_nil, or_false] at hx
    rcases hx with rfl | rfl | rfl <;> assumption
  have hnl := numsT_len [e.a, e.k, e.code] hwI
  simp only [List.length_cons, List.length_nil] at hnl
  have hw : ∀ W' ad, Below w.heap.size w W' → IntsAt W' ad [e.a, e.k, e.code] → Calls Tryd.prog 6 #[.string ⟨#[114, 101, 102, 117, 115, 101, 100]⟩, .slice (some ad) 3 3] W' fun r w'' => r = .returned (.string (tx (wRef ++ numsT [e.a, e.k, e.code]))) ∧ Below W'.heap.size W' w'' := fun W' ad hb hA => words_any ⟨#[114, 101, 102, 117, 115, 101, 100]⟩ [e.a, e.k, e.code] ad 3 W' (hG.here hb) (by decide) hwI (by show 3 ≤ 1000; decide) hA
  have ht1 : (wRef ++ numsT [e.a, e.k, e.code]).length ≤ 7 + 22 * 3 := by rw [List.length_append]; simp only [wRef, List.length_cons, List.length_nil]; omega
  have hL : e.line = wRef ++ numsT [e.a, e.k, e.code] := by unfold Ev.line; rw [hk]; rfl
  generalize wRef ++ numsT [e.a, e.k, e.code] = T1 at *
  rw [hL]
  have d1 := hX.cell 1 (.int .i64 e.a) rfl
  have d2 := hX.cell 2 (.int .i64 e.k) rfl
  have d4 := hX.cell 4 (.int .i64 e.code) rfl
  have hXl := hX.lt
  generalize hw1 : w.alloc (.cells e.vals 38) = w1 at *
  have hR := hw (w1.alloc (.cells #[.int .i64 e.a, .int .i64 e.k, .int .i64 e.code] 3)) ⟨w.heap.size + 1, 0, none⟩ (b1.alloc (by omega) _) (by rw [← hr1]; exact ints_new w1 [e.a, e.k, e.code] 3)
  have HB1 := Lib.hid (b1.alloc (by omega) (.cells #[.int .i64 e.a, .int .i64 e.k, .int .i64 e.code] 3))
  clear b1 hX hE hG hw
  unfold Ev.val
  go_enter Tryd.func4, Tryd.ntmps4
  go_wp2_with fail
  refine hR.mono ?_
  rintro r w5 ⟨rfl, b5⟩
  clear hR
  go_wp2_with fail
  go_ret
  exact ⟨rfl, HB1.out.trans (b5.mono HB1.out.size)⟩

set_option maxHeartbeats 4000000 in
theorem showP_2 (e : Ev) (hk : e.kind = 2) (w : World) (hE : e.Ok w) (hG : Gl w) : Calls Tryd.prog 4 #[e.val] w fun r w' => r = .returned (.string (tx e.line)) ∧ Below w.heap.size w w' := by
  have hX := EBx.new w e
  have b1 : Below w.heap.size w (w.alloc (.cells e.vals 38)) := (Below.refl _ w).alloc (Nat.le_refl _) _
  have d0 := hX.cell 0 (.int .i64 e.kind) rfl
  rw [hk] at d0
  have hv : e.vals.size = 36 := rfl
  have hr1 : (w.alloc (.cells e.vals 38)).heap.size = w.heap.size + 1 := by simp
  obtain ⟨ia, ik, im, ic, i1, i2, i3, i4, i5, i6, i7, i8⟩ := hE.ints
  have hwI : ∀ x ∈ [e.a, e.k], isI x := by
    intro x hx
    simp only [List.mem_cons, List.not_mem_nil, or_false] at hx
    rcases hx with rfl | rfl <;> assumption
  have hnl := numsT_len [e.a, e.k] hwI
  simp only [List.length_cons, List.length_nil] at hnl
  have hw : ∀ W' ad, Below w.heap.size w W' → IntsAt W' ad [e.a, e.k] → Calls Tryd.prog 6 #[.string ⟨#[115, 116, 97, 114, 116, 101, 100]⟩, .slice (some ad) 2 2] W' fun r w'' => r = .returned (.string (tx (wSta ++ numsT [e.a, e.k]))) ∧ Below W'.heap.size W' w'' := fun W' ad hb hA => words_any ⟨#[115, 116, 97, 114, 116, 101, 100]⟩ [e.a, e.k] ad 2 W' (hG.here hb) (by decide) hwI (by show 2 ≤ 1000; decide) hA
  have ht1 : (wSta ++ numsT [e.a, e.k]).length ≤ 7 + 22 * 2 := by rw [List.length_append]; simp only [wSta, List.length_cons, List.length_nil]; omega
  have h2 : ∀ W', Below w.heap.size w W' → Calls Tryd.prog 7 #[.agg #[.int .i64 e.call.op, .int .i64 e.call.h, .int .i64 e.call.h2, .int .i64 e.call.off, .int .i64 e.call.len, .string e.call.path, .string e.call.name, .string e.call.name2, e.call.dv]] W' fun r w'' => r = .returned (.string (tx (e.call.told))) ∧ Below W'.heap.size W' w'' := fun W' hb => wcall_any e.call hE.csm hE.cby hE.cin W' (hE.cli.below hb) (hG.here hb)
  have hsl := told_len e.call hE.csm hE.cin
  have hL : e.line = ((wSta ++ numsT [e.a, e.k]) ++ [32]) ++ e.call.told := by unfold Ev.line; rw [hk]; show (wSta ++ numsT [e.a, e.k]) ++ 32 :: e.call.told = _; rw [List.append_assoc (wSta ++ numsT [e.a, e.k])]; rfl
  have hsl3 : (e.call.told).length ≤ 5000000000000 := by omega
  generalize (e.call.told) = SC at *
  generalize wSta ++ numsT [e.a, e.k] = T1 at *
  have k1 := cat_l T1 ⟨#[32]⟩ (by rw [show (⟨#[32]⟩ : ByteArray).size = 1 from rfl]; omega)
  rw [show bs ⟨#[32]⟩ = [32] from rfl] at k1
  have ht2 : (T1 ++ [32]).length ≤ 200 := by rw [List.length_append, List.length_singleton]; omega
  generalize T1 ++ [32] = T2 at *
  have k2 := cat_tx T2 SC (by omega)
  generalize T2 ++ SC = T3 at *
  rw [hL]
  have d1 := hX.cell 1 (.int .i64 e.a) rfl
  have d2 := hX.cell 2 (.int .i64 e.k) rfl
  have d5 := hX.cell 5 (.int .i64 e.call.op) rfl
  have d6 := hX.cell 6 (.int .i64 e.call.h) rfl
  have d7 := hX.cell 7 (.int .i64 e.call.h2) rfl
  have d8 := hX.cell 8 (.int .i64 e.call.off) rfl
  have d9 := hX.cell 9 (.int .i64 e.call.len) rfl
  have d10 := hX.cell 10 (.string e.call.path) rfl
  have d11 := hX.cell 11 (.string e.call.name) rfl
  have d12 := hX.cell 12 (.string e.call.name2) rfl
  have d13 := hX.cell 13 (e.call.dv) rfl
  have hXl := hX.lt
  generalize hw1 : w.alloc (.cells e.vals 38) = w1 at *
  have kc : ∀ W', Below w1.heap.size w1 W' → W'.cell? ⟨w.heap.size, 1, none⟩ = some (.int .i64 e.a) ∧ W'.cell? ⟨w.heap.size, 2, none⟩ = some (.int .i64 e.k) ∧ W'.cell? ⟨w.heap.size, 5, none⟩ = some (.int .i64 e.call.op) ∧ W'.cell? ⟨w.heap.size, 6, none⟩ = some (.int .i64 e.call.h) ∧ W'.cell? ⟨w.heap.size, 7, none⟩ = some (.int .i64 e.call.h2) ∧ W'.cell? ⟨w.heap.size, 8, none⟩ = some (.int .i64 e.call.off) ∧ W'.cell? ⟨w.heap.size, 9, none⟩ = some (.int .i64 e.call.len) ∧ W'.cell? ⟨w.heap.size, 10, none⟩ = some (.string e.call.path) ∧ W'.cell? ⟨w.heap.size, 11, none⟩ = some (.string e.call.name) ∧ W'.cell? ⟨w.heap.size, 12, none⟩ = some (.string e.call.name2) ∧ W'.cell? ⟨w.heap.size, 13, none⟩ = some (e.call.dv) := fun W' hb => ⟨(hb.cell (p := ⟨w.heap.size, 1, none⟩) hXl).trans d1, (hb.cell (p := ⟨w.heap.size, 2, none⟩) hXl).trans d2, (hb.cell (p := ⟨w.heap.size, 5, none⟩) hXl).trans d5, (hb.cell (p := ⟨w.heap.size, 6, none⟩) hXl).trans d6, (hb.cell (p := ⟨w.heap.size, 7, none⟩) hXl).trans d7, (hb.cell (p := ⟨w.heap.size, 8, none⟩) hXl).trans d8, (hb.cell (p := ⟨w.heap.size, 9, none⟩) hXl).trans d9, (hb.cell (p := ⟨w.heap.size, 10, none⟩) hXl).trans d10, (hb.cell (p := ⟨w.heap.size, 11, none⟩) hXl).trans d11, (hb.cell (p := ⟨w.heap.size, 12, none⟩) hXl).trans d12, (hb.cell (p := ⟨w.heap.size, 13, none⟩) hXl).trans d13⟩
  have b2 := b1
  have KC := Lib.hid kc
  have HB2 := Lib.hid b2
  have HW := Lib.hid hw
  have H2 := Lib.hid h2
  clear kc b2 b1 hX hE hG hw h2
  unfold Ev.val
  go_enter Tryd.func4, Tryd.ntmps4
  go_wp2_with fail
  clear d1 d2 d5 d6 d7 d8 d9 d10 d11 d12 d13 d0
  have hbd := (Below.refl w1.heap.size w1).drew
  have hcS := KC.out _ hbd
  refine wp_region_held_drew (S := fun w' => w'.cell? ⟨w.heap.size, 1, none⟩ = some (.int .i64 e.a) ∧ w'.cell? ⟨w.heap.size, 2, none⟩ = some (.int .i64 e.k) ∧ w'.cell? ⟨w.heap.size, 5, none⟩ = some (.int .i64 e.call.op) ∧ w'.cell? ⟨w.heap.size, 6, none⟩ = some (.int .i64 e.call.h) ∧ w'.cell? ⟨w.heap.size, 7, none⟩ = some (.int .i64 e.call.h2) ∧ w'.cell? ⟨w.heap.size, 8, none⟩ = some (.int .i64 e.call.off) ∧ w'.cell? ⟨w.heap.size, 9, none⟩ = some (.int .i64 e.call.len) ∧ w'.cell? ⟨w.heap.size, 10, none⟩ = some (.string e.call.path) ∧ w'.cell? ⟨w.heap.size, 11, none⟩ = some (.string e.call.name) ∧ w'.cell? ⟨w.heap.size, 12, none⟩ = some (.string e.call.name2) ∧ w'.cell? ⟨w.heap.size, 13, none⟩ = some (e.call.dv)) (by kernel_rfl) hcS (fun hHeld => ?_)
  refine wpAnyH_take (i := 0) (oi := ⟨some 18, .fieldAddr 38 (.tmp 1) 1, 0, "world.go:62", #[], none⟩) (v := (.pointer (some ⟨w.heap.size, 1, none⟩))) rfl (by kernel_rfl) (by kernel_rfl) (by kernel_rfl) (fun _ _ _ h => h) (Or.inl ⟨by rfl, fun _ _ => by rfl⟩) hHeld ?_
  simp only [Act.put, List.setIfInBounds_toArray, List.set_cons_zero, List.set_cons_succ]
  refine wpAnyH_take (i := 1) (oi := ⟨some 19, .load 3 (.tmp 18), 3, "world.go:62", #[⟨0, .data⟩], none⟩) (v := (.int .i64 e.a)) rfl (by kernel_rfl) (by kernel_rfl) (by kernel_rfl) (fun _ _ _ h => h) (Or.inl ⟨by rfl, fun w' h' => by have ee := h'.1; unfold execOp; go_simp⟩) hHeld ?_
  simp only [Act.put, List.setIfInBounds_toArray, List.set_cons_zero, List.set_cons_succ]
  refine wpAnyH_take (i := 2) (oi := ⟨some 20, .fieldAddr 38 (.tmp 1) 2, 0, "world.go:62", #[], none⟩) (v := (.pointer (some ⟨w.heap.size, 2, none⟩))) rfl (by kernel_rfl) (by kernel_rfl) (by kernel_rfl) (fun _ _ _ h => h) (Or.inl ⟨by rfl, fun _ _ => by rfl⟩) hHeld ?_
  simp only [Act.put, List.setIfInBounds_toArray, List.set_cons_zero, List.set_cons_succ]
  refine wpAnyH_take (i := 3) (oi := ⟨some 21, .load 3 (.tmp 20), 3, "world.go:62", #[⟨2, .data⟩], none⟩) (v := (.int .i64 e.k)) rfl (by kernel_rfl) (by kernel_rfl) (by kernel_rfl) (fun _ _ _ h => h) (Or.inl ⟨by rfl, fun w' h' => by have ee := h'.2.1; unfold execOp; go_simp⟩) hHeld ?_
  simp only [Act.put, List.setIfInBounds_toArray, List.set_cons_zero, List.set_cons_succ]
  refine wpAnyH_take (i := 7) (oi := ⟨some 25, .fieldAddr 38 (.tmp 1) 5, 0, "world.go:62", #[], none⟩) (v := (.pointer (some ⟨w.heap.size, 5, none⟩))) rfl (by kernel_rfl) (by kernel_rfl) (by kernel_rfl) (fun _ _ _ h => h) (Or.inl ⟨by rfl, fun _ _ => by rfl⟩) hHeld ?_
  simp only [Act.put, List.setIfInBounds_toArray, List.set_cons_zero, List.set_cons_succ]
  refine wpAnyH_take (i := 8) (oi := ⟨some 26, .load 25 (.tmp 25), 25, "world.go:62", #[⟨7, .data⟩], none⟩) (v := (.agg #[.int .i64 e.call.op, .int .i64 e.call.h, .int .i64 e.call.h2, .int .i64 e.call.off, .int .i64 e.call.len, .string e.call.path, .string e.call.name, .string e.call.name2, e.call.dv])) rfl (by kernel_rfl) (by kernel_rfl) (by kernel_rfl) (fun _ _ _ h => h) (Or.inl ⟨by rfl, fun w' h' => by have e0 := h'.2.2.1; have e1 := h'.2.2.2.1; have e2 := h'.2.2.2.2.1; have e3 := h'.2.2.2.2.2.1; have e4 := h'.2.2.2.2.2.2.1; have e5 := h'.2.2.2.2.2.2.2.1; have e6 := h'.2.2.2.2.2.2.2.2.1; have e7 := h'.2.2.2.2.2.2.2.2.2.1; have e8 := h'.2.2.2.2.2.2.2.2.2.2; unfold execOp; go_simp⟩) hHeld ?_
  simp only [Act.put, List.setIfInBounds_toArray, List.set_cons_zero, List.set_cons_succ]
  refine wpAnyH_ready (rs := [4]) (by kernel_rfl) (by simp) ?_
  refine AllReadyH.cons (o := ⟨some 22, .buildSlice 47 2 #[(0, .tmp 19), (1, .tmp 21)], 47, "world.go:62", #[⟨1, .data⟩, ⟨3, .data⟩], none⟩) rfl (fun KK hK => ?_) (AllReadyH.nil)
  go_simp
  have hbA := hbd.alloc hbd.size (.cells #[.int .i64 e.a, .int .i64 e.k] 3)
  have hcA := KC.out _ hbA
  have hia : IntsAt (w1.drew.alloc (.cells #[.int .i64 e.a, .int .i64 e.k] 3)) ⟨w.heap.size + 1, 0, none⟩ [e.a, e.k] := by rw [← hr1]; exact ints_new w1.drew [e.a, e.k] 3
  refine hK.out _ _ hcA (fun hHeld => ?_)
  clear hK KK
  try simp only [Act.put, List.setIfInBounds_toArray, List.set_cons_zero, List.set_cons_succ]
  refine wpAnyH_ready (rs := [5]) (by kernel_rfl) (by simp) ?_
  refine AllReadyH.cons (o := ⟨some 23, .call ⟨.value (.func 6), #[.const (.string { data := #[115, 116, 97, 114, 116, 101, 100] }), .tmp 22], #[9, 47]⟩, 9, "world.go:62", #[⟨4, .data⟩], none⟩) rfl (fun KK hK => ?_) (AllReadyH.nil)
  go_simp
  refine (HW.out _ _ (HB2.out.trans (hbA.mono HB2.out.size)) hia).mono ?_
  rintro r w9 ⟨rfl, b9⟩
  have hb9 := hbA.trans (b9.mono hbA.size)
  have hc9 := KC.out _ hb9
  clear b9 hia
  go_wp2_with fail
  refine hK.out _ _ hc9 (fun hHeld => ?_)
  clear hK KK
  try simp only [Act.put, List.setIfInBounds_toArray, List.set_cons_zero, List.set_cons_succ]
  refine wpAnyH_take (i := 6) (oi := ⟨some 24, .binOp .add 9 (.tmp 23) (.const (.string { data := #[32] })) 9, 9, "world.go:62", #[⟨5, .data⟩], none⟩) (v := (.string (tx T2))) rfl (by kernel_rfl) (by kernel_rfl) (by kernel_rfl) (fun _ _ _ h => h) (Or.inl ⟨by rfl, fun w' h' => by have ee := k1; unfold execOp; go_simp⟩) hHeld ?_
  simp only [Act.put, List.setIfInBounds_toArray, List.set_cons_zero, List.set_cons_succ]
  refine wpAnyH_ready (rs := [9]) (by kernel_rfl) (by simp) ?_
  refine AllReadyH.cons (o := ⟨some 27, .call ⟨.value (.func 7), #[.tmp 26], #[25]⟩, 9, "world.go:62", #[⟨8, .data⟩, ⟨5, .chain⟩], none⟩) rfl (fun KK hK => ?_) (AllReadyH.nil)
  go_simp
  refine (H2.out _ (HB2.out.trans (hb9.mono HB2.out.size))).mono ?_
  rintro r w10 ⟨rfl, b10⟩
  have hb10 := hb9.trans (b10.mono hb9.size)
  have hc10 := KC.out _ hb10
  clear b10
  go_wp2_with fail
  refine hK.out _ _ hc10 (fun hHeld => ?_)
  clear hK KK
  try simp only [Act.put, List.setIfInBounds_toArray, List.set_cons_zero, List.set_cons_succ]
  refine wpAnyH_take (i := 10) (oi := ⟨some 28, .binOp .add 9 (.tmp 24) (.tmp 27) 9, 9, "world.go:62", #[⟨6, .data⟩, ⟨9, .data⟩], none⟩) (v := (.string (tx T3))) rfl (by kernel_rfl) (by kernel_rfl) (by kernel_rfl) (fun _ _ _ h => h) (Or.inl ⟨by rfl, fun w' h' => by have ee := k2; unfold execOp; go_simp⟩) hHeld ?_
  simp only [Act.put, List.setIfInBounds_toArray, List.set_cons_zero, List.set_cons_succ]
  refine wpAnyH_take (i := 11) (oi := ⟨some 2, .assign (.tmp 28), 9, "world.go:62", #[⟨10, .data⟩, ⟨9, .chain⟩, ⟨0, .phase⟩, ⟨1, .phase⟩, ⟨2, .phase⟩, ⟨3, .phase⟩, ⟨4, .phase⟩, ⟨5, .phase⟩, ⟨6, .phase⟩, ⟨7, .phase⟩, ⟨8, .phase⟩, ⟨9, .phase⟩, ⟨10, .phase⟩], none⟩) (v := (.string (tx T3))) rfl (by kernel_rfl) (by kernel_rfl) (by kernel_rfl) (fun _ _ _ h => h) (Or.inl ⟨by rfl, fun _ _ => by rfl⟩) hHeld ?_
  simp only [Act.put, List.setIfInBounds_toArray, List.set_cons_zero, List.set_cons_succ]
  refine wpAnyH_done (by kernel_rfl) ?_ _
  have HB10 := Lib.hid (HB2.out.trans (hb10.mono HB2.out.size))
  clear hb10 hc10
  go_wp2_with fail
  go_ret
  exact ⟨rfl, HB10.out⟩

set_option maxHeartbeats 4000000 in
theorem showP_3 (e : Ev) (hk : e.kind = 3) (w : World) (hE : e.Ok w) (hG : Gl w) : Calls Tryd.prog 4 #[e.val] w fun r w' => r = .returned (.string (tx e.line)) ∧ Below w.heap.size w w' := by
  have hX := EBx.new w e
  have b1 : Below w.heap.size w (w.alloc (.cells e.vals 38)) := (Below.refl _ w).alloc (Nat.le_refl _) _
  have d0 := hX.cell 0 (.int .i64 e.kind) rfl
  rw [hk] at d0
  have hv : e.vals.size = 36 := rfl
  have hr1 : (w.alloc (.cells e.vals 38)).heap.size = w.heap.size + 1 := by simp
  obtain ⟨ia, ik, im, ic, i1, i2, i3, i4, i5, i6, i7, i8⟩ := hE.ints
  have hwI : ∀ x ∈ [e.a, e.k], isI x := by
    intro x hx
    simp only [List.mem_cons, List.not_mem_nil, or_false] at hx
    rcases hx with rfl | rfl <;> assumption
  have hnl := numsT_len [e.a, e.k] hwI
  simp only [List.length_cons, List.length_nil] at hnl
  have hw : ∀ W' ad, Below w.heap.size w W' → IntsAt W' ad [e.a, e.k] → Calls Tryd.prog 6 #[.string ⟨#[115, 101, 110, 116]⟩, .slice (some ad) 2 2] W' fun r w'' => r = .returned (.string (tx (wSen ++ numsT [e.a, e.k]))) ∧ Below W'.heap.size W' w'' := fun W' ad hb hA => words_any ⟨#[115, 101, 110, 116]⟩ [e.a, e.k] ad 2 W' (hG.here hb) (by decide) hwI (by show 2 ≤ 1000; decide) hA
  have ht1 : (wSen ++ numsT [e.a, e.k]).length ≤ 4 + 22 * 2 := by rw [List.length_append]; simp only [wSen, List.length_cons, List.length_nil]; omega
  have hL : e.line = wSen ++ numsT [e.a, e.k] := by unfold Ev.line; rw [hk]; rfl
  generalize wSen ++ numsT [e.a, e.k] = T1 at *
  rw [hL]
  have d1 := hX.cell 1 (.int .i64 e.a) rfl
  have d2 := hX.cell 2 (.int .i64 e.k) rfl
  have hXl := hX.lt
  generalize hw1 : w.alloc (.cells e.vals 38) = w1 at *
  have hR := hw (w1.alloc (.cells #[.int .i64 e.a, .int .i64 e.k] 3)) ⟨w.heap.size + 1, 0, none⟩ (b1.alloc (by omega) _) (by rw [← hr1]; exact ints_new w1 [e.a, e.k] 3)
  have HB1 := Lib.hid (b1.alloc (by omega) (.cells #[.int .i64 e.a, .int .i64 e.k] 3))
  clear b1 hX hE hG hw
  unfold Ev.val
  go_enter Tryd.func4, Tryd.ntmps4
  go_wp2_with fail
  refine hR.mono ?_
  rintro r w5 ⟨rfl, b5⟩
  clear hR
  go_wp2_with fail
  go_ret
  exact ⟨rfl, HB1.out.trans (b5.mono HB1.out.size)⟩

set_option maxHeartbeats 4000000 in
theorem showP_4 (e : Ev) (hk : e.kind = 4) (w : World) (hE : e.Ok w) (hG : Gl w) : Calls Tryd.prog 4 #[e.val] w fun r w' => r = .returned (.string (tx e.line)) ∧ Below w.heap.size w w' := by
  have hX := EBx.new w e
  have b1 : Below w.heap.size w (w.alloc (.cells e.vals 38)) := (Below.refl _ w).alloc (Nat.le_refl _) _
  have d0 := hX.cell 0 (.int .i64 e.kind) rfl
  rw [hk] at d0
  have hv : e.vals.size = 36 := rfl
  have hr1 : (w.alloc (.cells e.vals 38)).heap.size = w.heap.size + 1 := by simp
  obtain ⟨ia, ik, im, ic, i1, i2, i3, i4, i5, i6, i7, i8⟩ := hE.ints
  have hwI : ∀ x ∈ [e.k], isI x := by
    intro x hx
    simp only [List.mem_cons, List.not_mem_nil, or_false] at hx
    rcases hx with rfl <;> assumption
  have hnl := numsT_len [e.k] hwI
  simp only [List.length_cons, List.length_nil] at hnl
  have hw : ∀ W' ad, Below w.heap.size w W' → IntsAt W' ad [e.k] → Calls Tryd.prog 6 #[.string ⟨#[115, 101, 114, 118, 101, 100]⟩, .slice (some ad) 1 1] W' fun r w'' => r = .returned (.string (tx (wSer ++ numsT [e.k]))) ∧ Below W'.heap.size W' w'' := fun W' ad hb hA => words_any ⟨#[115, 101, 114, 118, 101, 100]⟩ [e.k] ad 1 W' (hG.here hb) (by decide) hwI (by show 1 ≤ 1000; decide) hA
  have ht1 : (wSer ++ numsT [e.k]).length ≤ 6 + 22 * 1 := by rw [List.length_append]; simp only [wSer, List.length_cons, List.length_nil]; omega
  have hL : e.line = wSer ++ numsT [e.k] := by unfold Ev.line; rw [hk]; rfl
  generalize wSer ++ numsT [e.k] = T1 at *
  rw [hL]
  have d2 := hX.cell 2 (.int .i64 e.k) rfl
  have hXl := hX.lt
  generalize hw1 : w.alloc (.cells e.vals 38) = w1 at *
  have hR := hw (w1.alloc (.cells #[.int .i64 e.k] 3)) ⟨w.heap.size + 1, 0, none⟩ (b1.alloc (by omega) _) (by rw [← hr1]; exact ints_new w1 [e.k] 3)
  have HB1 := Lib.hid (b1.alloc (by omega) (.cells #[.int .i64 e.k] 3))
  clear b1 hX hE hG hw
  unfold Ev.val
  go_enter Tryd.func4, Tryd.ntmps4
  go_wp2_with fail
  refine hR.mono ?_
  rintro r w5 ⟨rfl, b5⟩
  clear hR
  go_wp2_with fail
  go_ret
  exact ⟨rfl, HB1.out.trans (b5.mono HB1.out.size)⟩

set_option maxHeartbeats 4000000 in
theorem showP_5 (e : Ev) (hk : e.kind = 5) (w : World) (hE : e.Ok w) (hG : Gl w) : Calls Tryd.prog 4 #[e.val] w fun r w' => r = .returned (.string (tx e.line)) ∧ Below w.heap.size w w' := by
  have hX := EBx.new w e
  have b1 : Below w.heap.size w (w.alloc (.cells e.vals 38)) := (Below.refl _ w).alloc (Nat.le_refl _) _
  have d0 := hX.cell 0 (.int .i64 e.kind) rfl
  rw [hk] at d0
  have hv : e.vals.size = 36 := rfl
  have hr1 : (w.alloc (.cells e.vals 38)).heap.size = w.heap.size + 1 := by simp
  obtain ⟨ia, ik, im, ic, i1, i2, i3, i4, i5, i6, i7, i8⟩ := hE.ints
  have hwI : ∀ x ∈ [e.a], isI x := by
    intro x hx
    simp only [List.mem_cons, List.not_mem_nil, or_false] at hx
    rcases hx with rfl <;> assumption
  have d1 := hX.cell 1 (.int .i64 e.a) rfl
  have d14 := hX.cell 14 (.int .i64 e.res.call) rfl
  have d15 := hX.cell 15 (.int .i64 e.res.op) rfl
  have d16 := hX.cell 16 (.int .i64 e.res.st) rfl
  have d17 := hX.cell 17 (.int .i64 e.res.hd) rfl
  have d18 := hX.cell 18 (.int .i64 e.res.ai) rfl
  have d19 := hX.cell 19 (.int .i64 e.res.ak) rfl
  have d20 := hX.cell 20 (.int .i64 e.res.az) rfl
  have d21 := hX.cell 21 (.int .i64 e.res.ac) rfl
  have d22 := hX.cell 22 (e.res.dv) rfl
  have d23 := hX.cell 23 (e.res.lv) rfl
  have d24 := hX.cell 24 (.bool e.res.more) rfl
  have hL := Lib.hid (show e.line = e.res.line e.a by unfold Ev.line; rw [hk]; rfl)
  generalize hw1 : w.alloc (.cells e.vals 38) = w1 at *
  have hR := returned_any e.a ia e.res w1 (hE.res.below b1) (hG.here b1)
  have HB1 := Lib.hid b1
  unfold Rs.val Rs.vals at hR
  clear b1 hX hE hG
  unfold Ev.val
  go_enter Tryd.func4, Tryd.ntmps4
  go_wp2_with fail
  refine hR.mono ?_
  rintro r w5 ⟨rfl, b5⟩
  clear hR
  go_wp2_with fail
  go_ret
  exact ⟨by rw [hL.out]; rfl, HB1.out.trans (b5.mono HB1.out.size)⟩

set_option maxHeartbeats 4000000 in
theorem showP_6 (e : Ev) (hk : e.kind = 6) (w : World) (hE : e.Ok w) (hG : Gl w) : Calls Tryd.prog 4 #[e.val] w fun r w' => r = .returned (.string (tx e.line)) ∧ Below w.heap.size w w' := by
  have hX := EBx.new w e
  have b1 : Below w.heap.size w (w.alloc (.cells e.vals 38)) := (Below.refl _ w).alloc (Nat.le_refl _) _
  have d0 := hX.cell 0 (.int .i64 e.kind) rfl
  rw [hk] at d0
  have hv : e.vals.size = 36 := rfl
  have hr1 : (w.alloc (.cells e.vals 38)).heap.size = w.heap.size + 1 := by simp
  obtain ⟨ia, ik, im, ic, i1, i2, i3, i4, i5, i6, i7, i8⟩ := hE.ints
  have hwI : ∀ x ∈ [e.a, e.hn, e.hi, e.he], isI x := by
    intro x hx
    simp only [List.mem_cons, List.not_mem_nil, or_false] at hx
    rcases hx with rfl | rfl | rfl | rfl <;> assumption
  have hnl := numsT_len [e.a, e.hn, e.hi, e.he] hwI
  simp only [List.length_cons, List.length_nil] at hnl
  have hw : ∀ W' ad, Below w.heap.size w W' → IntsAt W' ad [e.a, e.hn, e.hi, e.he] → Calls Tryd.prog 6 #[.string ⟨#[104, 97, 110, 100, 108, 101]⟩, .slice (some ad) 4 4] W' fun r w'' => r = .returned (.string (tx (wHan ++ numsT [e.a, e.hn, e.hi, e.he]))) ∧ Below W'.heap.size W' w'' := fun W' ad hb hA => words_any ⟨#[104, 97, 110, 100, 108, 101]⟩ [e.a, e.hn, e.hi, e.he] ad 4 W' (hG.here hb) (by decide) hwI (by show 4 ≤ 1000; decide) hA
  have ht1 : (wHan ++ numsT [e.a, e.hn, e.hi, e.he]).length ≤ 6 + 22 * 4 := by rw [List.length_append]; simp only [wHan, List.length_cons, List.length_nil]; omega
  have h2 : ∀ W', Below w.heap.size w W' → Calls Tryd.prog 9 #[.string e.hp] W' fun r w'' => r = .returned (.string (tx (textT (bs e.hp)))) ∧ Below W'.heap.size W' w'' := fun W' hb => Text_any e.hp W' (by have := hE.hps; omega)
  have hsl := textT_len (bs e.hp)
  have hsl2 := hE.hps
  rw [size_bs] at hsl
  have hL : e.line = ((wHan ++ numsT [e.a, e.hn, e.hi, e.he]) ++ [32]) ++ textT (bs e.hp) := by unfold Ev.line; rw [hk]; show (wHan ++ numsT [e.a, e.hn, e.hi, e.he]) ++ 32 :: textT (bs e.hp) = _; rw [List.append_assoc (wHan ++ numsT [e.a, e.hn, e.hi, e.he])]; rfl
  have hsl3 : (textT (bs e.hp)).length ≤ 5000000000000 := by omega
  generalize (textT (bs e.hp)) = SC at *
  generalize wHan ++ numsT [e.a, e.hn, e.hi, e.he] = T1 at *
  have k1 := cat_l T1 ⟨#[32]⟩ (by rw [show (⟨#[32]⟩ : ByteArray).size = 1 from rfl]; omega)
  rw [show bs ⟨#[32]⟩ = [32] from rfl] at k1
  have ht2 : (T1 ++ [32]).length ≤ 200 := by rw [List.length_append, List.length_singleton]; omega
  generalize T1 ++ [32] = T2 at *
  have k2 := cat_tx T2 SC (by omega)
  generalize T2 ++ SC = T3 at *
  rw [hL]
  have d1 := hX.cell 1 (.int .i64 e.a) rfl
  have d25 := hX.cell 25 (.int .i64 e.hn) rfl
  have d26 := hX.cell 26 (.int .i64 e.hi) rfl
  have d27 := hX.cell 27 (.int .i64 e.he) rfl
  have d28 := hX.cell 28 (.string e.hp) rfl
  have hXl := hX.lt
  generalize hw1 : w.alloc (.cells e.vals 38) = w1 at *
  have hC0 : (w1.alloc (.cells #[.int .i64 e.hn, .int .i64 e.hi, .int .i64 e.he, .string e.hp] 32)).heap[w.heap.size + 1]? = some (.cells #[.int .i64 e.hn, .int .i64 e.hi, .int .i64 e.he, .string e.hp] 32 (0, 0)) := by rw [← hr1]; exact heap_alloc_new _ _
  have kc : ∀ W', Below (w1.alloc (.cells #[.int .i64 e.hn, .int .i64 e.hi, .int .i64 e.he, .string e.hp] 32)).heap.size (w1.alloc (.cells #[.int .i64 e.hn, .int .i64 e.hi, .int .i64 e.he, .string e.hp] 32)) W' → W'.cell? ⟨w.heap.size, 1, none⟩ = some (.int .i64 e.a) ∧ W'.cell? ⟨(w.heap.size + 1), 0, none⟩ = some (.int .i64 e.hn) ∧ W'.cell? ⟨(w.heap.size + 1), 1, none⟩ = some (.int .i64 e.hi) ∧ W'.cell? ⟨(w.heap.size + 1), 2, none⟩ = some (.int .i64 e.he) ∧ W'.cell? ⟨(w.heap.size + 1), 3, none⟩ = some (.string e.hp) := fun W' hb => ⟨(hb.cell (p := ⟨w.heap.size, 1, none⟩) (by simp; omega)).trans ((((Below.refl _ w1).alloc (Nat.le_refl _) _).cell (p := ⟨w.heap.size, 1, none⟩) hXl).trans d1), (by have hh := (hb.block (w.heap.size + 1) (by simp; omega)).trans hC0; rw [Lib.cell_of_heap hh]; rfl), (by have hh := (hb.block (w.heap.size + 1) (by simp; omega)).trans hC0; rw [Lib.cell_of_heap hh]; rfl), (by have hh := (hb.block (w.heap.size + 1) (by simp; omega)).trans hC0; rw [Lib.cell_of_heap hh]; rfl), (by have hh := (hb.block (w.heap.size + 1) (by simp; omega)).trans hC0; rw [Lib.cell_of_heap hh]; rfl)⟩
  have b2 : Below w.heap.size w (w1.alloc (.cells #[.int .i64 e.hn, .int .i64 e.hi, .int .i64 e.he, .string e.hp] 32)) := b1.alloc (by omega) _
  have KC := Lib.hid kc
  have HB2 := Lib.hid b2
  have HW := Lib.hid hw
  have H2 := Lib.hid h2
  clear kc b2 b1 hX hE hG hw h2 hC0
  unfold Ev.val
  go_enter Tryd.func4, Tryd.ntmps4
  go_wp2_with fail
  generalize w1.alloc (.cells #[.int .i64 e.hn, .int .i64 e.hi, .int .i64 e.he, .string e.hp] 32) = W0 at *
  clear d1 d25 d26 d27 d28 d0
  have hbd := (Below.refl W0.heap.size W0).drew
  have hcS := KC.out _ hbd
  refine wp_region_held_drew (S := fun w' => w'.cell? ⟨w.heap.size, 1, none⟩ = some (.int .i64 e.a) ∧ w'.cell? ⟨(w.heap.size + 1), 0, none⟩ = some (.int .i64 e.hn) ∧ w'.cell? ⟨(w.heap.size + 1), 1, none⟩ = some (.int .i64 e.hi) ∧ w'.cell? ⟨(w.heap.size + 1), 2, none⟩ = some (.int .i64 e.he) ∧ w'.cell? ⟨(w.heap.size + 1), 3, none⟩ = some (.string e.hp)) (by kernel_rfl) hcS (fun hHeld => ?_)
  refine wpAnyH_take (i := 0) (oi := ⟨some 54, .fieldAddr 38 (.tmp 1) 1, 0, "world.go:71", #[], none⟩) (v := (.pointer (some ⟨w.heap.size, 1, none⟩))) rfl (by kernel_rfl) (by kernel_rfl) (by kernel_rfl) (fun _ _ _ h => h) (Or.inl ⟨by rfl, fun _ _ => by rfl⟩) hHeld ?_
  simp only [Act.put, List.setIfInBounds_toArray, List.set_cons_zero, List.set_cons_succ]
  refine wpAnyH_take (i := 1) (oi := ⟨some 55, .load 3 (.tmp 54), 3, "world.go:71", #[⟨0, .data⟩], none⟩) (v := (.int .i64 e.a)) rfl (by kernel_rfl) (by kernel_rfl) (by kernel_rfl) (fun _ _ _ h => h) (Or.inl ⟨by rfl, fun w' h' => by have ee := h'.1; unfold execOp; go_simp⟩) hHeld ?_
  simp only [Act.put, List.setIfInBounds_toArray, List.set_cons_zero, List.set_cons_succ]
  refine wpAnyH_take (i := 2) (oi := ⟨some 56, .fieldAddr 32 (.tmp 3) 0, 0, "world.go:71", #[], none⟩) (v := (.pointer (some ⟨(w.heap.size + 1), 0, none⟩))) rfl (by kernel_rfl) (by kernel_rfl) (by kernel_rfl) (fun _ _ _ h => h) (Or.inl ⟨by rfl, fun _ _ => by rfl⟩) hHeld ?_
  simp only [Act.put, List.setIfInBounds_toArray, List.set_cons_zero, List.set_cons_succ]
  refine wpAnyH_take (i := 3) (oi := ⟨some 57, .load 3 (.tmp 56), 3, "world.go:71", #[⟨2, .data⟩], none⟩) (v := (.int .i64 e.hn)) rfl (by kernel_rfl) (by kernel_rfl) (by kernel_rfl) (fun _ _ _ h => h) (Or.inl ⟨by rfl, fun w' h' => by have ee := h'.2.1; unfold execOp; go_simp⟩) hHeld ?_
  simp only [Act.put, List.setIfInBounds_toArray, List.set_cons_zero, List.set_cons_succ]
  refine wpAnyH_take (i := 4) (oi := ⟨some 58, .fieldAddr 32 (.tmp 3) 1, 0, "world.go:71", #[], none⟩) (v := (.pointer (some ⟨(w.heap.size + 1), 1, none⟩))) rfl (by kernel_rfl) (by kernel_rfl) (by kernel_rfl) (fun _ _ _ h => h) (Or.inl ⟨by rfl, fun _ _ => by rfl⟩) hHeld ?_
  simp only [Act.put, List.setIfInBounds_toArray, List.set_cons_zero, List.set_cons_succ]
  refine wpAnyH_take (i := 5) (oi := ⟨some 59, .load 3 (.tmp 58), 3, "world.go:71", #[⟨4, .data⟩], none⟩) (v := (.int .i64 e.hi)) rfl (by kernel_rfl) (by kernel_rfl) (by kernel_rfl) (fun _ _ _ h => h) (Or.inl ⟨by rfl, fun w' h' => by have ee := h'.2.2.1; unfold execOp; go_simp⟩) hHeld ?_
  simp only [Act.put, List.setIfInBounds_toArray, List.set_cons_zero, List.set_cons_succ]
  refine wpAnyH_take (i := 6) (oi := ⟨some 60, .fieldAddr 32 (.tmp 3) 2, 0, "world.go:71", #[], none⟩) (v := (.pointer (some ⟨(w.heap.size + 1), 2, none⟩))) rfl (by kernel_rfl) (by kernel_rfl) (by kernel_rfl) (fun _ _ _ h => h) (Or.inl ⟨by rfl, fun _ _ => by rfl⟩) hHeld ?_
  simp only [Act.put, List.setIfInBounds_toArray, List.set_cons_zero, List.set_cons_succ]
  refine wpAnyH_take (i := 7) (oi := ⟨some 61, .load 3 (.tmp 60), 3, "world.go:71", #[⟨6, .data⟩], none⟩) (v := (.int .i64 e.he)) rfl (by kernel_rfl) (by kernel_rfl) (by kernel_rfl) (fun _ _ _ h => h) (Or.inl ⟨by rfl, fun w' h' => by have ee := h'.2.2.2.1; unfold execOp; go_simp⟩) hHeld ?_
  simp only [Act.put, List.setIfInBounds_toArray, List.set_cons_zero, List.set_cons_succ]
  refine wpAnyH_take (i := 11) (oi := ⟨some 65, .fieldAddr 32 (.tmp 3) 3, 0, "world.go:71", #[], none⟩) (v := (.pointer (some ⟨(w.heap.size + 1), 3, none⟩))) rfl (by kernel_rfl) (by kernel_rfl) (by kernel_rfl) (fun _ _ _ h => h) (Or.inl ⟨by rfl, fun _ _ => by rfl⟩) hHeld ?_
  simp only [Act.put, List.setIfInBounds_toArray, List.set_cons_zero, List.set_cons_succ]
  refine wpAnyH_take (i := 12) (oi := ⟨some 66, .load 9 (.tmp 65), 9, "world.go:71", #[⟨11, .data⟩], none⟩) (v := (.string e.hp)) rfl (by kernel_rfl) (by kernel_rfl) (by kernel_rfl) (fun _ _ _ h => h) (Or.inl ⟨by rfl, fun w' h' => by have ee := h'.2.2.2.2; unfold execOp; go_simp⟩) hHeld ?_
  simp only [Act.put, List.setIfInBounds_toArray, List.set_cons_zero, List.set_cons_succ]
  refine wpAnyH_ready (rs := [8]) (by kernel_rfl) (by simp) ?_
  refine AllReadyH.cons (o := ⟨some 62, .buildSlice 47 4 #[(0, .tmp 55), (1, .tmp 57), (2, .tmp 59), (3, .tmp 61)], 47, "world.go:71", #[⟨1, .data⟩, ⟨3, .data⟩, ⟨5, .data⟩, ⟨7, .data⟩], none⟩) rfl (fun KK hK => ?_) (AllReadyH.nil)
  go_simp
  have hbA := hbd.alloc hbd.size (.cells #[.int .i64 e.a, .int .i64 e.hn, .int .i64 e.hi, .int .i64 e.he] 3)
  have hcA := KC.out _ hbA
  have hia := ints_new W0.drew [e.a, e.hn, e.hi, e.he] 3
  refine hK.out _ _ hcA (fun hHeld => ?_)
  clear hK KK
  try simp only [Act.put, List.setIfInBounds_toArray, List.set_cons_zero, List.set_cons_succ]
  refine wpAnyH_ready (rs := [9]) (by kernel_rfl) (by simp) ?_
  refine AllReadyH.cons (o := ⟨some 63, .call ⟨.value (.func 6), #[.const (.string { data := #[104, 97, 110, 100, 108, 101] }), .tmp 62], #[9, 47]⟩, 9, "world.go:71", #[⟨8, .data⟩], none⟩) rfl (fun KK hK => ?_) (AllReadyH.nil)
  go_simp
  refine (HW.out _ _ (HB2.out.trans (hbA.mono HB2.out.size)) hia).mono ?_
  rintro r w9 ⟨rfl, b9⟩
  have hb9 := hbA.trans (b9.mono hbA.size)
  have hc9 := KC.out _ hb9
  clear b9 hia
  go_wp2_with fail
  refine hK.out _ _ hc9 (fun hHeld => ?_)
  clear hK KK
  try simp only [Act.put, List.setIfInBounds_toArray, List.set_cons_zero, List.set_cons_succ]
  refine wpAnyH_take (i := 10) (oi := ⟨some 64, .binOp .add 9 (.tmp 63) (.const (.string { data := #[32] })) 9, 9, "world.go:71", #[⟨9, .data⟩], none⟩) (v := (.string (tx T2))) rfl (by kernel_rfl) (by kernel_rfl) (by kernel_rfl) (fun _ _ _ h => h) (Or.inl ⟨by rfl, fun w' h' => by have ee := k1; unfold execOp; go_simp⟩) hHeld ?_
  simp only [Act.put, List.setIfInBounds_toArray, List.set_cons_zero, List.set_cons_succ]
  refine wpAnyH_ready (rs := [13]) (by kernel_rfl) (by simp) ?_
  refine AllReadyH.cons (o := ⟨some 67, .call ⟨.value (.func 9), #[.tmp 66], #[9]⟩, 9, "world.go:71", #[⟨12, .data⟩, ⟨9, .chain⟩], none⟩) rfl (fun KK hK => ?_) (AllReadyH.nil)
  go_simp
  refine (H2.out _ (HB2.out.trans (hb9.mono HB2.out.size))).mono ?_
  rintro r w10 ⟨rfl, b10⟩
  have hb10 := hb9.trans (b10.mono hb9.size)
  have hc10 := KC.out _ hb10
  clear b10
  go_wp2_with fail
  refine hK.out _ _ hc10 (fun hHeld => ?_)
  clear hK KK
  try simp only [Act.put, List.setIfInBounds_toArray, List.set_cons_zero, List.set_cons_succ]
  refine wpAnyH_take (i := 14) (oi := ⟨some 68, .binOp .add 9 (.tmp 64) (.tmp 67) 9, 9, "world.go:71", #[⟨10, .data⟩, ⟨13, .data⟩], none⟩) (v := (.string (tx T3))) rfl (by kernel_rfl) (by kernel_rfl) (by kernel_rfl) (fun _ _ _ h => h) (Or.inl ⟨by rfl, fun w' h' => by have ee := k2; unfold execOp; go_simp⟩) hHeld ?_
  simp only [Act.put, List.setIfInBounds_toArray, List.set_cons_zero, List.set_cons_succ]
  refine wpAnyH_take (i := 15) (oi := ⟨some 2, .assign (.tmp 68), 9, "world.go:71", #[⟨14, .data⟩, ⟨13, .chain⟩, ⟨0, .phase⟩, ⟨1, .phase⟩, ⟨2, .phase⟩, ⟨3, .phase⟩, ⟨4, .phase⟩, ⟨5, .phase⟩, ⟨6, .phase⟩, ⟨7, .phase⟩, ⟨8, .phase⟩, ⟨9, .phase⟩, ⟨10, .phase⟩, ⟨11, .phase⟩, ⟨12, .phase⟩, ⟨13, .phase⟩, ⟨14, .phase⟩], none⟩) (v := (.string (tx T3))) rfl (by kernel_rfl) (by kernel_rfl) (by kernel_rfl) (fun _ _ _ h => h) (Or.inl ⟨by rfl, fun _ _ => by rfl⟩) hHeld ?_
  simp only [Act.put, List.setIfInBounds_toArray, List.set_cons_zero, List.set_cons_succ]
  refine wpAnyH_done (by kernel_rfl) ?_ _
  have HB10 := Lib.hid (HB2.out.trans (hb10.mono HB2.out.size))
  clear hb10 hc10
  go_wp2_with fail
  go_ret
  exact ⟨rfl, HB10.out⟩

set_option maxHeartbeats 4000000 in
theorem showP_7 (e : Ev) (hk : e.kind = 7) (w : World) (hE : e.Ok w) (hG : Gl w) : Calls Tryd.prog 4 #[e.val] w fun r w' => r = .returned (.string (tx e.line)) ∧ Below w.heap.size w w' := by
  have hX := EBx.new w e
  have b1 : Below w.heap.size w (w.alloc (.cells e.vals 38)) := (Below.refl _ w).alloc (Nat.le_refl _) _
  have d0 := hX.cell 0 (.int .i64 e.kind) rfl
  rw [hk] at d0
  have hv : e.vals.size = 36 := rfl
  have hr1 : (w.alloc (.cells e.vals 38)).heap.size = w.heap.size + 1 := by simp
  obtain ⟨ia, ik, im, ic, i1, i2, i3, i4, i5, i6, i7, i8⟩ := hE.ints
  have hwI : ∀ x ∈ [e.code, e.k, e.m], isI x := by
    intro x hx
    simp only [List.mem_cons, List.not_mem_nil, or_false] at hx
    rcases hx with rfl | rfl | rfl <;> assumption
  have hnl := numsT_len [e.code, e.k, e.m] hwI
  simp only [List.length_cons, List.length_nil] at hnl
  have hw : ∀ W' ad, Below w.heap.size w W' → IntsAt W' ad [e.code, e.k, e.m] → Calls Tryd.prog 6 #[.string ⟨#[100, 111, 119, 110]⟩, .slice (some ad) 3 3] W' fun r w'' => r = .returned (.string (tx (wDow ++ numsT [e.code, e.k, e.m]))) ∧ Below W'.heap.size W' w'' := fun W' ad hb hA => words_any ⟨#[100, 111, 119, 110]⟩ [e.code, e.k, e.m] ad 3 W' (hG.here hb) (by decide) hwI (by show 3 ≤ 1000; decide) hA
  have ht1 : (wDow ++ numsT [e.code, e.k, e.m]).length ≤ 4 + 22 * 3 := by rw [List.length_append]; simp only [wDow, List.length_cons, List.length_nil]; omega
  have hL : e.line = wDow ++ numsT [e.code, e.k, e.m] := by unfold Ev.line; rw [hk]; rfl
  generalize wDow ++ numsT [e.code, e.k, e.m] = T1 at *
  rw [hL]
  have d2 := hX.cell 2 (.int .i64 e.k) rfl
  have d3 := hX.cell 3 (.int .i64 e.m) rfl
  have d4 := hX.cell 4 (.int .i64 e.code) rfl
  have hXl := hX.lt
  generalize hw1 : w.alloc (.cells e.vals 38) = w1 at *
  have hR := hw (w1.alloc (.cells #[.int .i64 e.code, .int .i64 e.k, .int .i64 e.m] 3)) ⟨w.heap.size + 1, 0, none⟩ (b1.alloc (by omega) _) (by rw [← hr1]; exact ints_new w1 [e.code, e.k, e.m] 3)
  have HB1 := Lib.hid (b1.alloc (by omega) (.cells #[.int .i64 e.code, .int .i64 e.k, .int .i64 e.m] 3))
  clear b1 hX hE hG hw
  unfold Ev.val
  go_enter Tryd.func4, Tryd.ntmps4
  go_wp2_with fail
  refine hR.mono ?_
  rintro r w5 ⟨rfl, b5⟩
  clear hR
  go_wp2_with fail
  go_ret
  exact ⟨rfl, HB1.out.trans (b5.mono HB1.out.size)⟩

set_option maxHeartbeats 4000000 in
theorem showP_8 (e : Ev) (hk : e.kind = 8) (w : World) (hE : e.Ok w) (hG : Gl w) : Calls Tryd.prog 4 #[e.val] w fun r w' => r = .returned (.string (tx e.line)) ∧ Below w.heap.size w w' := by
  have hX := EBx.new w e
  have b1 : Below w.heap.size w (w.alloc (.cells e.vals 38)) := (Below.refl _ w).alloc (Nat.le_refl _) _
  have d0 := hX.cell 0 (.int .i64 e.kind) rfl
  rw [hk] at d0
  have hv : e.vals.size = 36 := rfl
  have hr1 : (w.alloc (.cells e.vals 38)).heap.size = w.heap.size + 1 := by simp
  obtain ⟨ia, ik, im, ic, i1, i2, i3, i4, i5, i6, i7, i8⟩ := hE.ints
  have hwI : ∀ x ∈ [e.k], isI x := by
    intro x hx
    simp only [List.mem_cons, List.not_mem_nil, or_false] at hx
    rcases hx with rfl <;> assumption
  have hnl := numsT_len [e.k] hwI
  simp only [List.length_cons, List.length_nil] at hnl
  have hw : ∀ W' ad, Below w.heap.size w W' → IntsAt W' ad [e.k] → Calls Tryd.prog 6 #[.string ⟨#[117, 112]⟩, .slice (some ad) 1 1] W' fun r w'' => r = .returned (.string (tx (wUp ++ numsT [e.k]))) ∧ Below W'.heap.size W' w'' := fun W' ad hb hA => words_any ⟨#[117, 112]⟩ [e.k] ad 1 W' (hG.here hb) (by decide) hwI (by show 1 ≤ 1000; decide) hA
  have ht1 : (wUp ++ numsT [e.k]).length ≤ 2 + 22 * 1 := by rw [List.length_append]; simp only [wUp, List.length_cons, List.length_nil]; omega
  have hL : e.line = wUp ++ numsT [e.k] := by unfold Ev.line; rw [hk]; rfl
  generalize wUp ++ numsT [e.k] = T1 at *
  rw [hL]
  have d2 := hX.cell 2 (.int .i64 e.k) rfl
  have hXl := hX.lt
  generalize hw1 : w.alloc (.cells e.vals 38) = w1 at *
  have hR := hw (w1.alloc (.cells #[.int .i64 e.k] 3)) ⟨w.heap.size + 1, 0, none⟩ (b1.alloc (by omega) _) (by rw [← hr1]; exact ints_new w1 [e.k] 3)
  have HB1 := Lib.hid (b1.alloc (by omega) (.cells #[.int .i64 e.k] 3))
  clear b1 hX hE hG hw
  unfold Ev.val
  go_enter Tryd.func4, Tryd.ntmps4
  go_wp2_with fail
  refine hR.mono ?_
  rintro r w5 ⟨rfl, b5⟩
  clear hR
  go_wp2_with fail
  go_ret
  exact ⟨rfl, HB1.out.trans (b5.mono HB1.out.size)⟩

set_option maxHeartbeats 4000000 in
theorem showP_9 (e : Ev) (hk : e.kind = 9) (w : World) (hE : e.Ok w) (hG : Gl w) : Calls Tryd.prog 4 #[e.val] w fun r w' => r = .returned (.string (tx e.line)) ∧ Below w.heap.size w w' := by
  have hX := EBx.new w e
  have b1 : Below w.heap.size w (w.alloc (.cells e.vals 38)) := (Below.refl _ w).alloc (Nat.le_refl _) _
  have d0 := hX.cell 0 (.int .i64 e.kind) rfl
  rw [hk] at d0
  have hv : e.vals.size = 36 := rfl
  have hr1 : (w.alloc (.cells e.vals 38)).heap.size = w.heap.size + 1 := by simp
  obtain ⟨ia, ik, im, ic, i1, i2, i3, i4, i5, i6, i7, i8⟩ := hE.ints
  have hwI : ∀ x ∈ [e.a, e.k, e.m], isI x := by
    intro x hx
    simp only [List.mem_cons, List.not_mem_nil, or_false] at hx
    rcases hx with rfl | rfl | rfl <;> assumption
  have hnl := numsT_len [e.a, e.k, e.m] hwI
  simp only [List.length_cons, List.length_nil] at hnl
  have hw : ∀ W' ad, Below w.heap.size w W' → IntsAt W' ad [e.a, e.k, e.m] → Calls Tryd.prog 6 #[.string ⟨#[115, 101, 114, 118, 101, 114]⟩, .slice (some ad) 3 3] W' fun r w'' => r = .returned (.string (tx (wSrv ++ numsT [e.a, e.k, e.m]))) ∧ Below W'.heap.size W' w'' := fun W' ad hb hA => words_any ⟨#[115, 101, 114, 118, 101, 114]⟩ [e.a, e.k, e.m] ad 3 W' (hG.here hb) (by decide) hwI (by show 3 ≤ 1000; decide) hA
  have ht1 : (wSrv ++ numsT [e.a, e.k, e.m]).length ≤ 6 + 22 * 3 := by rw [List.length_append]; simp only [wSrv, List.length_cons, List.length_nil]; omega
  have hL : e.line = wSrv ++ numsT [e.a, e.k, e.m] := by unfold Ev.line; rw [hk]; rfl
  generalize wSrv ++ numsT [e.a, e.k, e.m] = T1 at *
  rw [hL]
  have d1 := hX.cell 1 (.int .i64 e.a) rfl
  have d2 := hX.cell 2 (.int .i64 e.k) rfl
  have d3 := hX.cell 3 (.int .i64 e.m) rfl
  have hXl := hX.lt
  generalize hw1 : w.alloc (.cells e.vals 38) = w1 at *
  have hR := hw (w1.alloc (.cells #[.int .i64 e.a, .int .i64 e.k, .int .i64 e.m] 3)) ⟨w.heap.size + 1, 0, none⟩ (b1.alloc (by omega) _) (by rw [← hr1]; exact ints_new w1 [e.a, e.k, e.m] 3)
  have HB1 := Lib.hid (b1.alloc (by omega) (.cells #[.int .i64 e.a, .int .i64 e.k, .int .i64 e.m] 3))
  clear b1 hX hE hG hw
  unfold Ev.val
  go_enter Tryd.func4, Tryd.ntmps4
  go_wp2_with fail
  refine hR.mono ?_
  rintro r w5 ⟨rfl, b5⟩
  clear hR
  go_wp2_with fail
  go_ret
  exact ⟨rfl, HB1.out.trans (b5.mono HB1.out.size)⟩

set_option maxHeartbeats 4000000 in
theorem showP_10 (e : Ev) (hk : e.kind = 10) (w : World) (hE : e.Ok w) (hG : Gl w) : Calls Tryd.prog 4 #[e.val] w fun r w' => r = .returned (.string (tx e.line)) ∧ Below w.heap.size w w' := by
  have hX := EBx.new w e
  have b1 : Below w.heap.size w (w.alloc (.cells e.vals 38)) := (Below.refl _ w).alloc (Nat.le_refl _) _
  have d0 := hX.cell 0 (.int .i64 e.kind) rfl
  rw [hk] at d0
  have hv : e.vals.size = 36 := rfl
  have hr1 : (w.alloc (.cells e.vals 38)).heap.size = w.heap.size + 1 := by simp
  obtain ⟨ia, ik, im, ic, i1, i2, i3, i4, i5, i6, i7, i8⟩ := hE.ints
  have hwI : ∀ x ∈ [e.kc, e.ks, e.kt], isI x := by
    intro x hx
    simp only [List.mem_cons, List.not_mem_nil, or_false] at hx
    rcases hx with rfl | rfl | rfl <;> assumption
  have hnl := numsT_len [e.kc, e.ks, e.kt] hwI
  simp only [List.length_cons, List.length_nil] at hnl
  have hw : ∀ W' ad, Below w.heap.size w W' → IntsAt W' ad [e.kc, e.ks, e.kt] → Calls Tryd.prog 6 #[.string ⟨#[107, 101, 112, 116]⟩, .slice (some ad) 3 3] W' fun r w'' => r = .returned (.string (tx (wKep ++ numsT [e.kc, e.ks, e.kt]))) ∧ Below W'.heap.size W' w'' := fun W' ad hb hA => words_any ⟨#[107, 101, 112, 116]⟩ [e.kc, e.ks, e.kt] ad 3 W' (hG.here hb) (by decide) hwI (by show 3 ≤ 1000; decide) hA
  have ht1 : (wKep ++ numsT [e.kc, e.ks, e.kt]).length ≤ 4 + 22 * 3 := by rw [List.length_append]; simp only [wKep, List.length_cons, List.length_nil]; omega
  have h2 : ∀ W', Below w.heap.size w W' → Calls Tryd.prog 10 #[e.kv] W' fun r w'' => r = .returned (.string (tx (hexT e.kl))) ∧ Below W'.heap.size W' w'' := fun W' hb => hexText_any e.kv e.kl W' (hE.kat.below hb) (by have := hE.kle; omega)
  have hsl := hexT_len e.kl
  have hsl2 := hE.kle
  have hL : e.line = ((wKep ++ numsT [e.kc, e.ks, e.kt]) ++ [32]) ++ hexT e.kl := by unfold Ev.line; rw [hk]; show (wKep ++ numsT [e.kc, e.ks, e.kt]) ++ 32 :: hexT e.kl = _; rw [List.append_assoc (wKep ++ numsT [e.kc, e.ks, e.kt])]; rfl
  have hsl3 : (hexT e.kl).length ≤ 5000000000000 := by omega
  generalize (hexT e.kl) = SC at *
  generalize wKep ++ numsT [e.kc, e.ks, e.kt] = T1 at *
  have k1 := cat_l T1 ⟨#[32]⟩ (by rw [show (⟨#[32]⟩ : ByteArray).size = 1 from rfl]; omega)
  rw [show bs ⟨#[32]⟩ = [32] from rfl] at k1
  have ht2 : (T1 ++ [32]).length ≤ 200 := by rw [List.length_append, List.length_singleton]; omega
  generalize T1 ++ [32] = T2 at *
  have k2 := cat_tx T2 SC (by omega)
  generalize T2 ++ SC = T3 at *
  rw [hL]
  have d29 := hX.cell 29 (.int .i64 e.kc) rfl
  have d30 := hX.cell 30 (.int .i64 e.ks) rfl
  have d31 := hX.cell 31 (.int .i64 e.kt) rfl
  have d32 := hX.cell 32 (e.kv) rfl
  have hXl := hX.lt
  generalize hw1 : w.alloc (.cells e.vals 38) = w1 at *
  have kc : ∀ W', Below w1.heap.size w1 W' → W'.cell? ⟨w.heap.size, 29, none⟩ = some (.int .i64 e.kc) ∧ W'.cell? ⟨w.heap.size, 30, none⟩ = some (.int .i64 e.ks) ∧ W'.cell? ⟨w.heap.size, 31, none⟩ = some (.int .i64 e.kt) ∧ W'.cell? ⟨w.heap.size, 32, none⟩ = some (e.kv) := fun W' hb => ⟨(hb.cell (p := ⟨w.heap.size, 29, none⟩) hXl).trans d29, (hb.cell (p := ⟨w.heap.size, 30, none⟩) hXl).trans d30, (hb.cell (p := ⟨w.heap.size, 31, none⟩) hXl).trans d31, (hb.cell (p := ⟨w.heap.size, 32, none⟩) hXl).trans d32⟩
  have b2 := b1
  have KC := Lib.hid kc
  have HB2 := Lib.hid b2
  have HW := Lib.hid hw
  have H2 := Lib.hid h2
  clear kc b2 b1 hX hE hG hw h2
  unfold Ev.val
  go_enter Tryd.func4, Tryd.ntmps4
  go_wp2_with fail
  clear d29 d30 d31 d32 d0
  have hbd := (Below.refl w1.heap.size w1).drew
  have hcS := KC.out _ hbd
  refine wp_region_held_drew (S := fun w' => w'.cell? ⟨w.heap.size, 29, none⟩ = some (.int .i64 e.kc) ∧ w'.cell? ⟨w.heap.size, 30, none⟩ = some (.int .i64 e.ks) ∧ w'.cell? ⟨w.heap.size, 31, none⟩ = some (.int .i64 e.kt) ∧ w'.cell? ⟨w.heap.size, 32, none⟩ = some (e.kv)) (by kernel_rfl) hcS (fun hHeld => ?_)
  refine wpAnyH_take (i := 0) (oi := ⟨some 97, .fieldAddr 38 (.tmp 1) 8, 0, "world.go:79", #[], none⟩) (v := (.pointer (some ⟨w.heap.size, 29, none⟩))) rfl (by kernel_rfl) (by kernel_rfl) (by kernel_rfl) (fun _ _ _ h => h) (Or.inl ⟨by rfl, fun _ _ => by rfl⟩) hHeld ?_
  simp only [Act.put, List.setIfInBounds_toArray, List.set_cons_zero, List.set_cons_succ]
  refine wpAnyH_take (i := 1) (oi := ⟨some 98, .fieldAddr 34 (.tmp 97) 0, 0, "world.go:79", #[⟨0, .data⟩], none⟩) (v := (.pointer (some ⟨w.heap.size, 29, none⟩))) rfl (by kernel_rfl) (by kernel_rfl) (by kernel_rfl) (fun _ _ _ h => h) (Or.inl ⟨by rfl, fun _ _ => by rfl⟩) hHeld ?_
  simp only [Act.put, List.setIfInBounds_toArray, List.set_cons_zero, List.set_cons_succ]
  refine wpAnyH_take (i := 2) (oi := ⟨some 99, .load 3 (.tmp 98), 3, "world.go:79", #[⟨1, .data⟩], none⟩) (v := (.int .i64 e.kc)) rfl (by kernel_rfl) (by kernel_rfl) (by kernel_rfl) (fun _ _ _ h => h) (Or.inl ⟨by rfl, fun w' h' => by have ee := h'.1; unfold execOp; go_simp⟩) hHeld ?_
  simp only [Act.put, List.setIfInBounds_toArray, List.set_cons_zero, List.set_cons_succ]
  refine wpAnyH_take (i := 3) (oi := ⟨some 100, .fieldAddr 38 (.tmp 1) 8, 0, "world.go:79", #[], none⟩) (v := (.pointer (some ⟨w.heap.size, 29, none⟩))) rfl (by kernel_rfl) (by kernel_rfl) (by kernel_rfl) (fun _ _ _ h => h) (Or.inl ⟨by rfl, fun _ _ => by rfl⟩) hHeld ?_
  simp only [Act.put, List.setIfInBounds_toArray, List.set_cons_zero, List.set_cons_succ]
  refine wpAnyH_take (i := 4) (oi := ⟨some 101, .fieldAddr 34 (.tmp 100) 1, 0, "world.go:79", #[⟨3, .data⟩], none⟩) (v := (.pointer (some ⟨w.heap.size, 30, none⟩))) rfl (by kernel_rfl) (by kernel_rfl) (by kernel_rfl) (fun _ _ _ h => h) (Or.inl ⟨by rfl, fun _ _ => by rfl⟩) hHeld ?_
  simp only [Act.put, List.setIfInBounds_toArray, List.set_cons_zero, List.set_cons_succ]
  refine wpAnyH_take (i := 5) (oi := ⟨some 102, .load 3 (.tmp 101), 3, "world.go:79", #[⟨4, .data⟩], none⟩) (v := (.int .i64 e.ks)) rfl (by kernel_rfl) (by kernel_rfl) (by kernel_rfl) (fun _ _ _ h => h) (Or.inl ⟨by rfl, fun w' h' => by have ee := h'.2.1; unfold execOp; go_simp⟩) hHeld ?_
  simp only [Act.put, List.setIfInBounds_toArray, List.set_cons_zero, List.set_cons_succ]
  refine wpAnyH_take (i := 6) (oi := ⟨some 103, .fieldAddr 38 (.tmp 1) 8, 0, "world.go:79", #[], none⟩) (v := (.pointer (some ⟨w.heap.size, 29, none⟩))) rfl (by kernel_rfl) (by kernel_rfl) (by kernel_rfl) (fun _ _ _ h => h) (Or.inl ⟨by rfl, fun _ _ => by rfl⟩) hHeld ?_
  simp only [Act.put, List.setIfInBounds_toArray, List.set_cons_zero, List.set_cons_succ]
  refine wpAnyH_take (i := 7) (oi := ⟨some 104, .fieldAddr 34 (.tmp 103) 2, 0, "world.go:79", #[⟨6, .data⟩], none⟩) (v := (.pointer (some ⟨w.heap.size, 31, none⟩))) rfl (by kernel_rfl) (by kernel_rfl) (by kernel_rfl) (fun _ _ _ h => h) (Or.inl ⟨by rfl, fun _ _ => by rfl⟩) hHeld ?_
  simp only [Act.put, List.setIfInBounds_toArray, List.set_cons_zero, List.set_cons_succ]
  refine wpAnyH_take (i := 8) (oi := ⟨some 105, .load 3 (.tmp 104), 3, "world.go:79", #[⟨7, .data⟩], none⟩) (v := (.int .i64 e.kt)) rfl (by kernel_rfl) (by kernel_rfl) (by kernel_rfl) (fun _ _ _ h => h) (Or.inl ⟨by rfl, fun w' h' => by have ee := h'.2.2.1; unfold execOp; go_simp⟩) hHeld ?_
  simp only [Act.put, List.setIfInBounds_toArray, List.set_cons_zero, List.set_cons_succ]
  refine wpAnyH_take (i := 12) (oi := ⟨some 109, .fieldAddr 38 (.tmp 1) 8, 0, "world.go:79", #[], none⟩) (v := (.pointer (some ⟨w.heap.size, 29, none⟩))) rfl (by kernel_rfl) (by kernel_rfl) (by kernel_rfl) (fun _ _ _ h => h) (Or.inl ⟨by rfl, fun _ _ => by rfl⟩) hHeld ?_
  simp only [Act.put, List.setIfInBounds_toArray, List.set_cons_zero, List.set_cons_succ]
  refine wpAnyH_take (i := 13) (oi := ⟨some 110, .fieldAddr 34 (.tmp 109) 3, 0, "world.go:79", #[⟨12, .data⟩], none⟩) (v := (.pointer (some ⟨w.heap.size, 32, none⟩))) rfl (by kernel_rfl) (by kernel_rfl) (by kernel_rfl) (fun _ _ _ h => h) (Or.inl ⟨by rfl, fun _ _ => by rfl⟩) hHeld ?_
  simp only [Act.put, List.setIfInBounds_toArray, List.set_cons_zero, List.set_cons_succ]
  refine wpAnyH_take (i := 14) (oi := ⟨some 111, .load 23 (.tmp 110), 23, "world.go:79", #[⟨13, .data⟩], none⟩) (v := (e.kv)) rfl (by kernel_rfl) (by kernel_rfl) (by kernel_rfl) (fun _ _ _ h => h) (Or.inl ⟨by rfl, fun w' h' => by have ee := h'.2.2.2; unfold execOp; go_simp⟩) hHeld ?_
  simp only [Act.put, List.setIfInBounds_toArray, List.set_cons_zero, List.set_cons_succ]
  refine wpAnyH_ready (rs := [9]) (by kernel_rfl) (by simp) ?_
  refine AllReadyH.cons (o := ⟨some 106, .buildSlice 47 3 #[(0, .tmp 99), (1, .tmp 102), (2, .tmp 105)], 47, "world.go:79", #[⟨2, .data⟩, ⟨5, .data⟩, ⟨8, .data⟩], none⟩) rfl (fun KK hK => ?_) (AllReadyH.nil)
  go_simp
  have hbA := hbd.alloc hbd.size (.cells #[.int .i64 e.kc, .int .i64 e.ks, .int .i64 e.kt] 3)
  have hcA := KC.out _ hbA
  have hia : IntsAt (w1.drew.alloc (.cells #[.int .i64 e.kc, .int .i64 e.ks, .int .i64 e.kt] 3)) ⟨w.heap.size + 1, 0, none⟩ [e.kc, e.ks, e.kt] := by rw [← hr1]; exact ints_new w1.drew [e.kc, e.ks, e.kt] 3
  refine hK.out _ _ hcA (fun hHeld => ?_)
  clear hK KK
  try simp only [Act.put, List.setIfInBounds_toArray, List.set_cons_zero, List.set_cons_succ]
  refine wpAnyH_ready (rs := [10]) (by kernel_rfl) (by simp) ?_
  refine AllReadyH.cons (o := ⟨some 107, .call ⟨.value (.func 6), #[.const (.string { data := #[107, 101, 112, 116] }), .tmp 106], #[9, 47]⟩, 9, "world.go:79", #[⟨9, .data⟩], none⟩) rfl (fun KK hK => ?_) (AllReadyH.nil)
  go_simp
  refine (HW.out _ _ (HB2.out.trans (hbA.mono HB2.out.size)) hia).mono ?_
  rintro r w9 ⟨rfl, b9⟩
  have hb9 := hbA.trans (b9.mono hbA.size)
  have hc9 := KC.out _ hb9
  clear b9 hia
  go_wp2_with fail
  refine hK.out _ _ hc9 (fun hHeld => ?_)
  clear hK KK
  try simp only [Act.put, List.setIfInBounds_toArray, List.set_cons_zero, List.set_cons_succ]
  refine wpAnyH_take (i := 11) (oi := ⟨some 108, .binOp .add 9 (.tmp 107) (.const (.string { data := #[32] })) 9, 9, "world.go:79", #[⟨10, .data⟩], none⟩) (v := (.string (tx T2))) rfl (by kernel_rfl) (by kernel_rfl) (by kernel_rfl) (fun _ _ _ h => h) (Or.inl ⟨by rfl, fun w' h' => by have ee := k1; unfold execOp; go_simp⟩) hHeld ?_
  simp only [Act.put, List.setIfInBounds_toArray, List.set_cons_zero, List.set_cons_succ]
  refine wpAnyH_ready (rs := [15]) (by kernel_rfl) (by simp) ?_
  refine AllReadyH.cons (o := ⟨some 112, .call ⟨.value (.func 10), #[.tmp 111], #[23]⟩, 9, "world.go:79", #[⟨14, .data⟩, ⟨10, .chain⟩], none⟩) rfl (fun KK hK => ?_) (AllReadyH.nil)
  go_simp
  refine (H2.out _ (HB2.out.trans (hb9.mono HB2.out.size))).mono ?_
  rintro r w10 ⟨rfl, b10⟩
  have hb10 := hb9.trans (b10.mono hb9.size)
  have hc10 := KC.out _ hb10
  clear b10
  go_wp2_with fail
  refine hK.out _ _ hc10 (fun hHeld => ?_)
  clear hK KK
  try simp only [Act.put, List.setIfInBounds_toArray, List.set_cons_zero, List.set_cons_succ]
  refine wpAnyH_take (i := 16) (oi := ⟨some 113, .binOp .add 9 (.tmp 108) (.tmp 112) 9, 9, "world.go:79", #[⟨11, .data⟩, ⟨15, .data⟩], none⟩) (v := (.string (tx T3))) rfl (by kernel_rfl) (by kernel_rfl) (by kernel_rfl) (fun _ _ _ h => h) (Or.inl ⟨by rfl, fun w' h' => by have ee := k2; unfold execOp; go_simp⟩) hHeld ?_
  simp only [Act.put, List.setIfInBounds_toArray, List.set_cons_zero, List.set_cons_succ]
  refine wpAnyH_take (i := 17) (oi := ⟨some 2, .assign (.tmp 113), 9, "world.go:79", #[⟨16, .data⟩, ⟨15, .chain⟩, ⟨0, .phase⟩, ⟨1, .phase⟩, ⟨2, .phase⟩, ⟨3, .phase⟩, ⟨4, .phase⟩, ⟨5, .phase⟩, ⟨6, .phase⟩, ⟨7, .phase⟩, ⟨8, .phase⟩, ⟨9, .phase⟩, ⟨10, .phase⟩, ⟨11, .phase⟩, ⟨12, .phase⟩, ⟨13, .phase⟩, ⟨14, .phase⟩, ⟨15, .phase⟩, ⟨16, .phase⟩], none⟩) (v := (.string (tx T3))) rfl (by kernel_rfl) (by kernel_rfl) (by kernel_rfl) (fun _ _ _ h => h) (Or.inl ⟨by rfl, fun _ _ => by rfl⟩) hHeld ?_
  simp only [Act.put, List.setIfInBounds_toArray, List.set_cons_zero, List.set_cons_succ]
  refine wpAnyH_done (by kernel_rfl) ?_ _
  have HB10 := Lib.hid (HB2.out.trans (hb10.mono HB2.out.size))
  clear hb10 hc10
  go_wp2_with fail
  go_ret
  exact ⟨rfl, HB10.out⟩

set_option maxHeartbeats 4000000 in
theorem showP_11 (e : Ev) (hk : e.kind = 11) (w : World) (hE : e.Ok w) (hG : Gl w) : Calls Tryd.prog 4 #[e.val] w fun r w' => r = .returned (.string (tx e.line)) ∧ Below w.heap.size w w' := by
  have hX := EBx.new w e
  have b1 : Below w.heap.size w (w.alloc (.cells e.vals 38)) := (Below.refl _ w).alloc (Nat.le_refl _) _
  have d0 := hX.cell 0 (.int .i64 e.kind) rfl
  rw [hk] at d0
  have hv : e.vals.size = 36 := rfl
  have hr1 : (w.alloc (.cells e.vals 38)).heap.size = w.heap.size + 1 := by simp
  obtain ⟨ia, ik, im, ic, i1, i2, i3, i4, i5, i6, i7, i8⟩ := hE.ints
  have hwI : ∀ x ∈ [e.a, e.k, e.m], isI x := by
    intro x hx
    simp only [List.mem_cons, List.not_mem_nil, or_false] at hx
    rcases hx with rfl | rfl | rfl <;> assumption
  have hnl := numsT_len [e.a, e.k, e.m] hwI
  simp only [List.length_cons, List.length_nil] at hnl
  have hw : ∀ W' ad, Below w.heap.size w W' → IntsAt W' ad [e.a, e.k, e.m] → Calls Tryd.prog 6 #[.string ⟨#[109, 97, 114, 107]⟩, .slice (some ad) 3 3] W' fun r w'' => r = .returned (.string (tx (wMar ++ numsT [e.a, e.k, e.m]))) ∧ Below W'.heap.size W' w'' := fun W' ad hb hA => words_any ⟨#[109, 97, 114, 107]⟩ [e.a, e.k, e.m] ad 3 W' (hG.here hb) (by decide) hwI (by show 3 ≤ 1000; decide) hA
  have ht1 : (wMar ++ numsT [e.a, e.k, e.m]).length ≤ 4 + 22 * 3 := by rw [List.length_append]; simp only [wMar, List.length_cons, List.length_nil]; omega
  have hL : e.line = wMar ++ numsT [e.a, e.k, e.m] := by unfold Ev.line; rw [hk]; rfl
  generalize wMar ++ numsT [e.a, e.k, e.m] = T1 at *
  rw [hL]
  have d1 := hX.cell 1 (.int .i64 e.a) rfl
  have d2 := hX.cell 2 (.int .i64 e.k) rfl
  have d3 := hX.cell 3 (.int .i64 e.m) rfl
  have hXl := hX.lt
  generalize hw1 : w.alloc (.cells e.vals 38) = w1 at *
  have hR := hw (w1.alloc (.cells #[.int .i64 e.a, .int .i64 e.k, .int .i64 e.m] 3)) ⟨w.heap.size + 1, 0, none⟩ (b1.alloc (by omega) _) (by rw [← hr1]; exact ints_new w1 [e.a, e.k, e.m] 3)
  have HB1 := Lib.hid (b1.alloc (by omega) (.cells #[.int .i64 e.a, .int .i64 e.k, .int .i64 e.m] 3))
  clear b1 hX hE hG hw
  unfold Ev.val
  go_enter Tryd.func4, Tryd.ntmps4
  go_wp2_with fail
  refine hR.mono ?_
  rintro r w5 ⟨rfl, b5⟩
  clear hR
  go_wp2_with fail
  go_ret
  exact ⟨rfl, HB1.out.trans (b5.mono HB1.out.size)⟩

set_option maxHeartbeats 4000000 in
theorem showP_12 (e : Ev) (hk : e.kind = 12) (w : World) (hE : e.Ok w) (hG : Gl w) : Calls Tryd.prog 4 #[e.val] w fun r w' => r = .returned (.string (tx e.line)) ∧ Below w.heap.size w w' := by
  have hX := EBx.new w e
  have b1 : Below w.heap.size w (w.alloc (.cells e.vals 38)) := (Below.refl _ w).alloc (Nat.le_refl _) _
  have d0 := hX.cell 0 (.int .i64 e.kind) rfl
  rw [hk] at d0
  have hv : e.vals.size = 36 := rfl
  have hr1 : (w.alloc (.cells e.vals 38)).heap.size = w.heap.size + 1 := by simp
  obtain ⟨ia, ik, im, ic, i1, i2, i3, i4, i5, i6, i7, i8⟩ := hE.ints
  have hwI : ∀ x ∈ [e.fn, e.ft], isI x := by
    intro x hx
    simp only [List.mem_cons, List.not_mem_nil, or_false] at hx
    rcases hx with rfl | rfl <;> assumption
  have hnl := numsT_len [e.fn, e.ft] hwI
  simp only [List.length_cons, List.length_nil] at hnl
  have hw : ∀ W' ad, Below w.heap.size w W' → IntsAt W' ad [e.fn, e.ft] → Calls Tryd.prog 6 #[.string ⟨#[102, 108, 105, 103, 104, 116]⟩, .slice (some ad) 2 2] W' fun r w'' => r = .returned (.string (tx (wFli ++ numsT [e.fn, e.ft]))) ∧ Below W'.heap.size W' w'' := fun W' ad hb hA => words_any ⟨#[102, 108, 105, 103, 104, 116]⟩ [e.fn, e.ft] ad 2 W' (hG.here hb) (by decide) hwI (by show 2 ≤ 1000; decide) hA
  have ht1 : (wFli ++ numsT [e.fn, e.ft]).length ≤ 6 + 22 * 2 := by rw [List.length_append]; simp only [wFli, List.length_cons, List.length_nil]; omega
  have h2 : ∀ W', Below w.heap.size w W' → Calls Tryd.prog 10 #[e.fv] W' fun r w'' => r = .returned (.string (tx (hexT e.fl))) ∧ Below W'.heap.size W' w'' := fun W' hb => hexText_any e.fv e.fl W' (hE.fat.below hb) (by have := hE.fle; omega)
  have hsl := hexT_len e.fl
  have hsl2 := hE.fle
  have hL : e.line = ((wFli ++ numsT [e.fn, e.ft]) ++ [32]) ++ hexT e.fl := by unfold Ev.line; rw [hk]; show (wFli ++ numsT [e.fn, e.ft]) ++ 32 :: hexT e.fl = _; rw [List.append_assoc (wFli ++ numsT [e.fn, e.ft])]; rfl
  have hsl3 : (hexT e.fl).length ≤ 5000000000000 := by omega
  generalize (hexT e.fl) = SC at *
  generalize wFli ++ numsT [e.fn, e.ft] = T1 at *
  have k1 := cat_l T1 ⟨#[32]⟩ (by rw [show (⟨#[32]⟩ : ByteArray).size = 1 from rfl]; omega)
  rw [show bs ⟨#[32]⟩ = [32] from rfl] at k1
  have ht2 : (T1 ++ [32]).length ≤ 200 := by rw [List.length_append, List.length_singleton]; omega
  generalize T1 ++ [32] = T2 at *
  have k2 := cat_tx T2 SC (by omega)
  generalize T2 ++ SC = T3 at *
  rw [hL]
  have d33 := hX.cell 33 (.int .i64 e.fn) rfl
  have d34 := hX.cell 34 (.int .i64 e.ft) rfl
  have d35 := hX.cell 35 (e.fv) rfl
  have hXl := hX.lt
  generalize hw1 : w.alloc (.cells e.vals 38) = w1 at *
  have kc : ∀ W', Below w1.heap.size w1 W' → W'.cell? ⟨w.heap.size, 33, none⟩ = some (.int .i64 e.fn) ∧ W'.cell? ⟨w.heap.size, 34, none⟩ = some (.int .i64 e.ft) ∧ W'.cell? ⟨w.heap.size, 35, none⟩ = some (e.fv) := fun W' hb => ⟨(hb.cell (p := ⟨w.heap.size, 33, none⟩) hXl).trans d33, (hb.cell (p := ⟨w.heap.size, 34, none⟩) hXl).trans d34, (hb.cell (p := ⟨w.heap.size, 35, none⟩) hXl).trans d35⟩
  have b2 := b1
  have KC := Lib.hid kc
  have HB2 := Lib.hid b2
  have HW := Lib.hid hw
  have H2 := Lib.hid h2
  clear kc b2 b1 hX hE hG hw h2
  unfold Ev.val
  go_enter Tryd.func4, Tryd.ntmps4
  go_wp2_with fail
  clear d33 d34 d35 d0
  have hbd := (Below.refl w1.heap.size w1).drew
  have hcS := KC.out _ hbd
  refine wp_region_held_drew (S := fun w' => w'.cell? ⟨w.heap.size, 33, none⟩ = some (.int .i64 e.fn) ∧ w'.cell? ⟨w.heap.size, 34, none⟩ = some (.int .i64 e.ft) ∧ w'.cell? ⟨w.heap.size, 35, none⟩ = some (e.fv)) (by kernel_rfl) hcS (fun hHeld => ?_)
  refine wpAnyH_take (i := 0) (oi := ⟨some 126, .fieldAddr 38 (.tmp 1) 9, 0, "world.go:83", #[], none⟩) (v := (.pointer (some ⟨w.heap.size, 33, none⟩))) rfl (by kernel_rfl) (by kernel_rfl) (by kernel_rfl) (fun _ _ _ h => h) (Or.inl ⟨by rfl, fun _ _ => by rfl⟩) hHeld ?_
  simp only [Act.put, List.setIfInBounds_toArray, List.set_cons_zero, List.set_cons_succ]
  refine wpAnyH_take (i := 1) (oi := ⟨some 127, .fieldAddr 36 (.tmp 126) 0, 0, "world.go:83", #[⟨0, .data⟩], none⟩) (v := (.pointer (some ⟨w.heap.size, 33, none⟩))) rfl (by kernel_rfl) (by kernel_rfl) (by kernel_rfl) (fun _ _ _ h => h) (Or.inl ⟨by rfl, fun _ _ => by rfl⟩) hHeld ?_
  simp only [Act.put, List.setIfInBounds_toArray, List.set_cons_zero, List.set_cons_succ]
  refine wpAnyH_take (i := 2) (oi := ⟨some 128, .load 3 (.tmp 127), 3, "world.go:83", #[⟨1, .data⟩], none⟩) (v := (.int .i64 e.fn)) rfl (by kernel_rfl) (by kernel_rfl) (by kernel_rfl) (fun _ _ _ h => h) (Or.inl ⟨by rfl, fun w' h' => by have ee := h'.1; unfold execOp; go_simp⟩) hHeld ?_
  simp only [Act.put, List.setIfInBounds_toArray, List.set_cons_zero, List.set_cons_succ]
  refine wpAnyH_take (i := 3) (oi := ⟨some 129, .fieldAddr 38 (.tmp 1) 9, 0, "world.go:83", #[], none⟩) (v := (.pointer (some ⟨w.heap.size, 33, none⟩))) rfl (by kernel_rfl) (by kernel_rfl) (by kernel_rfl) (fun _ _ _ h => h) (Or.inl ⟨by rfl, fun _ _ => by rfl⟩) hHeld ?_
  simp only [Act.put, List.setIfInBounds_toArray, List.set_cons_zero, List.set_cons_succ]
  refine wpAnyH_take (i := 4) (oi := ⟨some 130, .fieldAddr 36 (.tmp 129) 1, 0, "world.go:83", #[⟨3, .data⟩], none⟩) (v := (.pointer (some ⟨w.heap.size, 34, none⟩))) rfl (by kernel_rfl) (by kernel_rfl) (by kernel_rfl) (fun _ _ _ h => h) (Or.inl ⟨by rfl, fun _ _ => by rfl⟩) hHeld ?_
  simp only [Act.put, List.setIfInBounds_toArray, List.set_cons_zero, List.set_cons_succ]
  refine wpAnyH_take (i := 5) (oi := ⟨some 131, .load 3 (.tmp 130), 3, "world.go:83", #[⟨4, .data⟩], none⟩) (v := (.int .i64 e.ft)) rfl (by kernel_rfl) (by kernel_rfl) (by kernel_rfl) (fun _ _ _ h => h) (Or.inl ⟨by rfl, fun w' h' => by have ee := h'.2.1; unfold execOp; go_simp⟩) hHeld ?_
  simp only [Act.put, List.setIfInBounds_toArray, List.set_cons_zero, List.set_cons_succ]
  refine wpAnyH_take (i := 9) (oi := ⟨some 135, .fieldAddr 38 (.tmp 1) 9, 0, "world.go:83", #[], none⟩) (v := (.pointer (some ⟨w.heap.size, 33, none⟩))) rfl (by kernel_rfl) (by kernel_rfl) (by kernel_rfl) (fun _ _ _ h => h) (Or.inl ⟨by rfl, fun _ _ => by rfl⟩) hHeld ?_
  simp only [Act.put, List.setIfInBounds_toArray, List.set_cons_zero, List.set_cons_succ]
  refine wpAnyH_take (i := 10) (oi := ⟨some 136, .fieldAddr 36 (.tmp 135) 2, 0, "world.go:83", #[⟨9, .data⟩], none⟩) (v := (.pointer (some ⟨w.heap.size, 35, none⟩))) rfl (by kernel_rfl) (by kernel_rfl) (by kernel_rfl) (fun _ _ _ h => h) (Or.inl ⟨by rfl, fun _ _ => by rfl⟩) hHeld ?_
  simp only [Act.put, List.setIfInBounds_toArray, List.set_cons_zero, List.set_cons_succ]
  refine wpAnyH_take (i := 11) (oi := ⟨some 137, .load 23 (.tmp 136), 23, "world.go:83", #[⟨10, .data⟩], none⟩) (v := (e.fv)) rfl (by kernel_rfl) (by kernel_rfl) (by kernel_rfl) (fun _ _ _ h => h) (Or.inl ⟨by rfl, fun w' h' => by have ee := h'.2.2; unfold execOp; go_simp⟩) hHeld ?_
  simp only [Act.put, List.setIfInBounds_toArray, List.set_cons_zero, List.set_cons_succ]
  refine wpAnyH_ready (rs := [6]) (by kernel_rfl) (by simp) ?_
  refine AllReadyH.cons (o := ⟨some 132, .buildSlice 47 2 #[(0, .tmp 128), (1, .tmp 131)], 47, "world.go:83", #[⟨2, .data⟩, ⟨5, .data⟩], none⟩) rfl (fun KK hK => ?_) (AllReadyH.nil)
  go_simp
  have hbA := hbd.alloc hbd.size (.cells #[.int .i64 e.fn, .int .i64 e.ft] 3)
  have hcA := KC.out _ hbA
  have hia : IntsAt (w1.drew.alloc (.cells #[.int .i64 e.fn, .int .i64 e.ft] 3)) ⟨w.heap.size + 1, 0, none⟩ [e.fn, e.ft] := by rw [← hr1]; exact ints_new w1.drew [e.fn, e.ft] 3
  refine hK.out _ _ hcA (fun hHeld => ?_)
  clear hK KK
  try simp only [Act.put, List.setIfInBounds_toArray, List.set_cons_zero, List.set_cons_succ]
  refine wpAnyH_ready (rs := [7]) (by kernel_rfl) (by simp) ?_
  refine AllReadyH.cons (o := ⟨some 133, .call ⟨.value (.func 6), #[.const (.string { data := #[102, 108, 105, 103, 104, 116] }), .tmp 132], #[9, 47]⟩, 9, "world.go:83", #[⟨6, .data⟩], none⟩) rfl (fun KK hK => ?_) (AllReadyH.nil)
  go_simp
  refine (HW.out _ _ (HB2.out.trans (hbA.mono HB2.out.size)) hia).mono ?_
  rintro r w9 ⟨rfl, b9⟩
  have hb9 := hbA.trans (b9.mono hbA.size)
  have hc9 := KC.out _ hb9
  clear b9 hia
  go_wp2_with fail
  refine hK.out _ _ hc9 (fun hHeld => ?_)
  clear hK KK
  try simp only [Act.put, List.setIfInBounds_toArray, List.set_cons_zero, List.set_cons_succ]
  refine wpAnyH_take (i := 8) (oi := ⟨some 134, .binOp .add 9 (.tmp 133) (.const (.string { data := #[32] })) 9, 9, "world.go:83", #[⟨7, .data⟩], none⟩) (v := (.string (tx T2))) rfl (by kernel_rfl) (by kernel_rfl) (by kernel_rfl) (fun _ _ _ h => h) (Or.inl ⟨by rfl, fun w' h' => by have ee := k1; unfold execOp; go_simp⟩) hHeld ?_
  simp only [Act.put, List.setIfInBounds_toArray, List.set_cons_zero, List.set_cons_succ]
  refine wpAnyH_ready (rs := [12]) (by kernel_rfl) (by simp) ?_
  refine AllReadyH.cons (o := ⟨some 138, .call ⟨.value (.func 10), #[.tmp 137], #[23]⟩, 9, "world.go:83", #[⟨11, .data⟩, ⟨7, .chain⟩], none⟩) rfl (fun KK hK => ?_) (AllReadyH.nil)
  go_simp
  refine (H2.out _ (HB2.out.trans (hb9.mono HB2.out.size))).mono ?_
  rintro r w10 ⟨rfl, b10⟩
  have hb10 := hb9.trans (b10.mono hb9.size)
  have hc10 := KC.out _ hb10
  clear b10
  go_wp2_with fail
  refine hK.out _ _ hc10 (fun hHeld => ?_)
  clear hK KK
  try simp only [Act.put, List.setIfInBounds_toArray, List.set_cons_zero, List.set_cons_succ]
  refine wpAnyH_take (i := 13) (oi := ⟨some 139, .binOp .add 9 (.tmp 134) (.tmp 138) 9, 9, "world.go:83", #[⟨8, .data⟩, ⟨12, .data⟩], none⟩) (v := (.string (tx T3))) rfl (by kernel_rfl) (by kernel_rfl) (by kernel_rfl) (fun _ _ _ h => h) (Or.inl ⟨by rfl, fun w' h' => by have ee := k2; unfold execOp; go_simp⟩) hHeld ?_
  simp only [Act.put, List.setIfInBounds_toArray, List.set_cons_zero, List.set_cons_succ]
  refine wpAnyH_take (i := 14) (oi := ⟨some 2, .assign (.tmp 139), 9, "world.go:83", #[⟨13, .data⟩, ⟨12, .chain⟩, ⟨0, .phase⟩, ⟨1, .phase⟩, ⟨2, .phase⟩, ⟨3, .phase⟩, ⟨4, .phase⟩, ⟨5, .phase⟩, ⟨6, .phase⟩, ⟨7, .phase⟩, ⟨8, .phase⟩, ⟨9, .phase⟩, ⟨10, .phase⟩, ⟨11, .phase⟩, ⟨12, .phase⟩, ⟨13, .phase⟩], none⟩) (v := (.string (tx T3))) rfl (by kernel_rfl) (by kernel_rfl) (by kernel_rfl) (fun _ _ _ h => h) (Or.inl ⟨by rfl, fun _ _ => by rfl⟩) hHeld ?_
  simp only [Act.put, List.setIfInBounds_toArray, List.set_cons_zero, List.set_cons_succ]
  refine wpAnyH_done (by kernel_rfl) ?_ _
  have HB10 := Lib.hid (HB2.out.trans (hb10.mono HB2.out.size))
  clear hb10 hc10
  go_wp2_with fail
  go_ret
  exact ⟨rfl, HB10.out⟩

set_option maxHeartbeats 4000000 in
theorem showP_0 (e : Ev) (hk : ∀ j : Nat, j < 12 → e.kind ≠ (j : Int) + 1) (w : World) : Calls Tryd.prog 4 #[e.val] w fun r w' => r = .returned (.string (tx e.line)) ∧ Below w.heap.size w w' := by
  have hX := EBx.new w e
  have d0 := hX.cell 0 (.int .i64 e.kind) rfl
  have hv : e.vals.size = 36 := rfl
  have h1 : e.kind ≠ 1 := hk 0 (by decide)
  have h2 : e.kind ≠ 2 := hk 1 (by decide)
  have h3 : e.kind ≠ 3 := hk 2 (by decide)
  have h4 : e.kind ≠ 4 := hk 3 (by decide)
  have h5 : e.kind ≠ 5 := hk 4 (by decide)
  have h6 : e.kind ≠ 6 := hk 5 (by decide)
  have h7 : e.kind ≠ 7 := hk 6 (by decide)
  have h8 : e.kind ≠ 8 := hk 7 (by decide)
  have h9 : e.kind ≠ 9 := hk 8 (by decide)
  have h10 : e.kind ≠ 10 := hk 9 (by decide)
  have h11 : e.kind ≠ 11 := hk 10 (by decide)
  have h12 : e.kind ≠ 12 := hk 11 (by decide)
  have hL := Lib.hid (show e.line = [] by unfold Ev.line; simp only [h1, h2, h3, h4, h5, h6, h7, h8, h9, h10, h11, h12, if_false])
  have q1 : (e.kind == 1) = false := by rw [beq_eq_false_iff_ne]; exact h1
  have q2 : (e.kind == 2) = false := by rw [beq_eq_false_iff_ne]; exact h2
  have q3 : (e.kind == 3) = false := by rw [beq_eq_false_iff_ne]; exact h3
  have q4 : (e.kind == 4) = false := by rw [beq_eq_false_iff_ne]; exact h4
  have q5 : (e.kind == 5) = false := by rw [beq_eq_false_iff_ne]; exact h5
  have q6 : (e.kind == 6) = false := by rw [beq_eq_false_iff_ne]; exact h6
  have q7 : (e.kind == 7) = false := by rw [beq_eq_false_iff_ne]; exact h7
  have q8 : (e.kind == 8) = false := by rw [beq_eq_false_iff_ne]; exact h8
  have q9 : (e.kind == 9) = false := by rw [beq_eq_false_iff_ne]; exact h9
  have q10 : (e.kind == 10) = false := by rw [beq_eq_false_iff_ne]; exact h10
  have q11 : (e.kind == 11) = false := by rw [beq_eq_false_iff_ne]; exact h11
  have q12 : (e.kind == 12) = false := by rw [beq_eq_false_iff_ne]; exact h12
  have HB := Lib.hid ((Below.refl _ w).alloc (Nat.le_refl _) (.cells e.vals 38))
  clear hX hk h1 h2 h3 h4 h5 h6 h7 h8 h9 h10 h11 h12
  unfold Ev.val
  go_enter Tryd.func4, Tryd.ntmps4
  go_wp2_with fail
  go_ret
  exact ⟨by rw [hL.out]; rfl, HB.out⟩

theorem showP_any (e : Ev) (w : World) (hE : e.Ok w) (hG : Gl w) : Calls Tryd.prog 4 #[e.val] w fun r w' => r = .returned (.string (tx e.line)) ∧ Below w.heap.size w w' := by
  by_cases h1 : e.kind = 1
  · exact showP_1 e h1 w hE hG
  by_cases h2 : e.kind = 2
  · exact showP_2 e h2 w hE hG
  by_cases h3 : e.kind = 3
  · exact showP_3 e h3 w hE hG
  by_cases h4 : e.kind = 4
  · exact showP_4 e h4 w hE hG
  by_cases h5 : e.kind = 5
  · exact showP_5 e h5 w hE hG
  by_cases h6 : e.kind = 6
  · exact showP_6 e h6 w hE hG
  by_cases h7 : e.kind = 7
  · exact showP_7 e h7 w hE hG
  by_cases h8 : e.kind = 8
  · exact showP_8 e h8 w hE hG
  by_cases h9 : e.kind = 9
  · exact showP_9 e h9 w hE hG
  by_cases h10 : e.kind = 10
  · exact showP_10 e h10 w hE hG
  by_cases h11 : e.kind = 11
  · exact showP_11 e h11 w hE hG
  by_cases h12 : e.kind = 12
  · exact showP_12 e h12 w hE hG
  refine showP_0 e (fun j hj h => ?_) w
  have : j = 0 ∨ j = 1 ∨ j = 2 ∨ j = 3 ∨ j = 4 ∨ j = 5 ∨ j = 6 ∨ j = 7 ∨ j = 8 ∨ j = 9 ∨ j = 10 ∨ j = 11 := by omega
  rcases this with rfl | rfl | rfl | rfl | rfl | rfl | rfl | rfl | rfl | rfl | rfl | rfl
  · exact h1 h
  · exact h2 h
  · exact h3 h
  · exact h4 h
  · exact h5 h
  · exact h6 h
  · exact h7 h
  · exact h8 h
  · exact h9 h
  · exact h10 h
  · exact h11 h
  · exact h12 h
end Go.Proofs.YtjkmdacgiebbfaaDoor
