/- The document's Show, kind by kind. (Written by mkW17.py.) -/
import Derived.Test.YtjkmdacgiebbfaaDoorW16
namespace Go.Proofs.YtjkmdacgiebbfaaDoor
open Go.RowKit Go.Sort
set_option maxRecDepth 100000

set_option maxHeartbeats 4000000 in
theorem showD_1 (e : Ev) (hk : e.kind = 1) (w : World) (hE : e.Ok w) (hG : Gl w) : Calls Tryd.prog 5 #[e.val] w fun r w' => r = .returned (.string (tx e.line)) ∧ Below w.heap.size w w' := by
  have hX := EBx.new w e
  have b1 : Below w.heap.size w (w.alloc (.cells e.vals 38)) := (Below.refl _ w).alloc (Nat.le_refl _) _
  have d0 := hX.cell 0 (.int .i64 e.kind) rfl
  rw [hk] at d0
  have hv : e.vals.size = 36 := rfl
  have hr1 : (w.alloc (.cells e.vals 38)).heap.size = w.heap.size + 1 := by simp
  obtain ⟨ia, ik, im, ic, i1, i2, i3, i4, i5, i6, i7, i8⟩ := hE.ints
  have hwI : ∀ x ∈ [e.a, e.k, e.code], isI x := by
    intro x hx
    simp only [List.mem_cons, List.not_mem_nil, or_false] at hx
    rcases hx with rfl | rfl | rfl <;> assumption
  have hnl := numsT_len [e.a, e.k, e.code] hwI
  simp only [List.length_cons, List.length_nil] at hnl
  have hw : ∀ W' ad, Below w.heap.size w W' → IntsAt W' ad [e.a, e.k, e.code] → Calls Tryd.prog 11 #[.slice (some ad) 3 3] W' fun r w'' => r = .returned (.string (tx (numsT [e.a, e.k, e.code]))) ∧ Below W'.heap.size W' w'' := fun W' ad hb hA => rwords_any [e.a, e.k, e.code] ad 3 W' (hG.here hb) hwI (by show 3 ≤ 1000; decide) hA
  have k0 := cat_r ⟨#[114, 101, 102, 117, 115, 101, 100]⟩ (numsT [e.a, e.k, e.code]) (by rw [show (⟨#[114, 101, 102, 117, 115, 101, 100]⟩ : ByteArray).size = 7 from rfl]; omega)
  rw [show bs ⟨#[114, 101, 102, 117, 115, 101, 100]⟩ = wRef from rfl] at k0
  have ht1 : (wRef ++ numsT [e.a, e.k, e.code]).length ≤ 7 + 22 * 3 := by rw [List.length_append]; simp only [wRef, List.length_cons, List.length_nil]; omega
  have hL : e.line = wRef ++ numsT [e.a, e.k, e.code] := by unfold Ev.line; rw [hk]; rfl
  generalize wRef ++ numsT [e.a, e.k, e.code] = T1 at *
  generalize numsT [e.a, e.k, e.code] = NS at *
  rw [hL]
  have d1 := hX.cell 1 (.int .i64 e.a) rfl
  have d2 := hX.cell 2 (.int .i64 e.k) rfl
  have d4 := hX.cell 4 (.int .i64 e.code) rfl
  have hXl := hX.lt
  generalize hw1 : w.alloc (.cells e.vals 38) = w1 at *
  have hR := hw (w1.alloc (.cells #[.int .i64 e.a, .int .i64 e.k, .int .i64 e.code] 3)) ⟨w.heap.size + 1, 0, none⟩ (b1.alloc (by omega) _) (by rw [← hr1]; exact ints_new w1 [e.a, e.k, e.code] 3)
  have HB1 := Lib.hid (b1.alloc (by omega) (.cells #[.int .i64 e.a, .int .i64 e.k, .int .i64 e.code] 3))
  clear b1 hX hE hG hw
  unfold Ev.val
  go_enter Tryd.func5, Tryd.ntmps5
  go_wp2_with fail
  refine hR.mono ?_
  rintro r w5 ⟨rfl, b5⟩
  clear hR
  go_wp2_with fail
  go_ret
  exact ⟨rfl, HB1.out.trans (b5.mono HB1.out.size)⟩

set_option maxHeartbeats 4000000 in
theorem showD_2 (e : Ev) (hk : e.kind = 2) (w : World) (hE : e.Ok w) (hG : Gl w) : Calls Tryd.prog 5 #[e.val] w fun r w' => r = .returned (.string (tx e.line)) ∧ Below w.heap.size w w' := by
  have hX := EBx.new w e
  have b1 : Below w.heap.size w (w.alloc (.cells e.vals 38)) := (Below.refl _ w).alloc (Nat.le_refl _) _
  have d0 := hX.cell 0 (.int .i64 e.kind) rfl
  rw [hk] at d0
  have hv : e.vals.size = 36 := rfl
  have hr1 : (w.alloc (.cells e.vals 38)).heap.size = w.heap.size + 1 := by simp
  obtain ⟨ia, ik, im, ic, i1, i2, i3, i4, i5, i6, i7, i8⟩ := hE.ints
  have hwI : ∀ x ∈ [e.a, e.k], isI x := by
    intro x hx
    simp only [List.mem_cons, List.not_mem_nil, or_false] at hx
    rcases hx with rfl | rfl <;> assumption
  have hnl := numsT_len [e.a, e.k] hwI
  simp only [List.length_cons, List.length_nil] at hnl
  have hw : ∀ W' ad, Below w.heap.size w W' → IntsAt W' ad [e.a, e.k] → Calls Tryd.prog 11 #[.slice (some ad) 2 2] W' fun r w'' => r = .returned (.string (tx (numsT [e.a, e.k]))) ∧ Below W'.heap.size W' w'' := fun W' ad hb hA => rwords_any [e.a, e.k] ad 2 W' (hG.here hb) hwI (by show 2 ≤ 1000; decide) hA
  have k0 := cat_r ⟨#[115, 116, 97, 114, 116, 101, 100]⟩ (numsT [e.a, e.k]) (by rw [show (⟨#[115, 116, 97, 114, 116, 101, 100]⟩ : ByteArray).size = 7 from rfl]; omega)
  rw [show bs ⟨#[115, 116, 97, 114, 116, 101, 100]⟩ = wSta from rfl] at k0
  have ht1 : (wSta ++ numsT [e.a, e.k]).length ≤ 7 + 22 * 2 := by rw [List.length_append]; simp only [wSta, List.length_cons, List.length_nil]; omega
  have h2 : ∀ W', Below w.heap.size w W' → Calls Tryd.prog 12 #[.agg #[.int .i64 e.call.op, .int .i64 e.call.h, .int .i64 e.call.h2, .int .i64 e.call.off, .int .i64 e.call.len, .string e.call.path, .string e.call.name, .string e.call.name2, e.call.dv]] W' fun r w'' => r = .returned (.string (tx (e.call.told))) ∧ Below W'.heap.size W' w'' := fun W' hb => rcall_any e.call hE.csm hE.cin W' (hE.cli.below hb) (hG.here hb)
  have hsl := told_len e.call hE.csm hE.cin
  have hL : e.line = ((wSta ++ numsT [e.a, e.k]) ++ [32]) ++ e.call.told := by unfold Ev.line; rw [hk]; show (wSta ++ numsT [e.a, e.k]) ++ 32 :: e.call.told = _; rw [List.append_assoc (wSta ++ numsT [e.a, e.k])]; rfl
  have hsl3 : (e.call.told).length ≤ 5000000000000 := by omega
  generalize (e.call.told) = SC at *
  generalize wSta ++ numsT [e.a, e.k] = T1 at *
  generalize numsT [e.a, e.k] = NS at *
  have k1 := cat_l T1 ⟨#[32]⟩ (by rw [show (⟨#[32]⟩ : ByteArray).size = 1 from rfl]; omega)
  rw [show bs ⟨#[32]⟩ = [32] from rfl] at k1
  have ht2 : (T1 ++ [32]).length ≤ 200 := by rw [List.length_append, List.length_singleton]; omega
  generalize T1 ++ [32] = T2 at *
  have k2 := cat_tx T2 SC (by omega)
  generalize T2 ++ SC = T3 at *
  rw [hL]
  have d1 := hX.cell 1 (.int .i64 e.a) rfl
  have d2 := hX.cell 2 (.int .i64 e.k) rfl
  have d5 := hX.cell 5 (.int .i64 e.call.op) rfl
  have d6 := hX.cell 6 (.int .i64 e.call.h) rfl
  have d7 := hX.cell 7 (.int .i64 e.call.h2) rfl
  have d8 := hX.cell 8 (.int .i64 e.call.off) rfl
  have d9 := hX.cell 9 (.int .i64 e.call.len) rfl
  have d10 := hX.cell 10 (.string e.call.path) rfl
  have d11 := hX.cell 11 (.string e.call.name) rfl
  have d12 := hX.cell 12 (.string e.call.name2) rfl
  have d13 := hX.cell 13 (e.call.dv) rfl
  have hXl := hX.lt
  generalize hw1 : w.alloc (.cells e.vals 38) = w1 at *
  have kc : ∀ W', Below w1.heap.size w1 W' → W'.cell? ⟨w.heap.size, 1, none⟩ = some (.int .i64 e.a) ∧ W'.cell? ⟨w.heap.size, 2, none⟩ = some (.int .i64 e.k) ∧ W'.cell? ⟨w.heap.size, 5, none⟩ = some (.int .i64 e.call.op) ∧ W'.cell? ⟨w.heap.size, 6, none⟩ = some (.int .i64 e.call.h) ∧ W'.cell? ⟨w.heap.size, 7, none⟩ = some (.int .i64 e.call.h2) ∧ W'.cell? ⟨w.heap.size, 8, none⟩ = some (.int .i64 e.call.off) ∧ W'.cell? ⟨w.heap.size, 9, none⟩ = some (.int .i64 e.call.len) ∧ W'.cell? ⟨w.heap.size, 10, none⟩ = some (.string e.call.path) ∧ W'.cell? ⟨w.heap.size, 11, none⟩ = some (.string e.call.name) ∧ W'.cell? ⟨w.heap.size, 12, none⟩ = some (.string e.call.name2) ∧ W'.cell? ⟨w.heap.size, 13, none⟩ = some (e.call.dv) := fun W' hb => ⟨(hb.cell (p := ⟨w.heap.size, 1, none⟩) hXl).trans d1, (hb.cell (p := ⟨w.heap.size, 2, none⟩) hXl).trans d2, (hb.cell (p := ⟨w.heap.size, 5, none⟩) hXl).trans d5, (hb.cell (p := ⟨w.heap.size, 6, none⟩) hXl).trans d6, (hb.cell (p := ⟨w.heap.size, 7, none⟩) hXl).trans d7, (hb.cell (p := ⟨w.heap.size, 8, none⟩) hXl).trans d8, (hb.cell (p := ⟨w.heap.size, 9, none⟩) hXl).trans d9, (hb.cell (p := ⟨w.heap.size, 10, none⟩) hXl).trans d10, (hb.cell (p := ⟨w.heap.size, 11, none⟩) hXl).trans d11, (hb.cell (p := ⟨w.heap.size, 12, none⟩) hXl).trans d12, (hb.cell (p := ⟨w.heap.size, 13, none⟩) hXl).trans d13⟩
  have b2 := b1
  have KC := Lib.hid kc
  have HB2 := Lib.hid b2
  have HW := Lib.hid hw
  have H2 := Lib.hid h2
  clear kc b2 b1 hX hE hG hw h2
  unfold Ev.val
  go_enter Tryd.func5, Tryd.ntmps5
  go_wp2_with fail
  clear d1 d2 d5 d6 d7 d8 d9 d10 d11 d12 d13 d0
  have hbd := (Below.refl w1.heap.size w1).drew
  have hcS := KC.out _ hbd
  refine wp_region_held_drew (S := fun w' => w'.cell? ⟨w.heap.size, 1, none⟩ = some (.int .i64 e.a) ∧ w'.cell? ⟨w.heap.size, 2, none⟩ = some (.int .i64 e.k) ∧ w'.cell? ⟨w.heap.size, 5, none⟩ = some (.int .i64 e.call.op) ∧ w'.cell? ⟨w.heap.size, 6, none⟩ = some (.int .i64 e.call.h) ∧ w'.cell? ⟨w.heap.size, 7, none⟩ = some (.int .i64 e.call.h2) ∧ w'.cell? ⟨w.heap.size, 8, none⟩ = some (.int .i64 e.call.off) ∧ w'.cell? ⟨w.heap.size, 9, none⟩ = some (.int .i64 e.call.len) ∧ w'.cell? ⟨w.heap.size, 10, none⟩ = some (.string e.call.path) ∧ w'.cell? ⟨w.heap.size, 11, none⟩ = some (.string e.call.name) ∧ w'.cell? ⟨w.heap.size, 12, none⟩ = some (.string e.call.name2) ∧ w'.cell? ⟨w.heap.size, 13, none⟩ = some (e.call.dv)) (by kernel_rfl) hcS (fun hHeld => ?_)
  refine wpAnyH_take (i := 0) (oi := ⟨some 21, .fieldAddr 38 (.tmp 1) 1, 0, "show.go:53", #[], none⟩) (v := (.pointer (some ⟨w.heap.size, 1, none⟩))) rfl (by kernel_rfl) (by kernel_rfl) (by kernel_rfl) (fun _ _ _ h => h) (Or.inl ⟨by rfl, fun _ _ => by rfl⟩) hHeld ?_
  simp only [Act.put, List.setIfInBounds_toArray, List.set_cons_zero, List.set_cons_succ]
  refine wpAnyH_take (i := 1) (oi := ⟨some 22, .load 3 (.tmp 21), 3, "show.go:53", #[⟨0, .data⟩], none⟩) (v := (.int .i64 e.a)) rfl (by kernel_rfl) (by kernel_rfl) (by kernel_rfl) (fun _ _ _ h => h) (Or.inl ⟨by rfl, fun w' h' => by have ee := h'.1; unfold execOp; go_simp⟩) hHeld ?_
  simp only [Act.put, List.setIfInBounds_toArray, List.set_cons_zero, List.set_cons_succ]
  refine wpAnyH_take (i := 2) (oi := ⟨some 23, .fieldAddr 38 (.tmp 1) 2, 0, "show.go:53", #[], none⟩) (v := (.pointer (some ⟨w.heap.size, 2, none⟩))) rfl (by kernel_rfl) (by kernel_rfl) (by kernel_rfl) (fun _ _ _ h => h) (Or.inl ⟨by rfl, fun _ _ => by rfl⟩) hHeld ?_
  simp only [Act.put, List.setIfInBounds_toArray, List.set_cons_zero, List.set_cons_succ]
  refine wpAnyH_take (i := 3) (oi := ⟨some 24, .load 3 (.tmp 23), 3, "show.go:53", #[⟨2, .data⟩], none⟩) (v := (.int .i64 e.k)) rfl (by kernel_rfl) (by kernel_rfl) (by kernel_rfl) (fun _ _ _ h => h) (Or.inl ⟨by rfl, fun w' h' => by have ee := h'.2.1; unfold execOp; go_simp⟩) hHeld ?_
  simp only [Act.put, List.setIfInBounds_toArray, List.set_cons_zero, List.set_cons_succ]
  refine wpAnyH_take (i := 8) (oi := ⟨some 29, .fieldAddr 38 (.tmp 1) 5, 0, "show.go:53", #[], none⟩) (v := (.pointer (some ⟨w.heap.size, 5, none⟩))) rfl (by kernel_rfl) (by kernel_rfl) (by kernel_rfl) (fun _ _ _ h => h) (Or.inl ⟨by rfl, fun _ _ => by rfl⟩) hHeld ?_
  simp only [Act.put, List.setIfInBounds_toArray, List.set_cons_zero, List.set_cons_succ]
  refine wpAnyH_take (i := 9) (oi := ⟨some 30, .load 25 (.tmp 29), 25, "show.go:53", #[⟨8, .data⟩], none⟩) (v := (.agg #[.int .i64 e.call.op, .int .i64 e.call.h, .int .i64 e.call.h2, .int .i64 e.call.off, .int .i64 e.call.len, .string e.call.path, .string e.call.name, .string e.call.name2, e.call.dv])) rfl (by kernel_rfl) (by kernel_rfl) (by kernel_rfl) (fun _ _ _ h => h) (Or.inl ⟨by rfl, fun w' h' => by have e0 := h'.2.2.1; have e1 := h'.2.2.2.1; have e2 := h'.2.2.2.2.1; have e3 := h'.2.2.2.2.2.1; have e4 := h'.2.2.2.2.2.2.1; have e5 := h'.2.2.2.2.2.2.2.1; have e6 := h'.2.2.2.2.2.2.2.2.1; have e7 := h'.2.2.2.2.2.2.2.2.2.1; have e8 := h'.2.2.2.2.2.2.2.2.2.2; unfold execOp; go_simp⟩) hHeld ?_
  simp only [Act.put, List.setIfInBounds_toArray, List.set_cons_zero, List.set_cons_succ]
  refine wpAnyH_ready (rs := [4]) (by kernel_rfl) (by simp) ?_
  refine AllReadyH.cons (o := ⟨some 25, .buildSlice 47 2 #[(0, .tmp 22), (1, .tmp 24)], 47, "show.go:53", #[⟨1, .data⟩, ⟨3, .data⟩], none⟩) rfl (fun KK hK => ?_) (AllReadyH.nil)
  go_simp
  have hbA := hbd.alloc hbd.size (.cells #[.int .i64 e.a, .int .i64 e.k] 3)
  have hcA := KC.out _ hbA
  have hia : IntsAt (w1.drew.alloc (.cells #[.int .i64 e.a, .int .i64 e.k] 3)) ⟨w.heap.size + 1, 0, none⟩ [e.a, e.k] := by rw [← hr1]; exact ints_new w1.drew [e.a, e.k] 3
  refine hK.out _ _ hcA (fun hHeld => ?_)
  clear hK KK
  try simp only [Act.put, List.setIfInBounds_toArray, List.set_cons_zero, List.set_cons_succ]
  refine wpAnyH_ready (rs := [5]) (by kernel_rfl) (by simp) ?_
  refine AllReadyH.cons (o := ⟨some 26, .call ⟨.value (.func 11), #[.tmp 25], #[47]⟩, 9, "show.go:53", #[⟨4, .data⟩], none⟩) rfl (fun KK hK => ?_) (AllReadyH.nil)
  go_simp
  refine (HW.out _ _ (HB2.out.trans (hbA.mono HB2.out.size)) hia).mono ?_
  rintro r w9 ⟨rfl, b9⟩
  have hb9 := hbA.trans (b9.mono hbA.size)
  have hc9 := KC.out _ hb9
  clear b9 hia
  go_wp2_with fail
  refine hK.out _ _ hc9 (fun hHeld => ?_)
  clear hK KK
  try simp only [Act.put, List.setIfInBounds_toArray, List.set_cons_zero, List.set_cons_succ]
  refine wpAnyH_take (i := 6) (oi := ⟨some 27, .binOp .add 9 (.const (.string { data := #[115, 116, 97, 114, 116, 101, 100] })) (.tmp 26) 9, 9, "show.go:53", #[⟨5, .data⟩], none⟩) (v := (.string (tx T1))) rfl (by kernel_rfl) (by kernel_rfl) (by kernel_rfl) (fun _ _ _ h => h) (Or.inl ⟨by rfl, fun w' h' => by have ee := k0; unfold execOp; go_simp⟩) hHeld ?_
  simp only [Act.put, List.setIfInBounds_toArray, List.set_cons_zero, List.set_cons_succ]
  refine wpAnyH_take (i := 7) (oi := ⟨some 28, .binOp .add 9 (.tmp 27) (.const (.string { data := #[32] })) 9, 9, "show.go:53", #[⟨6, .data⟩], none⟩) (v := (.string (tx T2))) rfl (by kernel_rfl) (by kernel_rfl) (by kernel_rfl) (fun _ _ _ h => h) (Or.inl ⟨by rfl, fun w' h' => by have ee := k1; unfold execOp; go_simp⟩) hHeld ?_
  simp only [Act.put, List.setIfInBounds_toArray, List.set_cons_zero, List.set_cons_succ]
  refine wpAnyH_ready (rs := [10]) (by kernel_rfl) (by simp) ?_
  refine AllReadyH.cons (o := ⟨some 31, .call ⟨.value (.func 12), #[.tmp 30], #[25]⟩, 9, "show.go:53", #[⟨9, .data⟩, ⟨5, .chain⟩], none⟩) rfl (fun KK hK => ?_) (AllReadyH.nil)
  go_simp
  refine (H2.out _ (HB2.out.trans (hb9.mono HB2.out.size))).mono ?_
  rintro r w10 ⟨rfl, b10⟩
  have hb10 := hb9.trans (b10.mono hb9.size)
  have hc10 := KC.out _ hb10
  clear b10
  go_wp2_with fail
  refine hK.out _ _ hc10 (fun hHeld => ?_)
  clear hK KK
  try simp only [Act.put, List.setIfInBounds_toArray, List.set_cons_zero, List.set_cons_succ]
  refine wpAnyH_take (i := 11) (oi := ⟨some 32, .binOp .add 9 (.tmp 28) (.tmp 31) 9, 9, "show.go:53", #[⟨7, .data⟩, ⟨10, .data⟩], none⟩) (v := (.string (tx T3))) rfl (by kernel_rfl) (by kernel_rfl) (by kernel_rfl) (fun _ _ _ h => h) (Or.inl ⟨by rfl, fun w' h' => by have ee := k2; unfold execOp; go_simp⟩) hHeld ?_
  simp only [Act.put, List.setIfInBounds_toArray, List.set_cons_zero, List.set_cons_succ]
  refine wpAnyH_take (i := 12) (oi := ⟨some 2, .assign (.tmp 32), 9, "show.go:53", #[⟨11, .data⟩, ⟨10, .chain⟩, ⟨0, .phase⟩, ⟨1, .phase⟩, ⟨2, .phase⟩, ⟨3, .phase⟩, ⟨4, .phase⟩, ⟨5, .phase⟩, ⟨6, .phase⟩, ⟨7, .phase⟩, ⟨8, .phase⟩, ⟨9, .phase⟩, ⟨10, .phase⟩, ⟨11, .phase⟩], none⟩) (v := (.string (tx T3))) rfl (by kernel_rfl) (by kernel_rfl) (by kernel_rfl) (fun _ _ _ h => h) (Or.inl ⟨by rfl, fun _ _ => by rfl⟩) hHeld ?_
  simp only [Act.put, List.setIfInBounds_toArray, List.set_cons_zero, List.set_cons_succ]
  refine wpAnyH_done (by kernel_rfl) ?_ _
  have HB10 := Lib.hid (HB2.out.trans (hb10.mono HB2.out.size))
  clear hb10 hc10
  go_wp2_with fail
  go_ret
  exact ⟨rfl, HB10.out⟩

set_option maxHeartbeats 4000000 in
theorem showD_3 (e : Ev) (hk : e.kind = 3) (w : World) (hE : e.Ok w) (hG : Gl w) : Calls Tryd.prog 5 #[e.val] w fun r w' => r = .returned (.string (tx e.line)) ∧ Below w.heap.size w w' := by
  have hX := EBx.new w e
  have b1 : Below w.heap.size w (w.alloc (.cells e.vals 38)) := (Below.refl _ w).alloc (Nat.le_refl _) _
  have d0 := hX.cell 0 (.int .i64 e.kind) rfl
  rw [hk] at d0
  have hv : e.vals.size = 36 := rfl
  have hr1 : (w.alloc (.cells e.vals 38)).heap.size = w.heap.size + 1 := by simp
  obtain ⟨ia, ik, im, ic, i1, i2, i3, i4, i5, i6, i7, i8⟩ := hE.ints
  have hwI : ∀ x ∈ [e.a, e.k], isI x := by
    intro x hx
    simp only [List.mem_cons, List.not_mem_nil, or_false] at hx
    rcases hx with rfl | rfl <;> assumption
  have hnl := numsT_len [e.a, e.k] hwI
  simp only [List.length_cons, List.length_nil] at hnl
  have hw : ∀ W' ad, Below w.heap.size w W' → IntsAt W' ad [e.a, e.k] → Calls Tryd.prog 11 #[.slice (some ad) 2 2] W' fun r w'' => r = .returned (.string (tx (numsT [e.a, e.k]))) ∧ Below W'.heap.size W' w'' := fun W' ad hb hA => rwords_any [e.a, e.k] ad 2 W' (hG.here hb) hwI (by show 2 ≤ 1000; decide) hA
  have k0 := cat_r ⟨#[115, 101, 110, 116]⟩ (numsT [e.a, e.k]) (by rw [show (⟨#[115, 101, 110, 116]⟩ : ByteArray).size = 4 from rfl]; omega)
  rw [show bs ⟨#[115, 101, 110, 116]⟩ = wSen from rfl] at k0
  have ht1 : (wSen ++ numsT [e.a, e.k]).length ≤ 4 + 22 * 2 := by rw [List.length_append]; simp only [wSen, List.length_cons, List.length_nil]; omega
  have hL : e.line = wSen ++ numsT [e.a, e.k] := by unfold Ev.line; rw [hk]; rfl
  generalize wSen ++ numsT [e.a, e.k] = T1 at *
  generalize numsT [e.a, e.k] = NS at *
  rw [hL]
  have d1 := hX.cell 1 (.int .i64 e.a) rfl
  have d2 := hX.cell 2 (.int .i64 e.k) rfl
  have hXl := hX.lt
  generalize hw1 : w.alloc (.cells e.vals 38) = w1 at *
  have hR := hw (w1.alloc (.cells #[.int .i64 e.a, .int .i64 e.k] 3)) ⟨w.heap.size + 1, 0, none⟩ (b1.alloc (by omega) _) (by rw [← hr1]; exact ints_new w1 [e.a, e.k] 3)
  have HB1 := Lib.hid (b1.alloc (by omega) (.cells #[.int .i64 e.a, .int .i64 e.k] 3))
  clear b1 hX hE hG hw
  unfold Ev.val
  go_enter Tryd.func5, Tryd.ntmps5
  go_wp2_with fail
  refine hR.mono ?_
  rintro r w5 ⟨rfl, b5⟩
  clear hR
  go_wp2_with fail
  go_ret
  exact ⟨rfl, HB1.out.trans (b5.mono HB1.out.size)⟩

set_option maxHeartbeats 4000000 in
theorem showD_4 (e : Ev) (hk : e.kind = 4) (w : World) (hE : e.Ok w) (hG : Gl w) : Calls Tryd.prog 5 #[e.val] w fun r w' => r = .returned (.string (tx e.line)) ∧ Below w.heap.size w w' := by
  have hX := EBx.new w e
  have b1 : Below w.heap.size w (w.alloc (.cells e.vals 38)) := (Below.refl _ w).alloc (Nat.le_refl _) _
  have d0 := hX.cell 0 (.int .i64 e.kind) rfl
  rw [hk] at d0
  have hv : e.vals.size = 36 := rfl
  have hr1 : (w.alloc (.cells e.vals 38)).heap.size = w.heap.size + 1 := by simp
  obtain ⟨ia, ik, im, ic, i1, i2, i3, i4, i5, i6, i7, i8⟩ := hE.ints
  have hwI : ∀ x ∈ [e.k], isI x := by
    intro x hx
    simp only [List.mem_cons, List.not_mem_nil, or_false] at hx
    rcases hx with rfl <;> assumption
  have hnl := numsT_len [e.k] hwI
  simp only [List.length_cons, List.length_nil] at hnl
  have hw : ∀ W' ad, Below w.heap.size w W' → IntsAt W' ad [e.k] → Calls Tryd.prog 11 #[.slice (some ad) 1 1] W' fun r w'' => r = .returned (.string (tx (numsT [e.k]))) ∧ Below W'.heap.size W' w'' := fun W' ad hb hA => rwords_any [e.k] ad 1 W' (hG.here hb) hwI (by show 1 ≤ 1000; decide) hA
  have k0 := cat_r ⟨#[115, 101, 114, 118, 101, 100]⟩ (numsT [e.k]) (by rw [show (⟨#[115, 101, 114, 118, 101, 100]⟩ : ByteArray).size = 6 from rfl]; omega)
  rw [show bs ⟨#[115, 101, 114, 118, 101, 100]⟩ = wSer from rfl] at k0
  have ht1 : (wSer ++ numsT [e.k]).length ≤ 6 + 22 * 1 := by rw [List.length_append]; simp only [wSer, List.length_cons, List.length_nil]; omega
  have hL : e.line = wSer ++ numsT [e.k] := by unfold Ev.line; rw [hk]; rfl
  generalize wSer ++ numsT [e.k] = T1 at *
  generalize numsT [e.k] = NS at *
  rw [hL]
  have d2 := hX.cell 2 (.int .i64 e.k) rfl
  have hXl := hX.lt
  generalize hw1 : w.alloc (.cells e.vals 38) = w1 at *
  have hR := hw (w1.alloc (.cells #[.int .i64 e.k] 3)) ⟨w.heap.size + 1, 0, none⟩ (b1.alloc (by omega) _) (by rw [← hr1]; exact ints_new w1 [e.k] 3)
  have HB1 := Lib.hid (b1.alloc (by omega) (.cells #[.int .i64 e.k] 3))
  clear b1 hX hE hG hw
  unfold Ev.val
  go_enter Tryd.func5, Tryd.ntmps5
  go_wp2_with fail
  refine hR.mono ?_
  rintro r w5 ⟨rfl, b5⟩
  clear hR
  go_wp2_with fail
  go_ret
  exact ⟨rfl, HB1.out.trans (b5.mono HB1.out.size)⟩

set_option maxHeartbeats 4000000 in
theorem showD_5 (e : Ev) (hk : e.kind = 5) (w : World) (hE : e.Ok w) (hG : Gl w) : Calls Tryd.prog 5 #[e.val] w fun r w' => r = .returned (.string (tx e.line)) ∧ Below w.heap.size w w' := by
  have hX := EBx.new w e
  have b1 : Below w.heap.size w (w.alloc (.cells e.vals 38)) := (Below.refl _ w).alloc (Nat.le_refl _) _
  have d0 := hX.cell 0 (.int .i64 e.kind) rfl
  rw [hk] at d0
  have hv : e.vals.size = 36 := rfl
  have hr1 : (w.alloc (.cells e.vals 38)).heap.size = w.heap.size + 1 := by simp
  obtain ⟨ia, ik, im, ic, i1, i2, i3, i4, i5, i6, i7, i8⟩ := hE.ints
  have hwI : ∀ x ∈ [e.a], isI x := by
    intro x hx
    simp only [List.mem_cons, List.not_mem_nil, or_false] at hx
    rcases hx with rfl <;> assumption
  have hnl := numsT_len [e.a] hwI
  simp only [List.length_cons, List.length_nil] at hnl
  have hw : ∀ W' ad, Below w.heap.size w W' → IntsAt W' ad [e.a] → Calls Tryd.prog 11 #[.slice (some ad) 1 1] W' fun r w'' => r = .returned (.string (tx (numsT [e.a]))) ∧ Below W'.heap.size W' w'' := fun W' ad hb hA => rwords_any [e.a] ad 1 W' (hG.here hb) hwI (by show 1 ≤ 1000; decide) hA
  have k0 := cat_r ⟨#[114, 101, 116, 117, 114, 110, 101, 100]⟩ (numsT [e.a]) (by rw [show (⟨#[114, 101, 116, 117, 114, 110, 101, 100]⟩ : ByteArray).size = 8 from rfl]; omega)
  rw [show bs ⟨#[114, 101, 116, 117, 114, 110, 101, 100]⟩ = retW from rfl] at k0
  have ht1 : (retW ++ numsT [e.a]).length ≤ 8 + 22 * 1 := by rw [List.length_append]; simp only [retW, List.length_cons, List.length_nil]; omega
  have h2 : ∀ W', Below w.heap.size w W' → Calls Tryd.prog 13 #[.agg #[.int .i64 e.res.call, .int .i64 e.res.op, .int .i64 e.res.st, .int .i64 e.res.hd, .int .i64 e.res.ai, .int .i64 e.res.ak, .int .i64 e.res.az, .int .i64 e.res.ac, e.res.dv, e.res.lv, .bool e.res.more]] W' fun r w'' => r = .returned (.string (tx (e.res.rest))) ∧ Below W'.heap.size W' w'' := fun W' hb => rresult_any e.res W' (hE.res.below hb) (hG.here hb)
  have hsl := rest_len e.res hE.res
  have hL : e.line = (retW ++ numsT [e.a]) ++ e.res.rest := by unfold Ev.line; rw [hk]; rfl
  have hsl3 : (e.res.rest).length ≤ 5000000000000 := by omega
  generalize (e.res.rest) = SC at *
  generalize retW ++ numsT [e.a] = T1 at *
  generalize numsT [e.a] = NS at *
  have k2 := cat_tx T1 SC (by omega)
  generalize T1 ++ SC = T3 at *
  rw [hL]
  have d1 := hX.cell 1 (.int .i64 e.a) rfl
  have d14 := hX.cell 14 (.int .i64 e.res.call) rfl
  have d15 := hX.cell 15 (.int .i64 e.res.op) rfl
  have d16 := hX.cell 16 (.int .i64 e.res.st) rfl
  have d17 := hX.cell 17 (.int .i64 e.res.hd) rfl
  have d18 := hX.cell 18 (.int .i64 e.res.ai) rfl
  have d19 := hX.cell 19 (.int .i64 e.res.ak) rfl
  have d20 := hX.cell 20 (.int .i64 e.res.az) rfl
  have d21 := hX.cell 21 (.int .i64 e.res.ac) rfl
  have d22 := hX.cell 22 (e.res.dv) rfl
  have d23 := hX.cell 23 (e.res.lv) rfl
  have d24 := hX.cell 24 (.bool e.res.more) rfl
  have hXl := hX.lt
  generalize hw1 : w.alloc (.cells e.vals 38) = w1 at *
  have kc : ∀ W', Below w1.heap.size w1 W' → W'.cell? ⟨w.heap.size, 1, none⟩ = some (.int .i64 e.a) ∧ W'.cell? ⟨w.heap.size, 14, none⟩ = some (.int .i64 e.res.call) ∧ W'.cell? ⟨w.heap.size, 15, none⟩ = some (.int .i64 e.res.op) ∧ W'.cell? ⟨w.heap.size, 16, none⟩ = some (.int .i64 e.res.st) ∧ W'.cell? ⟨w.heap.size, 17, none⟩ = some (.int .i64 e.res.hd) ∧ W'.cell? ⟨w.heap.size, 18, none⟩ = some (.int .i64 e.res.ai) ∧ W'.cell? ⟨w.heap.size, 19, none⟩ = some (.int .i64 e.res.ak) ∧ W'.cell? ⟨w.heap.size, 20, none⟩ = some (.int .i64 e.res.az) ∧ W'.cell? ⟨w.heap.size, 21, none⟩ = some (.int .i64 e.res.ac) ∧ W'.cell? ⟨w.heap.size, 22, none⟩ = some (e.res.dv) ∧ W'.cell? ⟨w.heap.size, 23, none⟩ = some (e.res.lv) ∧ W'.cell? ⟨w.heap.size, 24, none⟩ = some (.bool e.res.more) := fun W' hb => ⟨(hb.cell (p := ⟨w.heap.size, 1, none⟩) hXl).trans d1, (hb.cell (p := ⟨w.heap.size, 14, none⟩) hXl).trans d14, (hb.cell (p := ⟨w.heap.size, 15, none⟩) hXl).trans d15, (hb.cell (p := ⟨w.heap.size, 16, none⟩) hXl).trans d16, (hb.cell (p := ⟨w.heap.size, 17, none⟩) hXl).trans d17, (hb.cell (p := ⟨w.heap.size, 18, none⟩) hXl).trans d18, (hb.cell (p := ⟨w.heap.size, 19, none⟩) hXl).trans d19, (hb.cell (p := ⟨w.heap.size, 20, none⟩) hXl).trans d20, (hb.cell (p := ⟨w.heap.size, 21, none⟩) hXl).trans d21, (hb.cell (p := ⟨w.heap.size, 22, none⟩) hXl).trans d22, (hb.cell (p := ⟨w.heap.size, 23, none⟩) hXl).trans d23, (hb.cell (p := ⟨w.heap.size, 24, none⟩) hXl).trans d24⟩
  have b2 := b1
  have KC := Lib.hid kc
  have HB2 := Lib.hid b2
  have HW := Lib.hid hw
  have H2 := Lib.hid h2
  clear kc b2 b1 hX hE hG hw h2
  unfold Ev.val
  go_enter Tryd.func5, Tryd.ntmps5
  go_wp2_with fail
  clear d1 d14 d15 d16 d17 d18 d19 d20 d21 d22 d23 d24 d0
  have hbd := (Below.refl w1.heap.size w1).drew
  have hcS := KC.out _ hbd
  refine wp_region_held_drew (S := fun w' => w'.cell? ⟨w.heap.size, 1, none⟩ = some (.int .i64 e.a) ∧ w'.cell? ⟨w.heap.size, 14, none⟩ = some (.int .i64 e.res.call) ∧ w'.cell? ⟨w.heap.size, 15, none⟩ = some (.int .i64 e.res.op) ∧ w'.cell? ⟨w.heap.size, 16, none⟩ = some (.int .i64 e.res.st) ∧ w'.cell? ⟨w.heap.size, 17, none⟩ = some (.int .i64 e.res.hd) ∧ w'.cell? ⟨w.heap.size, 18, none⟩ = some (.int .i64 e.res.ai) ∧ w'.cell? ⟨w.heap.size, 19, none⟩ = some (.int .i64 e.res.ak) ∧ w'.cell? ⟨w.heap.size, 20, none⟩ = some (.int .i64 e.res.az) ∧ w'.cell? ⟨w.heap.size, 21, none⟩ = some (.int .i64 e.res.ac) ∧ w'.cell? ⟨w.heap.size, 22, none⟩ = some (e.res.dv) ∧ w'.cell? ⟨w.heap.size, 23, none⟩ = some (e.res.lv) ∧ w'.cell? ⟨w.heap.size, 24, none⟩ = some (.bool e.res.more)) (by kernel_rfl) hcS (fun hHeld => ?_)
  refine wpAnyH_take (i := 0) (oi := ⟨some 51, .fieldAddr 38 (.tmp 1) 1, 0, "show.go:59", #[], none⟩) (v := (.pointer (some ⟨w.heap.size, 1, none⟩))) rfl (by kernel_rfl) (by kernel_rfl) (by kernel_rfl) (fun _ _ _ h => h) (Or.inl ⟨by rfl, fun _ _ => by rfl⟩) hHeld ?_
  simp only [Act.put, List.setIfInBounds_toArray, List.set_cons_zero, List.set_cons_succ]
  refine wpAnyH_take (i := 1) (oi := ⟨some 52, .load 3 (.tmp 51), 3, "show.go:59", #[⟨0, .data⟩], none⟩) (v := (.int .i64 e.a)) rfl (by kernel_rfl) (by kernel_rfl) (by kernel_rfl) (fun _ _ _ h => h) (Or.inl ⟨by rfl, fun w' h' => by have ee := h'.1; unfold execOp; go_simp⟩) hHeld ?_
  simp only [Act.put, List.setIfInBounds_toArray, List.set_cons_zero, List.set_cons_succ]
  refine wpAnyH_take (i := 5) (oi := ⟨some 56, .fieldAddr 38 (.tmp 1) 6, 0, "show.go:59", #[], none⟩) (v := (.pointer (some ⟨w.heap.size, 14, none⟩))) rfl (by kernel_rfl) (by kernel_rfl) (by kernel_rfl) (fun _ _ _ h => h) (Or.inl ⟨by rfl, fun _ _ => by rfl⟩) hHeld ?_
  simp only [Act.put, List.setIfInBounds_toArray, List.set_cons_zero, List.set_cons_succ]
  refine wpAnyH_take (i := 6) (oi := ⟨some 57, .load 30 (.tmp 56), 30, "show.go:59", #[⟨5, .data⟩], none⟩) (v := (.agg #[.int .i64 e.res.call, .int .i64 e.res.op, .int .i64 e.res.st, .int .i64 e.res.hd, .int .i64 e.res.ai, .int .i64 e.res.ak, .int .i64 e.res.az, .int .i64 e.res.ac, e.res.dv, e.res.lv, .bool e.res.more])) rfl (by kernel_rfl) (by kernel_rfl) (by kernel_rfl) (fun _ _ _ h => h) (Or.inl ⟨by rfl, fun w' h' => by have e0 := h'.2.1; have e1 := h'.2.2.1; have e2 := h'.2.2.2.1; have e3 := h'.2.2.2.2.1; have e4 := h'.2.2.2.2.2.1; have e5 := h'.2.2.2.2.2.2.1; have e6 := h'.2.2.2.2.2.2.2.1; have e7 := h'.2.2.2.2.2.2.2.2.1; have e8 := h'.2.2.2.2.2.2.2.2.2.1; have e9 := h'.2.2.2.2.2.2.2.2.2.2.1; have e10 := h'.2.2.2.2.2.2.2.2.2.2.2; unfold execOp; go_simp⟩) hHeld ?_
  simp only [Act.put, List.setIfInBounds_toArray, List.set_cons_zero, List.set_cons_succ]
  refine wpAnyH_ready (rs := [2]) (by kernel_rfl) (by simp) ?_
  refine AllReadyH.cons (o := ⟨some 53, .buildSlice 47 1 #[(0, .tmp 52)], 47, "show.go:59", #[⟨1, .data⟩], none⟩) rfl (fun KK hK => ?_) (AllReadyH.nil)
  go_simp
  have hbA := hbd.alloc hbd.size (.cells #[.int .i64 e.a] 3)
  have hcA := KC.out _ hbA
  have hia : IntsAt (w1.drew.alloc (.cells #[.int .i64 e.a] 3)) ⟨w.heap.size + 1, 0, none⟩ [e.a] := by rw [← hr1]; exact ints_new w1.drew [e.a] 3
  refine hK.out _ _ hcA (fun hHeld => ?_)
  clear hK KK
  try simp only [Act.put, List.setIfInBounds_toArray, List.set_cons_zero, List.set_cons_succ]
  refine wpAnyH_ready (rs := [3]) (by kernel_rfl) (by simp) ?_
  refine AllReadyH.cons (o := ⟨some 54, .call ⟨.value (.func 11), #[.tmp 53], #[47]⟩, 9, "show.go:59", #[⟨2, .data⟩], none⟩) rfl (fun KK hK => ?_) (AllReadyH.nil)
  go_simp
  refine (HW.out _ _ (HB2.out.trans (hbA.mono HB2.out.size)) hia).mono ?_
  rintro r w9 ⟨rfl, b9⟩
  have hb9 := hbA.trans (b9.mono hbA.size)
  have hc9 := KC.out _ hb9
  clear b9 hia
  go_wp2_with fail
  refine hK.out _ _ hc9 (fun hHeld => ?_)
  clear hK KK
  try simp only [Act.put, List.setIfInBounds_toArray, List.set_cons_zero, List.set_cons_succ]
  refine wpAnyH_take (i := 4) (oi := ⟨some 55, .binOp .add 9 (.const (.string { data := #[114, 101, 116, 117, 114, 110, 101, 100] })) (.tmp 54) 9, 9, "show.go:59", #[⟨3, .data⟩], none⟩) (v := (.string (tx T1))) rfl (by kernel_rfl) (by kernel_rfl) (by kernel_rfl) (fun _ _ _ h => h) (Or.inl ⟨by rfl, fun w' h' => by have ee := k0; unfold execOp; go_simp⟩) hHeld ?_
  simp only [Act.put, List.setIfInBounds_toArray, List.set_cons_zero, List.set_cons_succ]
  refine wpAnyH_ready (rs := [7]) (by kernel_rfl) (by simp) ?_
  refine AllReadyH.cons (o := ⟨some 58, .call ⟨.value (.func 13), #[.tmp 57], #[30]⟩, 9, "show.go:59", #[⟨6, .data⟩, ⟨3, .chain⟩], none⟩) rfl (fun KK hK => ?_) (AllReadyH.nil)
  go_simp
  refine (H2.out _ (HB2.out.trans (hb9.mono HB2.out.size))).mono ?_
  rintro r w10 ⟨rfl, b10⟩
  have hb10 := hb9.trans (b10.mono hb9.size)
  have hc10 := KC.out _ hb10
  clear b10
  go_wp2_with fail
  refine hK.out _ _ hc10 (fun hHeld => ?_)
  clear hK KK
  try simp only [Act.put, List.setIfInBounds_toArray, List.set_cons_zero, List.set_cons_succ]
  refine wpAnyH_take (i := 8) (oi := ⟨some 59, .binOp .add 9 (.tmp 55) (.tmp 58) 9, 9, "show.go:59", #[⟨4, .data⟩, ⟨7, .data⟩], none⟩) (v := (.string (tx T3))) rfl (by kernel_rfl) (by kernel_rfl) (by kernel_rfl) (fun _ _ _ h => h) (Or.inl ⟨by rfl, fun w' h' => by have ee := k2; unfold execOp; go_simp⟩) hHeld ?_
  simp only [Act.put, List.setIfInBounds_toArray, List.set_cons_zero, List.set_cons_succ]
  refine wpAnyH_take (i := 9) (oi := ⟨some 2, .assign (.tmp 59), 9, "show.go:59", #[⟨8, .data⟩, ⟨7, .chain⟩, ⟨0, .phase⟩, ⟨1, .phase⟩, ⟨2, .phase⟩, ⟨3, .phase⟩, ⟨4, .phase⟩, ⟨5, .phase⟩, ⟨6, .phase⟩, ⟨7, .phase⟩, ⟨8, .phase⟩], none⟩) (v := (.string (tx T3))) rfl (by kernel_rfl) (by kernel_rfl) (by kernel_rfl) (fun _ _ _ h => h) (Or.inl ⟨by rfl, fun _ _ => by rfl⟩) hHeld ?_
  simp only [Act.put, List.setIfInBounds_toArray, List.set_cons_zero, List.set_cons_succ]
  refine wpAnyH_done (by kernel_rfl) ?_ _
  have HB10 := Lib.hid (HB2.out.trans (hb10.mono HB2.out.size))
  clear hb10 hc10
  go_wp2_with fail
  go_ret
  exact ⟨rfl, HB10.out⟩

set_option maxHeartbeats 4000000 in
theorem showD_6 (e : Ev) (hk : e.kind = 6) (w : World) (hE : e.Ok w) (hG : Gl w) : Calls Tryd.prog 5 #[e.val] w fun r w' => r = .returned (.string (tx e.line)) ∧ Below w.heap.size w w' := by
  have hX := EBx.new w e
  have b1 : Below w.heap.size w (w.alloc (.cells e.vals 38)) := (Below.refl _ w).alloc (Nat.le_refl _) _
  have d0 := hX.cell 0 (.int .i64 e.kind) rfl
  rw [hk] at d0
  have hv : e.vals.size = 36 := rfl
  have hr1 : (w.alloc (.cells e.vals 38)).heap.size = w.heap.size + 1 := by simp
  obtain ⟨ia, ik, im, ic, i1, i2, i3, i4, i5, i6, i7, i8⟩ := hE.ints
  have hwI : ∀ x ∈ [e.a, e.hn, e.hi, e.he], isI x := by
    intro x hx
    simp only [List.mem_cons, List.not_mem_nil, or_false] at hx
    rcases hx with rfl | rfl | rfl | rfl <;> assumption
  have hnl := numsT_len [e.a, e.hn, e.hi, e.he] hwI
  simp only [List.length_cons, List.length_nil] at hnl
  have hw : ∀ W' ad, Below w.heap.size w W' → IntsAt W' ad [e.a, e.hn, e.hi, e.he] → Calls Tryd.prog 11 #[.slice (some ad) 4 4] W' fun r w'' => r = .returned (.string (tx (numsT [e.a, e.hn, e.hi, e.he]))) ∧ Below W'.heap.size W' w'' := fun W' ad hb hA => rwords_any [e.a, e.hn, e.hi, e.he] ad 4 W' (hG.here hb) hwI (by show 4 ≤ 1000; decide) hA
  have k0 := cat_r ⟨#[104, 97, 110, 100, 108, 101]⟩ (numsT [e.a, e.hn, e.hi, e.he]) (by rw [show (⟨#[104, 97, 110, 100, 108, 101]⟩ : ByteArray).size = 6 from rfl]; omega)
  rw [show bs ⟨#[104, 97, 110, 100, 108, 101]⟩ = wHan from rfl] at k0
  have ht1 : (wHan ++ numsT [e.a, e.hn, e.hi, e.he]).length ≤ 6 + 22 * 4 := by rw [List.length_append]; simp only [wHan, List.length_cons, List.length_nil]; omega
  have h2 : ∀ W', Below w.heap.size w W' → Calls Tryd.prog 14 #[.string e.hp] W' fun r w'' => r = .returned (.string (tx (textT (bs e.hp)))) ∧ Below W'.heap.size W' w'' := fun W' hb => RText_any e.hp W' (by have := hE.hps; omega)
  have hsl := textT_len (bs e.hp)
  have hsl2 := hE.hps
  rw [size_bs] at hsl
  have hL : e.line = ((wHan ++ numsT [e.a, e.hn, e.hi, e.he]) ++ [32]) ++ textT (bs e.hp) := by unfold Ev.line; rw [hk]; show (wHan ++ numsT [e.a, e.hn, e.hi, e.he]) ++ 32 :: textT (bs e.hp) = _; rw [List.append_assoc (wHan ++ numsT [e.a, e.hn, e.hi, e.he])]; rfl
  have hsl3 : (textT (bs e.hp)).length ≤ 5000000000000 := by omega
  generalize (textT (bs e.hp)) = SC at *
  generalize wHan ++ numsT [e.a, e.hn, e.hi, e.he] = T1 at *
  generalize numsT [e.a, e.hn, e.hi, e.he] = NS at *
  have k1 := cat_l T1 ⟨#[32]⟩ (by rw [show (⟨#[32]⟩ : ByteArray).size = 1 from rfl]; omega)
  rw [show bs ⟨#[32]⟩ = [32] from rfl] at k1
  have ht2 : (T1 ++ [32]).length ≤ 200 := by rw [List.length_append, List.length_singleton]; omega
  generalize T1 ++ [32] = T2 at *
  have k2 := cat_tx T2 SC (by omega)
  generalize T2 ++ SC = T3 at *
  rw [hL]
  have d1 := hX.cell 1 (.int .i64 e.a) rfl
  have d25 := hX.cell 25 (.int .i64 e.hn) rfl
  have d26 := hX.cell 26 (.int .i64 e.hi) rfl
  have d27 := hX.cell 27 (.int .i64 e.he) rfl
  have d28 := hX.cell 28 (.string e.hp) rfl
  have hXl := hX.lt
  generalize hw1 : w.alloc (.cells e.vals 38) = w1 at *
  have hC0 : (w1.alloc (.cells #[.int .i64 e.hn, .int .i64 e.hi, .int .i64 e.he, .string e.hp] 32)).heap[w.heap.size + 1]? = some (.cells #[.int .i64 e.hn, .int .i64 e.hi, .int .i64 e.he, .string e.hp] 32 (0, 0)) := by rw [← hr1]; exact heap_alloc_new _ _
  have kc : ∀ W', Below (w1.alloc (.cells #[.int .i64 e.hn, .int .i64 e.hi, .int .i64 e.he, .string e.hp] 32)).heap.size (w1.alloc (.cells #[.int .i64 e.hn, .int .i64 e.hi, .int .i64 e.he, .string e.hp] 32)) W' → W'.cell? ⟨w.heap.size, 1, none⟩ = some (.int .i64 e.a) ∧ W'.cell? ⟨(w.heap.size + 1), 0, none⟩ = some (.int .i64 e.hn) ∧ W'.cell? ⟨(w.heap.size + 1), 1, none⟩ = some (.int .i64 e.hi) ∧ W'.cell? ⟨(w.heap.size + 1), 2, none⟩ = some (.int .i64 e.he) ∧ W'.cell? ⟨(w.heap.size + 1), 3, none⟩ = some (.string e.hp) := fun W' hb => ⟨(hb.cell (p := ⟨w.heap.size, 1, none⟩) (by simp; omega)).trans ((((Below.refl _ w1).alloc (Nat.le_refl _) _).cell (p := ⟨w.heap.size, 1, none⟩) hXl).trans d1), (by have hh := (hb.block (w.heap.size + 1) (by simp; omega)).trans hC0; rw [Lib.cell_of_heap hh]; rfl), (by have hh := (hb.block (w.heap.size + 1) (by simp; omega)).trans hC0; rw [Lib.cell_of_heap hh]; rfl), (by have hh := (hb.block (w.heap.size + 1) (by simp; omega)).trans hC0; rw [Lib.cell_of_heap hh]; rfl), (by have hh := (hb.block (w.heap.size + 1) (by simp; omega)).trans hC0; rw [Lib.cell_of_heap hh]; rfl)⟩
  have b2 : Below w.heap.size w (w1.alloc (.cells #[.int .i64 e.hn, .int .i64 e.hi, .int .i64 e.he, .string e.hp] 32)) := b1.alloc (by omega) _
  have KC := Lib.hid kc
  have HB2 := Lib.hid b2
  have HW := Lib.hid hw
  have H2 := Lib.hid h2
  clear kc b2 b1 hX hE hG hw h2 hC0
  unfold Ev.val
  go_enter Tryd.func5, Tryd.ntmps5
  go_wp2_with fail
  generalize w1.alloc (.cells #[.int .i64 e.hn, .int .i64 e.hi, .int .i64 e.he, .string e.hp] 32) = W0 at *
  clear d1 d25 d26 d27 d28 d0
  have hbd := (Below.refl W0.heap.size W0).drew
  have hcS := KC.out _ hbd
  refine wp_region_held_drew (S := fun w' => w'.cell? ⟨w.heap.size, 1, none⟩ = some (.int .i64 e.a) ∧ w'.cell? ⟨(w.heap.size + 1), 0, none⟩ = some (.int .i64 e.hn) ∧ w'.cell? ⟨(w.heap.size + 1), 1, none⟩ = some (.int .i64 e.hi) ∧ w'.cell? ⟨(w.heap.size + 1), 2, none⟩ = some (.int .i64 e.he) ∧ w'.cell? ⟨(w.heap.size + 1), 3, none⟩ = some (.string e.hp)) (by kernel_rfl) hcS (fun hHeld => ?_)
  refine wpAnyH_take (i := 0) (oi := ⟨some 64, .fieldAddr 38 (.tmp 1) 1, 0, "show.go:62", #[], none⟩) (v := (.pointer (some ⟨w.heap.size, 1, none⟩))) rfl (by kernel_rfl) (by kernel_rfl) (by kernel_rfl) (fun _ _ _ h => h) (Or.inl ⟨by rfl, fun _ _ => by rfl⟩) hHeld ?_
  simp only [Act.put, List.setIfInBounds_toArray, List.set_cons_zero, List.set_cons_succ]
  refine wpAnyH_take (i := 1) (oi := ⟨some 65, .load 3 (.tmp 64), 3, "show.go:62", #[⟨0, .data⟩], none⟩) (v := (.int .i64 e.a)) rfl (by kernel_rfl) (by kernel_rfl) (by kernel_rfl) (fun _ _ _ h => h) (Or.inl ⟨by rfl, fun w' h' => by have ee := h'.1; unfold execOp; go_simp⟩) hHeld ?_
  simp only [Act.put, List.setIfInBounds_toArray, List.set_cons_zero, List.set_cons_succ]
  refine wpAnyH_take (i := 2) (oi := ⟨some 66, .fieldAddr 32 (.tmp 3) 0, 0, "show.go:62", #[], none⟩) (v := (.pointer (some ⟨(w.heap.size + 1), 0, none⟩))) rfl (by kernel_rfl) (by kernel_rfl) (by kernel_rfl) (fun _ _ _ h => h) (Or.inl ⟨by rfl, fun _ _ => by rfl⟩) hHeld ?_
  simp only [Act.put, List.setIfInBounds_toArray, List.set_cons_zero, List.set_cons_succ]
  refine wpAnyH_take (i := 3) (oi := ⟨some 67, .load 3 (.tmp 66), 3, "show.go:62", #[⟨2, .data⟩], none⟩) (v := (.int .i64 e.hn)) rfl (by kernel_rfl) (by kernel_rfl) (by kernel_rfl) (fun _ _ _ h => h) (Or.inl ⟨by rfl, fun w' h' => by have ee := h'.2.1; unfold execOp; go_simp⟩) hHeld ?_
  simp only [Act.put, List.setIfInBounds_toArray, List.set_cons_zero, List.set_cons_succ]
  refine wpAnyH_take (i := 4) (oi := ⟨some 68, .fieldAddr 32 (.tmp 3) 1, 0, "show.go:62", #[], none⟩) (v := (.pointer (some ⟨(w.heap.size + 1), 1, none⟩))) rfl (by kernel_rfl) (by kernel_rfl) (by kernel_rfl) (fun _ _ _ h => h) (Or.inl ⟨by rfl, fun _ _ => by rfl⟩) hHeld ?_
  simp only [Act.put, List.setIfInBounds_toArray, List.set_cons_zero, List.set_cons_succ]
  refine wpAnyH_take (i := 5) (oi := ⟨some 69, .load 3 (.tmp 68), 3, "show.go:62", #[⟨4, .data⟩], none⟩) (v := (.int .i64 e.hi)) rfl (by kernel_rfl) (by kernel_rfl) (by kernel_rfl) (fun _ _ _ h => h) (Or.inl ⟨by rfl, fun w' h' => by have ee := h'.2.2.1; unfold execOp; go_simp⟩) hHeld ?_
  simp only [Act.put, List.setIfInBounds_toArray, List.set_cons_zero, List.set_cons_succ]
  refine wpAnyH_take (i := 6) (oi := ⟨some 70, .fieldAddr 32 (.tmp 3) 2, 0, "show.go:62", #[], none⟩) (v := (.pointer (some ⟨(w.heap.size + 1), 2, none⟩))) rfl (by kernel_rfl) (by kernel_rfl) (by kernel_rfl) (fun _ _ _ h => h) (Or.inl ⟨by rfl, fun _ _ => by rfl⟩) hHeld ?_
  simp only [Act.put, List.setIfInBounds_toArray, List.set_cons_zero, List.set_cons_succ]
  refine wpAnyH_take (i := 7) (oi := ⟨some 71, .load 3 (.tmp 70), 3, "show.go:62", #[⟨6, .data⟩], none⟩) (v := (.int .i64 e.he)) rfl (by kernel_rfl) (by kernel_rfl) (by kernel_rfl) (fun _ _ _ h => h) (Or.inl ⟨by rfl, fun w' h' => by have ee := h'.2.2.2.1; unfold execOp; go_simp⟩) hHeld ?_
  simp only [Act.put, List.setIfInBounds_toArray, List.set_cons_zero, List.set_cons_succ]
  refine wpAnyH_take (i := 12) (oi := ⟨some 76, .fieldAddr 32 (.tmp 3) 3, 0, "show.go:62", #[], none⟩) (v := (.pointer (some ⟨(w.heap.size + 1), 3, none⟩))) rfl (by kernel_rfl) (by kernel_rfl) (by kernel_rfl) (fun _ _ _ h => h) (Or.inl ⟨by rfl, fun _ _ => by rfl⟩) hHeld ?_
  simp only [Act.put, List.setIfInBounds_toArray, List.set_cons_zero, List.set_cons_succ]
  refine wpAnyH_take (i := 13) (oi := ⟨some 77, .load 9 (.tmp 76), 9, "show.go:62", #[⟨12, .data⟩], none⟩) (v := (.string e.hp)) rfl (by kernel_rfl) (by kernel_rfl) (by kernel_rfl) (fun _ _ _ h => h) (Or.inl ⟨by rfl, fun w' h' => by have ee := h'.2.2.2.2; unfold execOp; go_simp⟩) hHeld ?_
  simp only [Act.put, List.setIfInBounds_toArray, List.set_cons_zero, List.set_cons_succ]
  refine wpAnyH_ready (rs := [8]) (by kernel_rfl) (by simp) ?_
  refine AllReadyH.cons (o := ⟨some 72, .buildSlice 47 4 #[(0, .tmp 65), (1, .tmp 67), (2, .tmp 69), (3, .tmp 71)], 47, "show.go:62", #[⟨1, .data⟩, ⟨3, .data⟩, ⟨5, .data⟩, ⟨7, .data⟩], none⟩) rfl (fun KK hK => ?_) (AllReadyH.nil)
  go_simp
  have hbA := hbd.alloc hbd.size (.cells #[.int .i64 e.a, .int .i64 e.hn, .int .i64 e.hi, .int .i64 e.he] 3)
  have hcA := KC.out _ hbA
  have hia := ints_new W0.drew [e.a, e.hn, e.hi, e.he] 3
  refine hK.out _ _ hcA (fun hHeld => ?_)
  clear hK KK
  try simp only [Act.put, List.setIfInBounds_toArray, List.set_cons_zero, List.set_cons_succ]
  refine wpAnyH_ready (rs := [9]) (by kernel_rfl) (by simp) ?_
  refine AllReadyH.cons (o := ⟨some 73, .call ⟨.value (.func 11), #[.tmp 72], #[47]⟩, 9, "show.go:62", #[⟨8, .data⟩], none⟩) rfl (fun KK hK => ?_) (AllReadyH.nil)
  go_simp
  refine (HW.out _ _ (HB2.out.trans (hbA.mono HB2.out.size)) hia).mono ?_
  rintro r w9 ⟨rfl, b9⟩
  have hb9 := hbA.trans (b9.mono hbA.size)
  have hc9 := KC.out _ hb9
  clear b9 hia
  go_wp2_with fail
  refine hK.out _ _ hc9 (fun hHeld => ?_)
  clear hK KK
  try simp only [Act.put, List.setIfInBounds_toArray, List.set_cons_zero, List.set_cons_succ]
  refine wpAnyH_take (i := 10) (oi := ⟨some 74, .binOp .add 9 (.const (.string { data := #[104, 97, 110, 100, 108, 101] })) (.tmp 73) 9, 9, "show.go:62", #[⟨9, .data⟩], none⟩) (v := (.string (tx T1))) rfl (by kernel_rfl) (by kernel_rfl) (by kernel_rfl) (fun _ _ _ h => h) (Or.inl ⟨by rfl, fun w' h' => by have ee := k0; unfold execOp; go_simp⟩) hHeld ?_
  simp only [Act.put, List.setIfInBounds_toArray, List.set_cons_zero, List.set_cons_succ]
  refine wpAnyH_take (i := 11) (oi := ⟨some 75, .binOp .add 9 (.tmp 74) (.const (.string { data := #[32] })) 9, 9, "show.go:62", #[⟨10, .data⟩], none⟩) (v := (.string (tx T2))) rfl (by kernel_rfl) (by kernel_rfl) (by kernel_rfl) (fun _ _ _ h => h) (Or.inl ⟨by rfl, fun w' h' => by have ee := k1; unfold execOp; go_simp⟩) hHeld ?_
  simp only [Act.put, List.setIfInBounds_toArray, List.set_cons_zero, List.set_cons_succ]
  refine wpAnyH_ready (rs := [14]) (by kernel_rfl) (by simp) ?_
  refine AllReadyH.cons (o := ⟨some 78, .call ⟨.value (.func 14), #[.tmp 77], #[9]⟩, 9, "show.go:62", #[⟨13, .data⟩, ⟨9, .chain⟩], none⟩) rfl (fun KK hK => ?_) (AllReadyH.nil)
  go_simp
  refine (H2.out _ (HB2.out.trans (hb9.mono HB2.out.size))).mono ?_
  rintro r w10 ⟨rfl, b10⟩
  have hb10 := hb9.trans (b10.mono hb9.size)
  have hc10 := KC.out _ hb10
  clear b10
  go_wp2_with fail
  refine hK.out _ _ hc10 (fun hHeld => ?_)
  clear hK KK
  try simp only [Act.put, List.setIfInBounds_toArray, List.set_cons_zero, List.set_cons_succ]
  refine wpAnyH_take (i := 15) (oi := ⟨some 79, .binOp .add 9 (.tmp 75) (.tmp 78) 9, 9, "show.go:62", #[⟨11, .data⟩, ⟨14, .data⟩], none⟩) (v := (.string (tx T3))) rfl (by kernel_rfl) (by kernel_rfl) (by kernel_rfl) (fun _ _ _ h => h) (Or.inl ⟨by rfl, fun w' h' => by have ee := k2; unfold execOp; go_simp⟩) hHeld ?_
  simp only [Act.put, List.setIfInBounds_toArray, List.set_cons_zero, List.set_cons_succ]
  refine wpAnyH_take (i := 16) (oi := ⟨some 2, .assign (.tmp 79), 9, "show.go:62", #[⟨15, .data⟩, ⟨14, .chain⟩, ⟨0, .phase⟩, ⟨1, .phase⟩, ⟨2, .phase⟩, ⟨3, .phase⟩, ⟨4, .phase⟩, ⟨5, .phase⟩, ⟨6, .phase⟩, ⟨7, .phase⟩, ⟨8, .phase⟩, ⟨9, .phase⟩, ⟨10, .phase⟩, ⟨11, .phase⟩, ⟨12, .phase⟩, ⟨13, .phase⟩, ⟨14, .phase⟩, ⟨15, .phase⟩], none⟩) (v := (.string (tx T3))) rfl (by kernel_rfl) (by kernel_rfl) (by kernel_rfl) (fun _ _ _ h => h) (Or.inl ⟨by rfl, fun _ _ => by rfl⟩) hHeld ?_
  simp only [Act.put, List.setIfInBounds_toArray, List.set_cons_zero, List.set_cons_succ]
  refine wpAnyH_done (by kernel_rfl) ?_ _
  have HB10 := Lib.hid (HB2.out.trans (hb10.mono HB2.out.size))
  clear hb10 hc10
  go_wp2_with fail
  go_ret
  exact ⟨rfl, HB10.out⟩

set_option maxHeartbeats 4000000 in
theorem showD_7 (e : Ev) (hk : e.kind = 7) (w : World) (hE : e.Ok w) (hG : Gl w) : Calls Tryd.prog 5 #[e.val] w fun r w' => r = .returned (.string (tx e.line)) ∧ Below w.heap.size w w' := by
  have hX := EBx.new w e
  have b1 : Below w.heap.size w (w.alloc (.cells e.vals 38)) := (Below.refl _ w).alloc (Nat.le_refl _) _
  have d0 := hX.cell 0 (.int .i64 e.kind) rfl
  rw [hk] at d0
  have hv : e.vals.size = 36 := rfl
  have hr1 : (w.alloc (.cells e.vals 38)).heap.size = w.heap.size + 1 := by simp
  obtain ⟨ia, ik, im, ic, i1, i2, i3, i4, i5, i6, i7, i8⟩ := hE.ints
  have hwI : ∀ x ∈ [e.code, e.k, e.m], isI x := by
    intro x hx
    simp only [List.mem_cons, List.not_mem_nil, or_false] at hx
    rcases hx with rfl | rfl | rfl <;> assumption
  have hnl := numsT_len [e.code, e.k, e.m] hwI
  simp only [List.length_cons, List.length_nil] at hnl
  have hw : ∀ W' ad, Below w.heap.size w W' → IntsAt W' ad [e.code, e.k, e.m] → Calls Tryd.prog 11 #[.slice (some ad) 3 3] W' fun r w'' => r = .returned (.string (tx (numsT [e.code, e.k, e.m]))) ∧ Below W'.heap.size W' w'' := fun W' ad hb hA => rwords_any [e.code, e.k, e.m] ad 3 W' (hG.here hb) hwI (by show 3 ≤ 1000; decide) hA
  have k0 := cat_r ⟨#[100, 111, 119, 110]⟩ (numsT [e.code, e.k, e.m]) (by rw [show (⟨#[100, 111, 119, 110]⟩ : ByteArray).size = 4 from rfl]; omega)
  rw [show bs ⟨#[100, 111, 119, 110]⟩ = wDow from rfl] at k0
  have ht1 : (wDow ++ numsT [e.code, e.k, e.m]).length ≤ 4 + 22 * 3 := by rw [List.length_append]; simp only [wDow, List.length_cons, List.length_nil]; omega
  have hL : e.line = wDow ++ numsT [e.code, e.k, e.m] := by unfold Ev.line; rw [hk]; rfl
  generalize wDow ++ numsT [e.code, e.k, e.m] = T1 at *
  generalize numsT [e.code, e.k, e.m] = NS at *
  rw [hL]
  have d2 := hX.cell 2 (.int .i64 e.k) rfl
  have d3 := hX.cell 3 (.int .i64 e.m) rfl
  have d4 := hX.cell 4 (.int .i64 e.code) rfl
  have hXl := hX.lt
  generalize hw1 : w.alloc (.cells e.vals 38) = w1 at *
  have hR := hw (w1.alloc (.cells #[.int .i64 e.code, .int .i64 e.k, .int .i64 e.m] 3)) ⟨w.heap.size + 1, 0, none⟩ (b1.alloc (by omega) _) (by rw [← hr1]; exact ints_new w1 [e.code, e.k, e.m] 3)
  have HB1 := Lib.hid (b1.alloc (by omega) (.cells #[.int .i64 e.code, .int .i64 e.k, .int .i64 e.m] 3))
  clear b1 hX hE hG hw
  unfold Ev.val
  go_enter Tryd.func5, Tryd.ntmps5
  go_wp2_with fail
  refine hR.mono ?_
  rintro r w5 ⟨rfl, b5⟩
  clear hR
  go_wp2_with fail
  go_ret
  exact ⟨rfl, HB1.out.trans (b5.mono HB1.out.size)⟩

set_option maxHeartbeats 4000000 in
theorem showD_8 (e : Ev) (hk : e.kind = 8) (w : World) (hE : e.Ok w) (hG : Gl w) : Calls Tryd.prog 5 #[e.val] w fun r w' => r = .returned (.string (tx e.line)) ∧ Below w.heap.size w w' := by
  have hX := EBx.new w e
  have b1 : Below w.heap.size w (w.alloc (.cells e.vals 38)) := (Below.refl _ w).alloc (Nat.le_refl _) _
  have d0 := hX.cell 0 (.int .i64 e.kind) rfl
  rw [hk] at d0
  have hv : e.vals.size = 36 := rfl
  have hr1 : (w.alloc (.cells e.vals 38)).heap.size = w.heap.size + 1 := by simp
  obtain ⟨ia, ik, im, ic, i1, i2, i3, i4, i5, i6, i7, i8⟩ := hE.ints
  have hwI : ∀ x ∈ [e.k], isI x := by
    intro x hx
    simp only [List.mem_cons, List.not_mem_nil, or_false] at hx
    rcases hx with rfl <;> assumption
  have hnl := numsT_len [e.k] hwI
  simp only [List.length_cons, List.length_nil] at hnl
  have hw : ∀ W' ad, Below w.heap.size w W' → IntsAt W' ad [e.k] → Calls Tryd.prog 11 #[.slice (some ad) 1 1] W' fun r w'' => r = .returned (.string (tx (numsT [e.k]))) ∧ Below W'.heap.size W' w'' := fun W' ad hb hA => rwords_any [e.k] ad 1 W' (hG.here hb) hwI (by show 1 ≤ 1000; decide) hA
  have k0 := cat_r ⟨#[117, 112]⟩ (numsT [e.k]) (by rw [show (⟨#[117, 112]⟩ : ByteArray).size = 2 from rfl]; omega)
  rw [show bs ⟨#[117, 112]⟩ = wUp from rfl] at k0
  have ht1 : (wUp ++ numsT [e.k]).length ≤ 2 + 22 * 1 := by rw [List.length_append]; simp only [wUp, List.length_cons, List.length_nil]; omega
  have hL : e.line = wUp ++ numsT [e.k] := by unfold Ev.line; rw [hk]; rfl
  generalize wUp ++ numsT [e.k] = T1 at *
  generalize numsT [e.k] = NS at *
  rw [hL]
  have d2 := hX.cell 2 (.int .i64 e.k) rfl
  have hXl := hX.lt
  generalize hw1 : w.alloc (.cells e.vals 38) = w1 at *
  have hR := hw (w1.alloc (.cells #[.int .i64 e.k] 3)) ⟨w.heap.size + 1, 0, none⟩ (b1.alloc (by omega) _) (by rw [← hr1]; exact ints_new w1 [e.k] 3)
  have HB1 := Lib.hid (b1.alloc (by omega) (.cells #[.int .i64 e.k] 3))
  clear b1 hX hE hG hw
  unfold Ev.val
  go_enter Tryd.func5, Tryd.ntmps5
  go_wp2_with fail
  refine hR.mono ?_
  rintro r w5 ⟨rfl, b5⟩
  clear hR
  go_wp2_with fail
  go_ret
  exact ⟨rfl, HB1.out.trans (b5.mono HB1.out.size)⟩

set_option maxHeartbeats 4000000 in
theorem showD_9 (e : Ev) (hk : e.kind = 9) (w : World) (hE : e.Ok w) (hG : Gl w) : Calls Tryd.prog 5 #[e.val] w fun r w' => r = .returned (.string (tx e.line)) ∧ Below w.heap.size w w' := by
  have hX := EBx.new w e
  have b1 : Below w.heap.size w (w.alloc (.cells e.vals 38)) := (Below.refl _ w).alloc (Nat.le_refl _) _
  have d0 := hX.cell 0 (.int .i64 e.kind) rfl
  rw [hk] at d0
  have hv : e.vals.size = 36 := rfl
  have hr1 : (w.alloc (.cells e.vals 38)).heap.size = w.heap.size + 1 := by simp
  obtain ⟨ia, ik, im, ic, i1, i2, i3, i4, i5, i6, i7, i8⟩ := hE.ints
  have hwI : ∀ x ∈ [e.a, e.k, e.m], isI x := by
    intro x hx
    simp only [List.mem_cons, List.not_mem_nil, or_false] at hx
    rcases hx with rfl | rfl | rfl <;> assumption
  have hnl := numsT_len [e.a, e.k, e.m] hwI
  simp only [List.length_cons, List.length_nil] at hnl
  have hw : ∀ W' ad, Below w.heap.size w W' → IntsAt W' ad [e.a, e.k, e.m] → Calls Tryd.prog 11 #[.slice (some ad) 3 3] W' fun r w'' => r = .returned (.string (tx (numsT [e.a, e.k, e.m]))) ∧ Below W'.heap.size W' w'' := fun W' ad hb hA => rwords_any [e.a, e.k, e.m] ad 3 W' (hG.here hb) hwI (by show 3 ≤ 1000; decide) hA
  have k0 := cat_r ⟨#[115, 101, 114, 118, 101, 114]⟩ (numsT [e.a, e.k, e.m]) (by rw [show (⟨#[115, 101, 114, 118, 101, 114]⟩ : ByteArray).size = 6 from rfl]; omega)
  rw [show bs ⟨#[115, 101, 114, 118, 101, 114]⟩ = wSrv from rfl] at k0
  have ht1 : (wSrv ++ numsT [e.a, e.k, e.m]).length ≤ 6 + 22 * 3 := by rw [List.length_append]; simp only [wSrv, List.length_cons, List.length_nil]; omega
  have hL : e.line = wSrv ++ numsT [e.a, e.k, e.m] := by unfold Ev.line; rw [hk]; rfl
  generalize wSrv ++ numsT [e.a, e.k, e.m] = T1 at *
  generalize numsT [e.a, e.k, e.m] = NS at *
  rw [hL]
  have d1 := hX.cell 1 (.int .i64 e.a) rfl
  have d2 := hX.cell 2 (.int .i64 e.k) rfl
  have d3 := hX.cell 3 (.int .i64 e.m) rfl
  have hXl := hX.lt
  generalize hw1 : w.alloc (.cells e.vals 38) = w1 at *
  have hR := hw (w1.alloc (.cells #[.int .i64 e.a, .int .i64 e.k, .int .i64 e.m] 3)) ⟨w.heap.size + 1, 0, none⟩ (b1.alloc (by omega) _) (by rw [← hr1]; exact ints_new w1 [e.a, e.k, e.m] 3)
  have HB1 := Lib.hid (b1.alloc (by omega) (.cells #[.int .i64 e.a, .int .i64 e.k, .int .i64 e.m] 3))
  clear b1 hX hE hG hw
  unfold Ev.val
  go_enter Tryd.func5, Tryd.ntmps5
  go_wp2_with fail
  refine hR.mono ?_
  rintro r w5 ⟨rfl, b5⟩
  clear hR
  go_wp2_with fail
  go_ret
  exact ⟨rfl, HB1.out.trans (b5.mono HB1.out.size)⟩

set_option maxHeartbeats 4000000 in
theorem showD_10 (e : Ev) (hk : e.kind = 10) (w : World) (hE : e.Ok w) (hG : Gl w) : Calls Tryd.prog 5 #[e.val] w fun r w' => r = .returned (.string (tx e.line)) ∧ Below w.heap.size w w' := by
  have hX := EBx.new w e
  have b1 : Below w.heap.size w (w.alloc (.cells e.vals 38)) := (Below.refl _ w).alloc (Nat.le_refl _) _
  have d0 := hX.cell 0 (.int .i64 e.kind) rfl
  rw [hk] at d0
  have hv : e.vals.size = 36 := rfl
  have hr1 : (w.alloc (.cells e.vals 38)).heap.size = w.heap.size + 1 := by simp
  obtain ⟨vao, vcc, hkv, _, _⟩ := hE.kat.form
  obtain ⟨ia, ik, im, ic, i1, i2, i3, i4, i5, i6, i7, i8⟩ := hE.ints
  have hwI : ∀ x ∈ [e.kc, e.ks, e.kt], isI x := by
    intro x hx
    simp only [List.mem_cons, List.not_mem_nil, or_false] at hx
    rcases hx with rfl | rfl | rfl <;> assumption
  have hnl := numsT_len [e.kc, e.ks, e.kt] hwI
  simp only [List.length_cons, List.length_nil] at hnl
  have hw : ∀ W' ad, Below w.heap.size w W' → IntsAt W' ad [e.kc, e.ks, e.kt] → Calls Tryd.prog 11 #[.slice (some ad) 3 3] W' fun r w'' => r = .returned (.string (tx (numsT [e.kc, e.ks, e.kt]))) ∧ Below W'.heap.size W' w'' := fun W' ad hb hA => rwords_any [e.kc, e.ks, e.kt] ad 3 W' (hG.here hb) hwI (by show 3 ≤ 1000; decide) hA
  have k0 := cat_r ⟨#[107, 101, 112, 116]⟩ (numsT [e.kc, e.ks, e.kt]) (by rw [show (⟨#[107, 101, 112, 116]⟩ : ByteArray).size = 4 from rfl]; omega)
  rw [show bs ⟨#[107, 101, 112, 116]⟩ = wKep from rfl] at k0
  have ht1 : (wKep ++ numsT [e.kc, e.ks, e.kt]).length ≤ 4 + 22 * 3 := by rw [List.length_append]; simp only [wKep, List.length_cons, List.length_nil]; omega
  have h2 : ∀ W', Below w.heap.size w W' → Calls Tryd.prog 15 #[.slice vao e.kl.length vcc] W' fun r w'' => r = .returned (.string (tx (hexT e.kl))) ∧ Below W'.heap.size W' w'' := fun W' hb => by rw [← hkv]; exact rhex_any e.kv e.kl W' (hE.kat.below hb) (by have := hE.kle; omega)
  have hsl := hexT_len e.kl
  have hsl2 := hE.kle
  have hL : e.line = ((wKep ++ numsT [e.kc, e.ks, e.kt]) ++ [32]) ++ hexT e.kl := by unfold Ev.line; rw [hk]; show (wKep ++ numsT [e.kc, e.ks, e.kt]) ++ 32 :: hexT e.kl = _; rw [List.append_assoc (wKep ++ numsT [e.kc, e.ks, e.kt])]; rfl
  have hsl3 : (hexT e.kl).length ≤ 5000000000000 := by omega
  generalize (hexT e.kl) = SC at *
  generalize wKep ++ numsT [e.kc, e.ks, e.kt] = T1 at *
  generalize numsT [e.kc, e.ks, e.kt] = NS at *
  have k1 := cat_l T1 ⟨#[32]⟩ (by rw [show (⟨#[32]⟩ : ByteArray).size = 1 from rfl]; omega)
  rw [show bs ⟨#[32]⟩ = [32] from rfl] at k1
  have ht2 : (T1 ++ [32]).length ≤ 200 := by rw [List.length_append, List.length_singleton]; omega
  generalize T1 ++ [32] = T2 at *
  have k2 := cat_tx T2 SC (by omega)
  generalize T2 ++ SC = T3 at *
  rw [hL]
  have d29 := hX.cell 29 (.int .i64 e.kc) rfl
  have d30 := hX.cell 30 (.int .i64 e.ks) rfl
  have d31 := hX.cell 31 (.int .i64 e.kt) rfl
  have d32 := hX.cell 32 e.kv rfl
  rw [hkv] at d32
  have hXl := hX.lt
  generalize hw1 : w.alloc (.cells e.vals 38) = w1 at *
  have hC0 : (w1.alloc (.cells #[.int .i64 e.kc, .int .i64 e.ks, .int .i64 e.kt, .slice vao e.kl.length vcc] 34)).heap[w.heap.size + 1]? = some (.cells #[.int .i64 e.kc, .int .i64 e.ks, .int .i64 e.kt, .slice vao e.kl.length vcc] 34 (0, 0)) := by rw [← hr1]; exact heap_alloc_new _ _
  have kc : ∀ W', Below (w1.alloc (.cells #[.int .i64 e.kc, .int .i64 e.ks, .int .i64 e.kt, .slice vao e.kl.length vcc] 34)).heap.size (w1.alloc (.cells #[.int .i64 e.kc, .int .i64 e.ks, .int .i64 e.kt, .slice vao e.kl.length vcc] 34)) W' → W'.cell? ⟨(w.heap.size + 1), 0, none⟩ = some (.int .i64 e.kc) ∧ W'.cell? ⟨(w.heap.size + 1), 1, none⟩ = some (.int .i64 e.ks) ∧ W'.cell? ⟨(w.heap.size + 1), 2, none⟩ = some (.int .i64 e.kt) ∧ W'.cell? ⟨(w.heap.size + 1), 3, none⟩ = some (.slice vao e.kl.length vcc) := fun W' hb => ⟨(by have hh := (hb.block (w.heap.size + 1) (by simp; omega)).trans hC0; rw [Lib.cell_of_heap hh]; rfl), (by have hh := (hb.block (w.heap.size + 1) (by simp; omega)).trans hC0; rw [Lib.cell_of_heap hh]; rfl), (by have hh := (hb.block (w.heap.size + 1) (by simp; omega)).trans hC0; rw [Lib.cell_of_heap hh]; rfl), (by have hh := (hb.block (w.heap.size + 1) (by simp; omega)).trans hC0; rw [Lib.cell_of_heap hh]; rfl)⟩
  have b2 : Below w.heap.size w (w1.alloc (.cells #[.int .i64 e.kc, .int .i64 e.ks, .int .i64 e.kt, .slice vao e.kl.length vcc] 34)) := b1.alloc (by omega) _
  have KC := Lib.hid kc
  have HB2 := Lib.hid b2
  have HW := Lib.hid hw
  have H2 := Lib.hid h2
  clear kc b2 b1 hX hE hG hw h2 hC0
  unfold Ev.val
  go_enter Tryd.func5, Tryd.ntmps5
  go_wp2_with fail
  generalize w1.alloc (.cells #[.int .i64 e.kc, .int .i64 e.ks, .int .i64 e.kt, .slice vao e.kl.length vcc] 34) = W0 at *
  clear d29 d30 d31 d32 d0
  have hbd := (Below.refl W0.heap.size W0).drew
  have hcS := KC.out _ hbd
  refine wp_region_held_drew (S := fun w' => w'.cell? ⟨(w.heap.size + 1), 0, none⟩ = some (.int .i64 e.kc) ∧ w'.cell? ⟨(w.heap.size + 1), 1, none⟩ = some (.int .i64 e.ks) ∧ w'.cell? ⟨(w.heap.size + 1), 2, none⟩ = some (.int .i64 e.kt) ∧ w'.cell? ⟨(w.heap.size + 1), 3, none⟩ = some (.slice vao e.kl.length vcc)) (by kernel_rfl) hcS (fun hHeld => ?_)
  refine wpAnyH_take (i := 0) (oi := ⟨some 113, .fieldAddr 34 (.tmp 4) 0, 0, "show.go:71", #[], none⟩) (v := (.pointer (some ⟨(w.heap.size + 1), 0, none⟩))) rfl (by kernel_rfl) (by kernel_rfl) (by kernel_rfl) (fun _ _ _ h => h) (Or.inl ⟨by rfl, fun _ _ => by rfl⟩) hHeld ?_
  simp only [Act.put, List.setIfInBounds_toArray, List.set_cons_zero, List.set_cons_succ]
  refine wpAnyH_take (i := 1) (oi := ⟨some 114, .load 3 (.tmp 113), 3, "show.go:71", #[⟨0, .data⟩], none⟩) (v := (.int .i64 e.kc)) rfl (by kernel_rfl) (by kernel_rfl) (by kernel_rfl) (fun _ _ _ h => h) (Or.inl ⟨by rfl, fun w' h' => by have ee := h'.1; unfold execOp; go_simp⟩) hHeld ?_
  simp only [Act.put, List.setIfInBounds_toArray, List.set_cons_zero, List.set_cons_succ]
  refine wpAnyH_take (i := 2) (oi := ⟨some 115, .fieldAddr 34 (.tmp 4) 1, 0, "show.go:71", #[], none⟩) (v := (.pointer (some ⟨(w.heap.size + 1), 1, none⟩))) rfl (by kernel_rfl) (by kernel_rfl) (by kernel_rfl) (fun _ _ _ h => h) (Or.inl ⟨by rfl, fun _ _ => by rfl⟩) hHeld ?_
  simp only [Act.put, List.setIfInBounds_toArray, List.set_cons_zero, List.set_cons_succ]
  refine wpAnyH_take (i := 3) (oi := ⟨some 116, .load 3 (.tmp 115), 3, "show.go:71", #[⟨2, .data⟩], none⟩) (v := (.int .i64 e.ks)) rfl (by kernel_rfl) (by kernel_rfl) (by kernel_rfl) (fun _ _ _ h => h) (Or.inl ⟨by rfl, fun w' h' => by have ee := h'.2.1; unfold execOp; go_simp⟩) hHeld ?_
  simp only [Act.put, List.setIfInBounds_toArray, List.set_cons_zero, List.set_cons_succ]
  refine wpAnyH_take (i := 4) (oi := ⟨some 117, .fieldAddr 34 (.tmp 4) 2, 0, "show.go:71", #[], none⟩) (v := (.pointer (some ⟨(w.heap.size + 1), 2, none⟩))) rfl (by kernel_rfl) (by kernel_rfl) (by kernel_rfl) (fun _ _ _ h => h) (Or.inl ⟨by rfl, fun _ _ => by rfl⟩) hHeld ?_
  simp only [Act.put, List.setIfInBounds_toArray, List.set_cons_zero, List.set_cons_succ]
  refine wpAnyH_take (i := 5) (oi := ⟨some 118, .load 3 (.tmp 117), 3, "show.go:71", #[⟨4, .data⟩], none⟩) (v := (.int .i64 e.kt)) rfl (by kernel_rfl) (by kernel_rfl) (by kernel_rfl) (fun _ _ _ h => h) (Or.inl ⟨by rfl, fun w' h' => by have ee := h'.2.2.1; unfold execOp; go_simp⟩) hHeld ?_
  simp only [Act.put, List.setIfInBounds_toArray, List.set_cons_zero, List.set_cons_succ]
  refine wpAnyH_take (i := 10) (oi := ⟨some 123, .fieldAddr 34 (.tmp 4) 3, 0, "show.go:71", #[], none⟩) (v := (.pointer (some ⟨(w.heap.size + 1), 3, none⟩))) rfl (by kernel_rfl) (by kernel_rfl) (by kernel_rfl) (fun _ _ _ h => h) (Or.inl ⟨by rfl, fun _ _ => by rfl⟩) hHeld ?_
  simp only [Act.put, List.setIfInBounds_toArray, List.set_cons_zero, List.set_cons_succ]
  refine wpAnyH_take (i := 11) (oi := ⟨some 124, .load 23 (.tmp 123), 23, "show.go:71", #[⟨10, .data⟩], none⟩) (v := (.slice vao e.kl.length vcc)) rfl (by kernel_rfl) (by kernel_rfl) (by kernel_rfl) (fun _ _ _ h => h) (Or.inl ⟨by rfl, fun w' h' => by have ee := h'.2.2.2; unfold execOp; go_simp⟩) hHeld ?_
  simp only [Act.put, List.setIfInBounds_toArray, List.set_cons_zero, List.set_cons_succ]
  refine wpAnyH_ready (rs := [6]) (by kernel_rfl) (by simp) ?_
  refine AllReadyH.cons (o := ⟨some 119, .buildSlice 47 3 #[(0, .tmp 114), (1, .tmp 116), (2, .tmp 118)], 47, "show.go:71", #[⟨1, .data⟩, ⟨3, .data⟩, ⟨5, .data⟩], none⟩) rfl (fun KK hK => ?_) (AllReadyH.nil)
  go_simp
  have hbA := hbd.alloc hbd.size (.cells #[.int .i64 e.kc, .int .i64 e.ks, .int .i64 e.kt] 3)
  have hcA := KC.out _ hbA
  have hia := ints_new W0.drew [e.kc, e.ks, e.kt] 3
  refine hK.out _ _ hcA (fun hHeld => ?_)
  clear hK KK
  try simp only [Act.put, List.setIfInBounds_toArray, List.set_cons_zero, List.set_cons_succ]
  refine wpAnyH_ready (rs := [7]) (by kernel_rfl) (by simp) ?_
  refine AllReadyH.cons (o := ⟨some 120, .call ⟨.value (.func 11), #[.tmp 119], #[47]⟩, 9, "show.go:71", #[⟨6, .data⟩], none⟩) rfl (fun KK hK => ?_) (AllReadyH.nil)
  go_simp
  refine (HW.out _ _ (HB2.out.trans (hbA.mono HB2.out.size)) hia).mono ?_
  rintro r w9 ⟨rfl, b9⟩
  have hb9 := hbA.trans (b9.mono hbA.size)
  have hc9 := KC.out _ hb9
  clear b9 hia
  go_wp2_with fail
  refine hK.out _ _ hc9 (fun hHeld => ?_)
  clear hK KK
  try simp only [Act.put, List.setIfInBounds_toArray, List.set_cons_zero, List.set_cons_succ]
  refine wpAnyH_take (i := 8) (oi := ⟨some 121, .binOp .add 9 (.const (.string { data := #[107, 101, 112, 116] })) (.tmp 120) 9, 9, "show.go:71", #[⟨7, .data⟩], none⟩) (v := (.string (tx T1))) rfl (by kernel_rfl) (by kernel_rfl) (by kernel_rfl) (fun _ _ _ h => h) (Or.inl ⟨by rfl, fun w' h' => by have ee := k0; unfold execOp; go_simp⟩) hHeld ?_
  simp only [Act.put, List.setIfInBounds_toArray, List.set_cons_zero, List.set_cons_succ]
  refine wpAnyH_take (i := 9) (oi := ⟨some 122, .binOp .add 9 (.tmp 121) (.const (.string { data := #[32] })) 9, 9, "show.go:71", #[⟨8, .data⟩], none⟩) (v := (.string (tx T2))) rfl (by kernel_rfl) (by kernel_rfl) (by kernel_rfl) (fun _ _ _ h => h) (Or.inl ⟨by rfl, fun w' h' => by have ee := k1; unfold execOp; go_simp⟩) hHeld ?_
  simp only [Act.put, List.setIfInBounds_toArray, List.set_cons_zero, List.set_cons_succ]
  refine wpAnyH_ready (rs := [12]) (by kernel_rfl) (by simp) ?_
  refine AllReadyH.cons (o := ⟨some 125, .call ⟨.value (.func 15), #[.tmp 124], #[23]⟩, 9, "show.go:71", #[⟨11, .data⟩, ⟨7, .chain⟩], none⟩) rfl (fun KK hK => ?_) (AllReadyH.nil)
  go_simp
  refine (H2.out _ (HB2.out.trans (hb9.mono HB2.out.size))).mono ?_
  rintro r w10 ⟨rfl, b10⟩
  have hb10 := hb9.trans (b10.mono hb9.size)
  have hc10 := KC.out _ hb10
  clear b10
  go_wp2_with fail
  refine hK.out _ _ hc10 (fun hHeld => ?_)
  clear hK KK
  try simp only [Act.put, List.setIfInBounds_toArray, List.set_cons_zero, List.set_cons_succ]
  refine wpAnyH_take (i := 13) (oi := ⟨some 126, .binOp .add 9 (.tmp 122) (.tmp 125) 9, 9, "show.go:71", #[⟨9, .data⟩, ⟨12, .data⟩], none⟩) (v := (.string (tx T3))) rfl (by kernel_rfl) (by kernel_rfl) (by kernel_rfl) (fun _ _ _ h => h) (Or.inl ⟨by rfl, fun w' h' => by have ee := k2; unfold execOp; go_simp⟩) hHeld ?_
  simp only [Act.put, List.setIfInBounds_toArray, List.set_cons_zero, List.set_cons_succ]
  refine wpAnyH_take (i := 14) (oi := ⟨some 2, .assign (.tmp 126), 9, "show.go:71", #[⟨13, .data⟩, ⟨12, .chain⟩, ⟨0, .phase⟩, ⟨1, .phase⟩, ⟨2, .phase⟩, ⟨3, .phase⟩, ⟨4, .phase⟩, ⟨5, .phase⟩, ⟨6, .phase⟩, ⟨7, .phase⟩, ⟨8, .phase⟩, ⟨9, .phase⟩, ⟨10, .phase⟩, ⟨11, .phase⟩, ⟨12, .phase⟩, ⟨13, .phase⟩], none⟩) (v := (.string (tx T3))) rfl (by kernel_rfl) (by kernel_rfl) (by kernel_rfl) (fun _ _ _ h => h) (Or.inl ⟨by rfl, fun _ _ => by rfl⟩) hHeld ?_
  simp only [Act.put, List.setIfInBounds_toArray, List.set_cons_zero, List.set_cons_succ]
  refine wpAnyH_done (by kernel_rfl) ?_ _
  have HB10 := Lib.hid (HB2.out.trans (hb10.mono HB2.out.size))
  clear hb10 hc10
  go_wp2_with fail
  go_ret
  exact ⟨rfl, HB10.out⟩

set_option maxHeartbeats 4000000 in
theorem showD_11 (e : Ev) (hk : e.kind = 11) (w : World) (hE : e.Ok w) (hG : Gl w) : Calls Tryd.prog 5 #[e.val] w fun r w' => r = .returned (.string (tx e.line)) ∧ Below w.heap.size w w' := by
  have hX := EBx.new w e
  have b1 : Below w.heap.size w (w.alloc (.cells e.vals 38)) := (Below.refl _ w).alloc (Nat.le_refl _) _
  have d0 := hX.cell 0 (.int .i64 e.kind) rfl
  rw [hk] at d0
  have hv : e.vals.size = 36 := rfl
  have hr1 : (w.alloc (.cells e.vals 38)).heap.size = w.heap.size + 1 := by simp
  obtain ⟨ia, ik, im, ic, i1, i2, i3, i4, i5, i6, i7, i8⟩ := hE.ints
  have hwI : ∀ x ∈ [e.a, e.k, e.m], isI x := by
    intro x hx
    simp only [List.mem_cons, List.not_mem_nil, or_false] at hx
    rcases hx with rfl | rfl | rfl <;> assumption
  have hnl := numsT_len [e.a, e.k, e.m] hwI
  simp only [List.length_cons, List.length_nil] at hnl
  have hw : ∀ W' ad, Below w.heap.size w W' → IntsAt W' ad [e.a, e.k, e.m] → Calls Tryd.prog 11 #[.slice (some ad) 3 3] W' fun r w'' => r = .returned (.string (tx (numsT [e.a, e.k, e.m]))) ∧ Below W'.heap.size W' w'' := fun W' ad hb hA => rwords_any [e.a, e.k, e.m] ad 3 W' (hG.here hb) hwI (by show 3 ≤ 1000; decide) hA
  have k0 := cat_r ⟨#[109, 97, 114, 107]⟩ (numsT [e.a, e.k, e.m]) (by rw [show (⟨#[109, 97, 114, 107]⟩ : ByteArray).size = 4 from rfl]; omega)
  rw [show bs ⟨#[109, 97, 114, 107]⟩ = wMar from rfl] at k0
  have ht1 : (wMar ++ numsT [e.a, e.k, e.m]).length ≤ 4 + 22 * 3 := by rw [List.length_append]; simp only [wMar, List.length_cons, List.length_nil]; omega
  have hL : e.line = wMar ++ numsT [e.a, e.k, e.m] := by unfold Ev.line; rw [hk]; rfl
  generalize wMar ++ numsT [e.a, e.k, e.m] = T1 at *
  generalize numsT [e.a, e.k, e.m] = NS at *
  rw [hL]
  have d1 := hX.cell 1 (.int .i64 e.a) rfl
  have d2 := hX.cell 2 (.int .i64 e.k) rfl
  have d3 := hX.cell 3 (.int .i64 e.m) rfl
  have hXl := hX.lt
  generalize hw1 : w.alloc (.cells e.vals 38) = w1 at *
  have hR := hw (w1.alloc (.cells #[.int .i64 e.a, .int .i64 e.k, .int .i64 e.m] 3)) ⟨w.heap.size + 1, 0, none⟩ (b1.alloc (by omega) _) (by rw [← hr1]; exact ints_new w1 [e.a, e.k, e.m] 3)
  have HB1 := Lib.hid (b1.alloc (by omega) (.cells #[.int .i64 e.a, .int .i64 e.k, .int .i64 e.m] 3))
  clear b1 hX hE hG hw
  unfold Ev.val
  go_enter Tryd.func5, Tryd.ntmps5
  go_wp2_with fail
  refine hR.mono ?_
  rintro r w5 ⟨rfl, b5⟩
  clear hR
  go_wp2_with fail
  go_ret
  exact ⟨rfl, HB1.out.trans (b5.mono HB1.out.size)⟩

set_option maxHeartbeats 4000000 in
theorem showD_12 (e : Ev) (hk : e.kind = 12) (w : World) (hE : e.Ok w) (hG : Gl w) : Calls Tryd.prog 5 #[e.val] w fun r w' => r = .returned (.string (tx e.line)) ∧ Below w.heap.size w w' := by
  have hX := EBx.new w e
  have b1 : Below w.heap.size w (w.alloc (.cells e.vals 38)) := (Below.refl _ w).alloc (Nat.le_refl _) _
  have d0 := hX.cell 0 (.int .i64 e.kind) rfl
  rw [hk] at d0
  have hv : e.vals.size = 36 := rfl
  have hr1 : (w.alloc (.cells e.vals 38)).heap.size = w.heap.size + 1 := by simp
  obtain ⟨vao, vcc, hkv, _, _⟩ := hE.fat.form
  obtain ⟨ia, ik, im, ic, i1, i2, i3, i4, i5, i6, i7, i8⟩ := hE.ints
  have hwI : ∀ x ∈ [e.fn, e.ft], isI x := by
    intro x hx
    simp only [List.mem_cons, List.not_mem_nil, or_false] at hx
    rcases hx with rfl | rfl <;> assumption
  have hnl := numsT_len [e.fn, e.ft] hwI
  simp only [List.length_cons, List.length_nil] at hnl
  have hw : ∀ W' ad, Below w.heap.size w W' → IntsAt W' ad [e.fn, e.ft] → Calls Tryd.prog 11 #[.slice (some ad) 2 2] W' fun r w'' => r = .returned (.string (tx (numsT [e.fn, e.ft]))) ∧ Below W'.heap.size W' w'' := fun W' ad hb hA => rwords_any [e.fn, e.ft] ad 2 W' (hG.here hb) hwI (by show 2 ≤ 1000; decide) hA
  have k0 := cat_r ⟨#[102, 108, 105, 103, 104, 116]⟩ (numsT [e.fn, e.ft]) (by rw [show (⟨#[102, 108, 105, 103, 104, 116]⟩ : ByteArray).size = 6 from rfl]; omega)
  rw [show bs ⟨#[102, 108, 105, 103, 104, 116]⟩ = wFli from rfl] at k0
  have ht1 : (wFli ++ numsT [e.fn, e.ft]).length ≤ 6 + 22 * 2 := by rw [List.length_append]; simp only [wFli, List.length_cons, List.length_nil]; omega
  have h2 : ∀ W', Below w.heap.size w W' → Calls Tryd.prog 15 #[.slice vao e.fl.length vcc] W' fun r w'' => r = .returned (.string (tx (hexT e.fl))) ∧ Below W'.heap.size W' w'' := fun W' hb => by rw [← hkv]; exact rhex_any e.fv e.fl W' (hE.fat.below hb) (by have := hE.fle; omega)
  have hsl := hexT_len e.fl
  have hsl2 := hE.fle
  have hL : e.line = ((wFli ++ numsT [e.fn, e.ft]) ++ [32]) ++ hexT e.fl := by unfold Ev.line; rw [hk]; show (wFli ++ numsT [e.fn, e.ft]) ++ 32 :: hexT e.fl = _; rw [List.append_assoc (wFli ++ numsT [e.fn, e.ft])]; rfl
  have hsl3 : (hexT e.fl).length ≤ 5000000000000 := by omega
  generalize (hexT e.fl) = SC at *
  generalize wFli ++ numsT [e.fn, e.ft] = T1 at *
  generalize numsT [e.fn, e.ft] = NS at *
  have k1 := cat_l T1 ⟨#[32]⟩ (by rw [show (⟨#[32]⟩ : ByteArray).size = 1 from rfl]; omega)
  rw [show bs ⟨#[32]⟩ = [32] from rfl] at k1
  have ht2 : (T1 ++ [32]).length ≤ 200 := by rw [List.length_append, List.length_singleton]; omega
  generalize T1 ++ [32] = T2 at *
  have k2 := cat_tx T2 SC (by omega)
  generalize T2 ++ SC = T3 at *
  rw [hL]
  have d33 := hX.cell 33 (.int .i64 e.fn) rfl
  have d34 := hX.cell 34 (.int .i64 e.ft) rfl
  have d35 := hX.cell 35 e.fv rfl
  rw [hkv] at d35
  have hXl := hX.lt
  generalize hw1 : w.alloc (.cells e.vals 38) = w1 at *
  have hC0 : (w1.alloc (.cells #[.int .i64 e.fn, .int .i64 e.ft, .slice vao e.fl.length vcc] 36)).heap[w.heap.size + 1]? = some (.cells #[.int .i64 e.fn, .int .i64 e.ft, .slice vao e.fl.length vcc] 36 (0, 0)) := by rw [← hr1]; exact heap_alloc_new _ _
  have kc : ∀ W', Below (w1.alloc (.cells #[.int .i64 e.fn, .int .i64 e.ft, .slice vao e.fl.length vcc] 36)).heap.size (w1.alloc (.cells #[.int .i64 e.fn, .int .i64 e.ft, .slice vao e.fl.length vcc] 36)) W' → W'.cell? ⟨(w.heap.size + 1), 0, none⟩ = some (.int .i64 e.fn) ∧ W'.cell? ⟨(w.heap.size + 1), 1, none⟩ = some (.int .i64 e.ft) ∧ W'.cell? ⟨(w.heap.size + 1), 2, none⟩ = some (.slice vao e.fl.length vcc) := fun W' hb => ⟨(by have hh := (hb.block (w.heap.size + 1) (by simp; omega)).trans hC0; rw [Lib.cell_of_heap hh]; rfl), (by have hh := (hb.block (w.heap.size + 1) (by simp; omega)).trans hC0; rw [Lib.cell_of_heap hh]; rfl), (by have hh := (hb.block (w.heap.size + 1) (by simp; omega)).trans hC0; rw [Lib.cell_of_heap hh]; rfl)⟩
  have b2 : Below w.heap.size w (w1.alloc (.cells #[.int .i64 e.fn, .int .i64 e.ft, .slice vao e.fl.length vcc] 36)) := b1.alloc (by omega) _
  have KC := Lib.hid kc
  have HB2 := Lib.hid b2
  have HW := Lib.hid hw
  have H2 := Lib.hid h2
  clear kc b2 b1 hX hE hG hw h2 hC0
  unfold Ev.val
  go_enter Tryd.func5, Tryd.ntmps5
  go_wp2_with fail
  generalize w1.alloc (.cells #[.int .i64 e.fn, .int .i64 e.ft, .slice vao e.fl.length vcc] 36) = W0 at *
  clear d33 d34 d35 d0
  have hbd := (Below.refl W0.heap.size W0).drew
  have hcS := KC.out _ hbd
  refine wp_region_held_drew (S := fun w' => w'.cell? ⟨(w.heap.size + 1), 0, none⟩ = some (.int .i64 e.fn) ∧ w'.cell? ⟨(w.heap.size + 1), 1, none⟩ = some (.int .i64 e.ft) ∧ w'.cell? ⟨(w.heap.size + 1), 2, none⟩ = some (.slice vao e.fl.length vcc)) (by kernel_rfl) hcS (fun hHeld => ?_)
  refine wpAnyH_take (i := 0) (oi := ⟨some 142, .fieldAddr 36 (.tmp 5) 0, 0, "show.go:76", #[], none⟩) (v := (.pointer (some ⟨(w.heap.size + 1), 0, none⟩))) rfl (by kernel_rfl) (by kernel_rfl) (by kernel_rfl) (fun _ _ _ h => h) (Or.inl ⟨by rfl, fun _ _ => by rfl⟩) hHeld ?_
  simp only [Act.put, List.setIfInBounds_toArray, List.set_cons_zero, List.set_cons_succ]
  refine wpAnyH_take (i := 1) (oi := ⟨some 143, .load 3 (.tmp 142), 3, "show.go:76", #[⟨0, .data⟩], none⟩) (v := (.int .i64 e.fn)) rfl (by kernel_rfl) (by kernel_rfl) (by kernel_rfl) (fun _ _ _ h => h) (Or.inl ⟨by rfl, fun w' h' => by have ee := h'.1; unfold execOp; go_simp⟩) hHeld ?_
  simp only [Act.put, List.setIfInBounds_toArray, List.set_cons_zero, List.set_cons_succ]
  refine wpAnyH_take (i := 2) (oi := ⟨some 144, .fieldAddr 36 (.tmp 5) 1, 0, "show.go:76", #[], none⟩) (v := (.pointer (some ⟨(w.heap.size + 1), 1, none⟩))) rfl (by kernel_rfl) (by kernel_rfl) (by kernel_rfl) (fun _ _ _ h => h) (Or.inl ⟨by rfl, fun _ _ => by rfl⟩) hHeld ?_
  simp only [Act.put, List.setIfInBounds_toArray, List.set_cons_zero, List.set_cons_succ]
  refine wpAnyH_take (i := 3) (oi := ⟨some 145, .load 3 (.tmp 144), 3, "show.go:76", #[⟨2, .data⟩], none⟩) (v := (.int .i64 e.ft)) rfl (by kernel_rfl) (by kernel_rfl) (by kernel_rfl) (fun _ _ _ h => h) (Or.inl ⟨by rfl, fun w' h' => by have ee := h'.2.1; unfold execOp; go_simp⟩) hHeld ?_
  simp only [Act.put, List.setIfInBounds_toArray, List.set_cons_zero, List.set_cons_succ]
  refine wpAnyH_take (i := 8) (oi := ⟨some 150, .fieldAddr 36 (.tmp 5) 2, 0, "show.go:76", #[], none⟩) (v := (.pointer (some ⟨(w.heap.size + 1), 2, none⟩))) rfl (by kernel_rfl) (by kernel_rfl) (by kernel_rfl) (fun _ _ _ h => h) (Or.inl ⟨by rfl, fun _ _ => by rfl⟩) hHeld ?_
  simp only [Act.put, List.setIfInBounds_toArray, List.set_cons_zero, List.set_cons_succ]
  refine wpAnyH_take (i := 9) (oi := ⟨some 151, .load 23 (.tmp 150), 23, "show.go:76", #[⟨8, .data⟩], none⟩) (v := (.slice vao e.fl.length vcc)) rfl (by kernel_rfl) (by kernel_rfl) (by kernel_rfl) (fun _ _ _ h => h) (Or.inl ⟨by rfl, fun w' h' => by have ee := h'.2.2; unfold execOp; go_simp⟩) hHeld ?_
  simp only [Act.put, List.setIfInBounds_toArray, List.set_cons_zero, List.set_cons_succ]
  refine wpAnyH_ready (rs := [4]) (by kernel_rfl) (by simp) ?_
  refine AllReadyH.cons (o := ⟨some 146, .buildSlice 47 2 #[(0, .tmp 143), (1, .tmp 145)], 47, "show.go:76", #[⟨1, .data⟩, ⟨3, .data⟩], none⟩) rfl (fun KK hK => ?_) (AllReadyH.nil)
  go_simp
  have hbA := hbd.alloc hbd.size (.cells #[.int .i64 e.fn, .int .i64 e.ft] 3)
  have hcA := KC.out _ hbA
  have hia := ints_new W0.drew [e.fn, e.ft] 3
  refine hK.out _ _ hcA (fun hHeld => ?_)
  clear hK KK
  try simp only [Act.put, List.setIfInBounds_toArray, List.set_cons_zero, List.set_cons_succ]
  refine wpAnyH_ready (rs := [5]) (by kernel_rfl) (by simp) ?_
  refine AllReadyH.cons (o := ⟨some 147, .call ⟨.value (.func 11), #[.tmp 146], #[47]⟩, 9, "show.go:76", #[⟨4, .data⟩], none⟩) rfl (fun KK hK => ?_) (AllReadyH.nil)
  go_simp
  refine (HW.out _ _ (HB2.out.trans (hbA.mono HB2.out.size)) hia).mono ?_
  rintro r w9 ⟨rfl, b9⟩
  have hb9 := hbA.trans (b9.mono hbA.size)
  have hc9 := KC.out _ hb9
  clear b9 hia
  go_wp2_with fail
  refine hK.out _ _ hc9 (fun hHeld => ?_)
  clear hK KK
  try simp only [Act.put, List.setIfInBounds_toArray, List.set_cons_zero, List.set_cons_succ]
  refine wpAnyH_take (i := 6) (oi := ⟨some 148, .binOp .add 9 (.const (.string { data := #[102, 108, 105, 103, 104, 116] })) (.tmp 147) 9, 9, "show.go:76", #[⟨5, .data⟩], none⟩) (v := (.string (tx T1))) rfl (by kernel_rfl) (by kernel_rfl) (by kernel_rfl) (fun _ _ _ h => h) (Or.inl ⟨by rfl, fun w' h' => by have ee := k0; unfold execOp; go_simp⟩) hHeld ?_
  simp only [Act.put, List.setIfInBounds_toArray, List.set_cons_zero, List.set_cons_succ]
  refine wpAnyH_take (i := 7) (oi := ⟨some 149, .binOp .add 9 (.tmp 148) (.const (.string { data := #[32] })) 9, 9, "show.go:76", #[⟨6, .data⟩], none⟩) (v := (.string (tx T2))) rfl (by kernel_rfl) (by kernel_rfl) (by kernel_rfl) (fun _ _ _ h => h) (Or.inl ⟨by rfl, fun w' h' => by have ee := k1; unfold execOp; go_simp⟩) hHeld ?_
  simp only [Act.put, List.setIfInBounds_toArray, List.set_cons_zero, List.set_cons_succ]
  refine wpAnyH_ready (rs := [10]) (by kernel_rfl) (by simp) ?_
  refine AllReadyH.cons (o := ⟨some 152, .call ⟨.value (.func 15), #[.tmp 151], #[23]⟩, 9, "show.go:76", #[⟨9, .data⟩, ⟨5, .chain⟩], none⟩) rfl (fun KK hK => ?_) (AllReadyH.nil)
  go_simp
  refine (H2.out _ (HB2.out.trans (hb9.mono HB2.out.size))).mono ?_
  rintro r w10 ⟨rfl, b10⟩
  have hb10 := hb9.trans (b10.mono hb9.size)
  have hc10 := KC.out _ hb10
  clear b10
  go_wp2_with fail
  refine hK.out _ _ hc10 (fun hHeld => ?_)
  clear hK KK
  try simp only [Act.put, List.setIfInBounds_toArray, List.set_cons_zero, List.set_cons_succ]
  refine wpAnyH_take (i := 11) (oi := ⟨some 153, .binOp .add 9 (.tmp 149) (.tmp 152) 9, 9, "show.go:76", #[⟨7, .data⟩, ⟨10, .data⟩], none⟩) (v := (.string (tx T3))) rfl (by kernel_rfl) (by kernel_rfl) (by kernel_rfl) (fun _ _ _ h => h) (Or.inl ⟨by rfl, fun w' h' => by have ee := k2; unfold execOp; go_simp⟩) hHeld ?_
  simp only [Act.put, List.setIfInBounds_toArray, List.set_cons_zero, List.set_cons_succ]
  refine wpAnyH_take (i := 12) (oi := ⟨some 2, .assign (.tmp 153), 9, "show.go:76", #[⟨11, .data⟩, ⟨10, .chain⟩, ⟨0, .phase⟩, ⟨1, .phase⟩, ⟨2, .phase⟩, ⟨3, .phase⟩, ⟨4, .phase⟩, ⟨5, .phase⟩, ⟨6, .phase⟩, ⟨7, .phase⟩, ⟨8, .phase⟩, ⟨9, .phase⟩, ⟨10, .phase⟩, ⟨11, .phase⟩], none⟩) (v := (.string (tx T3))) rfl (by kernel_rfl) (by kernel_rfl) (by kernel_rfl) (fun _ _ _ h => h) (Or.inl ⟨by rfl, fun _ _ => by rfl⟩) hHeld ?_
  simp only [Act.put, List.setIfInBounds_toArray, List.set_cons_zero, List.set_cons_succ]
  refine wpAnyH_done (by kernel_rfl) ?_ _
  have HB10 := Lib.hid (HB2.out.trans (hb10.mono HB2.out.size))
  clear hb10 hc10
  go_wp2_with fail
  go_ret
  exact ⟨rfl, HB10.out⟩

set_option maxHeartbeats 4000000 in
theorem showD_0 (e : Ev) (hk : ∀ j : Nat, j < 12 → e.kind ≠ (j : Int) + 1) (w : World) : Calls Tryd.prog 5 #[e.val] w fun r w' => r = .returned (.string (tx e.line)) ∧ Below w.heap.size w w' := by
  have hX := EBx.new w e
  have d0 := hX.cell 0 (.int .i64 e.kind) rfl
  have hv : e.vals.size = 36 := rfl
  have h1 : e.kind ≠ 1 := hk 0 (by decide)
  have h2 : e.kind ≠ 2 := hk 1 (by decide)
  have h3 : e.kind ≠ 3 := hk 2 (by decide)
  have h4 : e.kind ≠ 4 := hk 3 (by decide)
  have h5 : e.kind ≠ 5 := hk 4 (by decide)
  have h6 : e.kind ≠ 6 := hk 5 (by decide)
  have h7 : e.kind ≠ 7 := hk 6 (by decide)
  have h8 : e.kind ≠ 8 := hk 7 (by decide)
  have h9 : e.kind ≠ 9 := hk 8 (by decide)
  have h10 : e.kind ≠ 10 := hk 9 (by decide)
  have h11 : e.kind ≠ 11 := hk 10 (by decide)
  have h12 : e.kind ≠ 12 := hk 11 (by decide)
  have hL := Lib.hid (show e.line = [] by unfold Ev.line; simp only [h1, h2, h3, h4, h5, h6, h7, h8, h9, h10, h11, h12, if_false])
  have q1 : (e.kind == 1) = false := by rw [beq_eq_false_iff_ne]; exact h1
  have q2 : (e.kind == 2) = false := by rw [beq_eq_false_iff_ne]; exact h2
  have q3 : (e.kind == 3) = false := by rw [beq_eq_false_iff_ne]; exact h3
  have q4 : (e.kind == 4) = false := by rw [beq_eq_false_iff_ne]; exact h4
  have q5 : (e.kind == 5) = false := by rw [beq_eq_false_iff_ne]; exact h5
  have q6 : (e.kind == 6) = false := by rw [beq_eq_false_iff_ne]; exact h6
  have q7 : (e.kind == 7) = false := by rw [beq_eq_false_iff_ne]; exact h7
  have q8 : (e.kind == 8) = false := by rw [beq_eq_false_iff_ne]; exact h8
  have q9 : (e.kind == 9) = false := by rw [beq_eq_false_iff_ne]; exact h9
  have q10 : (e.kind == 10) = false := by rw [beq_eq_false_iff_ne]; exact h10
  have q11 : (e.kind == 11) = false := by rw [beq_eq_false_iff_ne]; exact h11
  have q12 : (e.kind == 12) = false := by rw [beq_eq_false_iff_ne]; exact h12
  have HB := Lib.hid ((Below.refl _ w).alloc (Nat.le_refl _) (.cells e.vals 38))
  clear hX hk h1 h2 h3 h4 h5 h6 h7 h8 h9 h10 h11 h12
  unfold Ev.val
  go_enter Tryd.func5, Tryd.ntmps5
  go_wp2_with fail
  go_ret
  exact ⟨by rw [hL.out]; rfl, HB.out⟩

theorem showD_any (e : Ev) (w : World) (hE : e.Ok w) (hG : Gl w) : Calls Tryd.prog 5 #[e.val] w fun r w' => r = .returned (.string (tx e.line)) ∧ Below w.heap.size w w' := by
  by_cases h1 : e.kind = 1
  · exact showD_1 e h1 w hE hG
  by_cases h2 : e.kind = 2
  · exact showD_2 e h2 w hE hG
  by_cases h3 : e.kind = 3
  · exact showD_3 e h3 w hE hG
  by_cases h4 : e.kind = 4
  · exact showD_4 e h4 w hE hG
  by_cases h5 : e.kind = 5
  · exact showD_5 e h5 w hE hG
  by_cases h6 : e.kind = 6
  · exact showD_6 e h6 w hE hG
  by_cases h7 : e.kind = 7
  · exact showD_7 e h7 w hE hG
  by_cases h8 : e.kind = 8
  · exact showD_8 e h8 w hE hG
  by_cases h9 : e.kind = 9
  · exact showD_9 e h9 w hE hG
  by_cases h10 : e.kind = 10
  · exact showD_10 e h10 w hE hG
  by_cases h11 : e.kind = 11
  · exact showD_11 e h11 w hE hG
  by_cases h12 : e.kind = 12
  · exact showD_12 e h12 w hE hG
  refine showD_0 e (fun j hj h => ?_) w
  have : j = 0 ∨ j = 1 ∨ j = 2 ∨ j = 3 ∨ j = 4 ∨ j = 5 ∨ j = 6 ∨ j = 7 ∨ j = 8 ∨ j = 9 ∨ j = 10 ∨ j = 11 := by omega
  rcases this with rfl | rfl | rfl | rfl | rfl | rfl | rfl | rfl | rfl | rfl | rfl | rfl
  · exact h1 h
  · exact h2 h
  · exact h3 h
  · exact h4 h
  · exact h5 h
  · exact h6 h
  · exact h7 h
  · exact h8 h
  · exact h9 h
  · exact h10 h
  · exact h11 h
  · exact h12 h
end Go.Proofs.YtjkmdacgiebbfaaDoor
