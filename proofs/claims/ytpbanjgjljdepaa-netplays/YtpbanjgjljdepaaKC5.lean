/- plays: flip. -/
import Derived.Test.YtpbanjgjljdepaaKC4
namespace Go.Proofs.Ytpbanjgjljdepaa
open Go.RowKit Go.Maps
set_option maxRecDepth 100000
variable {w w' w0 w1 : World} {lab lab' lab'' : Nat → Nat} {k j pb c : Nat} {a b : Nat → Nat} {v bv bv' l : Value} {st : Int} {lg : Bool} {F : Nat → Prop} {S R : Nat → St} {es : List Ke}
theorem flip_short {T : St} {no at_ x : Int} (h : ∀ f ∈ T.l, f.d.length ≤ 4096) : ∀ f ∈ (flipS T no at_ x).l, f.d.length ≤ 4096 := fun f hf => by
  unfold flipS at hf
  split at hf
  · obtain ⟨g, hg, rfl⟩ := List.mem_map.1 hf
    have := h g hg
    split
    · simpa [flipD] using this
    · exact this
  · exact h f hf
set_option maxHeartbeats 4000000 in
theorem plays_flip (h : Pl w lab k pb a b bv st lg S S es) (hw : Wk w0 lab w) (hk : 0 < k) (hc : c < 2) (o : Op) (hO : ∀ w', Below w0.heap.size w0 w' → o.In w') (hwc : bits BinOp.and IntKind.i64 o.w 1 = (c : Int)) (h4 : o.k = 6) :
    Calls Try.prog 29 #[.pointer (some ⟨pb, 0, none⟩), .agg o.box] w fun e w' => e = .returned (.bool true) ∧ Stepped w w' lab k pb st es (upd2 S c (flipS (S c) o.no o.a o.v)) a b := by
  have M1 := Md.start h hw o
  obtain ⟨W1, hW1⟩ : ∃ W, w.alloc (.cells o.box 59) = W := ⟨_, rfl⟩
  rw [hW1] at M1
  have M2 := M1.below hk (below_drewN W1 1)
  have i2 := hO _ M2.wk.b
  have hS := flipN (M2.pl.n c hc) (no := o.no) (at_ := o.a) (v := o.v) i2.kno
  have o0 := M1.at 0 (.int .i64 o.k) rfl
  have o1 := M1.at 1 (.int .i64 o.w) rfl
  have o2 := M1.at 2 (.int .i64 o.no) rfl
  have o3 := M1.at 3 (.int .i64 o.a) rfl
  have o4 := M1.at 4 (.int .i64 o.v) rfl
  have p0 := M1.pl.cell 0 _ rfl
  have p1 := M1.pl.cell 1 _ rfl
  have p2 := M1.pl.cell 2 _ rfl
  have p3 := M1.pl.cell 3 _ rfl
  have HM2 : Hid (Md w0 w (W1.drewN 1) lab _ k pb a b bv st lg S S es o w.heap.size) := M2
  clear M1 M2 i2 h hw
  rw [h4] at o0
  obtain rfl | rfl : c = 0 ∨ c = 1 := by omega
  · rw [show ((0 : Nat) : Int) = 0 from rfl] at hwc
    go_enter Try.func29, Try.ntmps29
    go_wp2_with fail
    refine wp_region_held_drew (S := fun w' => w'.cell? ⟨pb, 0, none⟩ = some (.pointer (some ⟨a 0, 0, none⟩)) ∧ w'.cell? ⟨w.heap.size, 2, none⟩ = some (.int .i64 o.no) ∧ w'.cell? ⟨w.heap.size, 3, none⟩ = some (.int .i64 o.a) ∧ w'.cell? ⟨w.heap.size, 4, none⟩ = some (.int .i64 o.v)) (by kernel_rfl) ⟨p0, o2, o3, o4⟩ (fun hHeld => ?_)
    refine wpAnyH_take (i := 0) (oi := ⟨some 148, .move (.tmp 0), 66, "law.go:181", #[], none⟩) (v := (.pointer (some ⟨pb, 0, none⟩))) rfl (by kernel_rfl) (by kernel_rfl) (by kernel_rfl) (fun _ _ _ h => h) (Or.inl ⟨by rfl, fun _ _ => by rfl⟩) hHeld ?_
    simp only [Act.put, List.setIfInBounds_toArray, List.set_cons_zero, List.set_cons_succ]
    refine wpAnyH_take (i := 1) (oi := ⟨some 149, .move (.tmp 5), 3, "law.go:181", #[], none⟩) (v := (.int .i64 0)) rfl (by kernel_rfl) (by kernel_rfl) (by kernel_rfl) (fun _ _ _ h => h) (Or.inl ⟨by rfl, fun _ _ => by rfl⟩) hHeld ?_
    simp only [Act.put, List.setIfInBounds_toArray, List.set_cons_zero, List.set_cons_succ]
    refine wpAnyH_take (i := 2) (oi := ⟨some 150, .nilCheck (.tmp 148), 0, "law.go:181", #[⟨0, .data⟩], none⟩) (v := (.pointer (some ⟨pb, 0, none⟩))) rfl (by kernel_rfl) (by kernel_rfl) (by kernel_rfl) (fun _ _ _ h => h) (Or.inl ⟨by rfl, fun _ _ => by rfl⟩) hHeld ?_
    simp only [Act.put, List.setIfInBounds_toArray, List.set_cons_zero, List.set_cons_succ]
    refine wpAnyH_take (i := 3) (oi := ⟨some 151, .fieldAddr 71 (.tmp 150) 0, 0, "law.go:181", #[⟨2, .data⟩], none⟩) (v := (.pointer (some ⟨pb, 0, none⟩))) rfl (by kernel_rfl) (by kernel_rfl) (by kernel_rfl) (fun _ _ _ h => h) (Or.inl ⟨by rfl, fun _ _ => by rfl⟩) hHeld ?_
    simp only [Act.put, List.setIfInBounds_toArray, List.set_cons_zero, List.set_cons_succ]
    refine wpAnyH_take (i := 4) (oi := ⟨some 152, .indexAddr 67 (.tmp 151) (.tmp 149), 0, "law.go:181", #[⟨3, .data⟩, ⟨1, .data⟩], none⟩) (v := (.pointer (some ⟨pb, 0, none⟩))) rfl (by kernel_rfl) (by kernel_rfl) (by kernel_rfl) (fun _ _ _ h => h) (Or.inl ⟨by rfl, fun w' h' => by unfold execOp; go_simp⟩) hHeld ?_
    simp only [Act.put, List.setIfInBounds_toArray, List.set_cons_zero, List.set_cons_succ]
    refine wpAnyH_take (i := 5) (oi := ⟨some 153, .load 24 (.tmp 152), 24, "law.go:181", #[⟨4, .data⟩], none⟩) (v := (.pointer (some ⟨a 0, 0, none⟩))) rfl (by kernel_rfl) (by kernel_rfl) (by kernel_rfl) (fun _ _ _ h => h) (Or.inl ⟨by rfl, fun w' h' => by have e1 := h'.1; have e2 := h'.2.1; have e3 := h'.2.2.1; have e4 := h'.2.2.2; unfold execOp; go_simp⟩) hHeld ?_
    simp only [Act.put, List.setIfInBounds_toArray, List.set_cons_zero, List.set_cons_succ]
    refine wpAnyH_take (i := 6) (oi := ⟨some 154, .fieldAddr 59 (.tmp 3) 2, 0, "law.go:181", #[], none⟩) (v := (.pointer (some ⟨w.heap.size, 2, none⟩))) rfl (by kernel_rfl) (by kernel_rfl) (by kernel_rfl) (fun _ _ _ h => h) (Or.inl ⟨by rfl, fun _ _ => by rfl⟩) hHeld ?_
    simp only [Act.put, List.setIfInBounds_toArray, List.set_cons_zero, List.set_cons_succ]
    refine wpAnyH_take (i := 7) (oi := ⟨some 155, .load 3 (.tmp 154), 3, "law.go:181", #[⟨6, .data⟩], none⟩) (v := (.int .i64 o.no)) rfl (by kernel_rfl) (by kernel_rfl) (by kernel_rfl) (fun _ _ _ h => h) (Or.inl ⟨by rfl, fun w' h' => by have e1 := h'.1; have e2 := h'.2.1; have e3 := h'.2.2.1; have e4 := h'.2.2.2; unfold execOp; go_simp⟩) hHeld ?_
    simp only [Act.put, List.setIfInBounds_toArray, List.set_cons_zero, List.set_cons_succ]
    refine wpAnyH_take (i := 8) (oi := ⟨some 156, .fieldAddr 59 (.tmp 3) 3, 0, "law.go:181", #[], none⟩) (v := (.pointer (some ⟨w.heap.size, 3, none⟩))) rfl (by kernel_rfl) (by kernel_rfl) (by kernel_rfl) (fun _ _ _ h => h) (Or.inl ⟨by rfl, fun _ _ => by rfl⟩) hHeld ?_
    simp only [Act.put, List.setIfInBounds_toArray, List.set_cons_zero, List.set_cons_succ]
    refine wpAnyH_take (i := 9) (oi := ⟨some 157, .load 3 (.tmp 156), 3, "law.go:181", #[⟨8, .data⟩], none⟩) (v := (.int .i64 o.a)) rfl (by kernel_rfl) (by kernel_rfl) (by kernel_rfl) (fun _ _ _ h => h) (Or.inl ⟨by rfl, fun w' h' => by have e1 := h'.1; have e2 := h'.2.1; have e3 := h'.2.2.1; have e4 := h'.2.2.2; unfold execOp; go_simp⟩) hHeld ?_
    simp only [Act.put, List.setIfInBounds_toArray, List.set_cons_zero, List.set_cons_succ]
    refine wpAnyH_take (i := 10) (oi := ⟨some 158, .fieldAddr 59 (.tmp 3) 4, 0, "law.go:181", #[], none⟩) (v := (.pointer (some ⟨w.heap.size, 4, none⟩))) rfl (by kernel_rfl) (by kernel_rfl) (by kernel_rfl) (fun _ _ _ h => h) (Or.inl ⟨by rfl, fun _ _ => by rfl⟩) hHeld ?_
    simp only [Act.put, List.setIfInBounds_toArray, List.set_cons_zero, List.set_cons_succ]
    refine wpAnyH_take (i := 11) (oi := ⟨some 159, .load 3 (.tmp 158), 3, "law.go:181", #[⟨10, .data⟩], none⟩) (v := (.int .i64 o.v)) rfl (by kernel_rfl) (by kernel_rfl) (by kernel_rfl) (fun _ _ _ h => h) (Or.inl ⟨by rfl, fun w' h' => by have e1 := h'.1; have e2 := h'.2.1; have e3 := h'.2.2.1; have e4 := h'.2.2.2; unfold execOp; go_simp⟩) hHeld ?_
    simp only [Act.put, List.setIfInBounds_toArray, List.set_cons_zero, List.set_cons_succ]
    refine wpAnyH_ready (rs := [12]) (by kernel_rfl) (by simp) ?_
    refine AllReadyH.cons (o := ⟨some 160, .call ⟨.value (.func 17), #[.tmp 153, .tmp 155, .tmp 157, .tmp 159], #[24, 3, 3, 3]⟩, 29, "law.go:181", #[⟨5, .data⟩, ⟨7, .data⟩, ⟨9, .data⟩, ⟨11, .data⟩], none⟩) rfl (fun KK hK => ?_) (AllReadyH.nil)
    go_simp
    refine hS.mono ?_
    rintro e w5 ⟨rfl, hN5, t5⟩
    obtain ⟨P5, F5⟩ := HM2.out.pl.stepN hc hN5 t5 (fun i hi _ => rl_old hi) (fun q => flip_short (HM2.out.pl.short q 0 hc))
    have M5 := HM2.out.step hk P5 F5
    have x0 := P5.cell 0 _ rfl
    have x2 := P5.cell 2 _ rfl
    have x5 := M5.at 2 (.int .i64 o.no) rfl
    have x6 := M5.at 3 (.int .i64 o.a) rfl
    have x7 := M5.at 4 (.int .i64 o.v) rfl
    have HM5 : Hid (Md w0 w w5 lab _ k pb a b bv st _ _ S es o w.heap.size) := M5
    clear hS M5 P5 F5 hN5 t5 HM2
    go_wp2_with fail
    refine hK.out _ _ ⟨x0, x5, x6, x7⟩ (fun hHeld => ?_)
    clear hK KK
    try simp only [Act.put, List.setIfInBounds_toArray, List.set_cons_zero, List.set_cons_succ]
    refine wpAnyH_take (i := 13) (oi := ⟨some 14, .assign (.tmp 160), 29, "law.go:181", #[⟨12, .data⟩, ⟨12, .chain⟩, ⟨0, .phase⟩, ⟨1, .phase⟩, ⟨2, .phase⟩, ⟨3, .phase⟩, ⟨4, .phase⟩, ⟨5, .phase⟩, ⟨6, .phase⟩, ⟨7, .phase⟩, ⟨8, .phase⟩, ⟨9, .phase⟩, ⟨10, .phase⟩, ⟨11, .phase⟩, ⟨12, .phase⟩], none⟩) (v := (.int .i64 (flipE (S 0) o.no o.a o.v))) rfl (by kernel_rfl) (by kernel_rfl) (by kernel_rfl) (fun _ _ _ h => h) (Or.inl ⟨by rfl, fun _ _ => by rfl⟩) hHeld ?_
    simp only [Act.put, List.setIfInBounds_toArray, List.set_cons_zero, List.set_cons_succ]
    refine wpAnyH_done (by kernel_rfl) ?_ _
    go_wp2_with fail
    have M6 := HM5.out.below hk (below_drewN w5 1)
    have hD := dflipN (M6.pl.d 0 hc) o.no o.a o.v
    have HM6 : Hid (Md w0 w (w5.drewN 1) lab _ k pb a b bv st _ _ S es o w.heap.size) := M6
    clear M6 HM5
    refine wp_region_held_drew (S := fun w' => w'.cell? ⟨pb, 2, none⟩ = some (.pointer (some ⟨b 0, 0, none⟩)) ∧ w'.cell? ⟨w.heap.size, 2, none⟩ = some (.int .i64 o.no) ∧ w'.cell? ⟨w.heap.size, 3, none⟩ = some (.int .i64 o.a) ∧ w'.cell? ⟨w.heap.size, 4, none⟩ = some (.int .i64 o.v)) (by kernel_rfl) ⟨x2, x5, x6, x7⟩ (fun hHeld => ?_)
    refine wpAnyH_take (i := 0) (oi := ⟨some 161, .move (.tmp 0), 66, "law.go:182", #[], none⟩) (v := (.pointer (some ⟨pb, 0, none⟩))) rfl (by kernel_rfl) (by kernel_rfl) (by kernel_rfl) (fun _ _ _ h => h) (Or.inl ⟨by rfl, fun _ _ => by rfl⟩) hHeld ?_
    simp only [Act.put, List.setIfInBounds_toArray, List.set_cons_zero, List.set_cons_succ]
    refine wpAnyH_take (i := 1) (oi := ⟨some 162, .move (.tmp 5), 3, "law.go:182", #[], none⟩) (v := (.int .i64 0)) rfl (by kernel_rfl) (by kernel_rfl) (by kernel_rfl) (fun _ _ _ h => h) (Or.inl ⟨by rfl, fun _ _ => by rfl⟩) hHeld ?_
    simp only [Act.put, List.setIfInBounds_toArray, List.set_cons_zero, List.set_cons_succ]
    refine wpAnyH_take (i := 2) (oi := ⟨some 163, .nilCheck (.tmp 161), 0, "law.go:182", #[⟨0, .data⟩], none⟩) (v := (.pointer (some ⟨pb, 0, none⟩))) rfl (by kernel_rfl) (by kernel_rfl) (by kernel_rfl) (fun _ _ _ h => h) (Or.inl ⟨by rfl, fun _ _ => by rfl⟩) hHeld ?_
    simp only [Act.put, List.setIfInBounds_toArray, List.set_cons_zero, List.set_cons_succ]
    refine wpAnyH_take (i := 3) (oi := ⟨some 164, .fieldAddr 71 (.tmp 163) 1, 0, "law.go:182", #[⟨2, .data⟩], none⟩) (v := (.pointer (some ⟨pb, 2, none⟩))) rfl (by kernel_rfl) (by kernel_rfl) (by kernel_rfl) (fun _ _ _ h => h) (Or.inl ⟨by rfl, fun _ _ => by rfl⟩) hHeld ?_
    simp only [Act.put, List.setIfInBounds_toArray, List.set_cons_zero, List.set_cons_succ]
    refine wpAnyH_take (i := 4) (oi := ⟨some 165, .indexAddr 68 (.tmp 164) (.tmp 162), 0, "law.go:182", #[⟨3, .data⟩, ⟨1, .data⟩], none⟩) (v := (.pointer (some ⟨pb, 2, none⟩))) rfl (by kernel_rfl) (by kernel_rfl) (by kernel_rfl) (fun _ _ _ h => h) (Or.inl ⟨by rfl, fun w' h' => by unfold execOp; go_simp⟩) hHeld ?_
    simp only [Act.put, List.setIfInBounds_toArray, List.set_cons_zero, List.set_cons_succ]
    refine wpAnyH_take (i := 5) (oi := ⟨some 166, .load 52 (.tmp 165), 52, "law.go:182", #[⟨4, .data⟩], none⟩) (v := (.pointer (some ⟨b 0, 0, none⟩))) rfl (by kernel_rfl) (by kernel_rfl) (by kernel_rfl) (fun _ _ _ h => h) (Or.inl ⟨by rfl, fun w' h' => by have e1 := h'.1; have e2 := h'.2.1; have e3 := h'.2.2.1; have e4 := h'.2.2.2; unfold execOp; go_simp⟩) hHeld ?_
    simp only [Act.put, List.setIfInBounds_toArray, List.set_cons_zero, List.set_cons_succ]
    refine wpAnyH_take (i := 6) (oi := ⟨some 167, .fieldAddr 59 (.tmp 3) 2, 0, "law.go:182", #[], none⟩) (v := (.pointer (some ⟨w.heap.size, 2, none⟩))) rfl (by kernel_rfl) (by kernel_rfl) (by kernel_rfl) (fun _ _ _ h => h) (Or.inl ⟨by rfl, fun _ _ => by rfl⟩) hHeld ?_
    simp only [Act.put, List.setIfInBounds_toArray, List.set_cons_zero, List.set_cons_succ]
    refine wpAnyH_take (i := 7) (oi := ⟨some 168, .load 3 (.tmp 167), 3, "law.go:182", #[⟨6, .data⟩], none⟩) (v := (.int .i64 o.no)) rfl (by kernel_rfl) (by kernel_rfl) (by kernel_rfl) (fun _ _ _ h => h) (Or.inl ⟨by rfl, fun w' h' => by have e1 := h'.1; have e2 := h'.2.1; have e3 := h'.2.2.1; have e4 := h'.2.2.2; unfold execOp; go_simp⟩) hHeld ?_
    simp only [Act.put, List.setIfInBounds_toArray, List.set_cons_zero, List.set_cons_succ]
    refine wpAnyH_take (i := 8) (oi := ⟨some 169, .fieldAddr 59 (.tmp 3) 3, 0, "law.go:182", #[], none⟩) (v := (.pointer (some ⟨w.heap.size, 3, none⟩))) rfl (by kernel_rfl) (by kernel_rfl) (by kernel_rfl) (fun _ _ _ h => h) (Or.inl ⟨by rfl, fun _ _ => by rfl⟩) hHeld ?_
    simp only [Act.put, List.setIfInBounds_toArray, List.set_cons_zero, List.set_cons_succ]
    refine wpAnyH_take (i := 9) (oi := ⟨some 170, .load 3 (.tmp 169), 3, "law.go:182", #[⟨8, .data⟩], none⟩) (v := (.int .i64 o.a)) rfl (by kernel_rfl) (by kernel_rfl) (by kernel_rfl) (fun _ _ _ h => h) (Or.inl ⟨by rfl, fun w' h' => by have e1 := h'.1; have e2 := h'.2.1; have e3 := h'.2.2.1; have e4 := h'.2.2.2; unfold execOp; go_simp⟩) hHeld ?_
    simp only [Act.put, List.setIfInBounds_toArray, List.set_cons_zero, List.set_cons_succ]
    refine wpAnyH_take (i := 10) (oi := ⟨some 171, .fieldAddr 59 (.tmp 3) 4, 0, "law.go:182", #[], none⟩) (v := (.pointer (some ⟨w.heap.size, 4, none⟩))) rfl (by kernel_rfl) (by kernel_rfl) (by kernel_rfl) (fun _ _ _ h => h) (Or.inl ⟨by rfl, fun _ _ => by rfl⟩) hHeld ?_
    simp only [Act.put, List.setIfInBounds_toArray, List.set_cons_zero, List.set_cons_succ]
    refine wpAnyH_take (i := 11) (oi := ⟨some 172, .load 3 (.tmp 171), 3, "law.go:182", #[⟨10, .data⟩], none⟩) (v := (.int .i64 o.v)) rfl (by kernel_rfl) (by kernel_rfl) (by kernel_rfl) (fun _ _ _ h => h) (Or.inl ⟨by rfl, fun w' h' => by have e1 := h'.1; have e2 := h'.2.1; have e3 := h'.2.2.1; have e4 := h'.2.2.2; unfold execOp; go_simp⟩) hHeld ?_
    simp only [Act.put, List.setIfInBounds_toArray, List.set_cons_zero, List.set_cons_succ]
    refine wpAnyH_ready (rs := [12]) (by kernel_rfl) (by simp) ?_
    refine AllReadyH.cons (o := ⟨some 173, .call ⟨.value (.func 41), #[.tmp 166, .tmp 168, .tmp 170, .tmp 172], #[52, 3, 3, 3]⟩, 3, "law.go:182", #[⟨5, .data⟩, ⟨7, .data⟩, ⟨9, .data⟩, ⟨11, .data⟩], none⟩) rfl (fun KK hK => ?_) (AllReadyH.nil)
    go_simp
    refine hD.mono ?_
    rintro e w7 ⟨rfl, hN7, t7⟩
    obtain ⟨P7, F7⟩ := HM6.out.pl.stepD hc hN7 t7 (fun i hi _ => rl_old hi)
    have M7 := HM6.out.step hk P7 F7
    have y0 := P7.cell 2 _ rfl
    have y5 := M7.at 2 (.int .i64 o.no) rfl
    have y6 := M7.at 3 (.int .i64 o.a) rfl
    have y7 := M7.at 4 (.int .i64 o.v) rfl
    have HM7 : Hid (Md w0 w w7 lab _ k pb a b bv st _ _ _ es o w.heap.size) := M7
    clear hD M7 P7 F7 hN7 t7 HM6
    go_wp2_with fail
    refine hK.out _ _ ⟨y0, y5, y6, y7⟩ (fun hHeld => ?_)
    clear hK KK
    try simp only [Act.put, List.setIfInBounds_toArray, List.set_cons_zero, List.set_cons_succ]
    refine wpAnyH_take (i := 13) (oi := ⟨some 15, .assign (.tmp 173), 3, "law.go:182", #[⟨12, .data⟩, ⟨12, .chain⟩, ⟨0, .phase⟩, ⟨1, .phase⟩, ⟨2, .phase⟩, ⟨3, .phase⟩, ⟨4, .phase⟩, ⟨5, .phase⟩, ⟨6, .phase⟩, ⟨7, .phase⟩, ⟨8, .phase⟩, ⟨9, .phase⟩, ⟨10, .phase⟩, ⟨11, .phase⟩, ⟨12, .phase⟩], none⟩) (v := (.int .i64 (flipE (S 0) o.no o.a o.v))) rfl (by kernel_rfl) (by kernel_rfl) (by kernel_rfl) (fun _ _ _ h => h) (Or.inl ⟨by rfl, fun _ _ => by rfl⟩) hHeld ?_
    simp only [Act.put, List.setIfInBounds_toArray, List.set_cons_zero, List.set_cons_succ]
    refine wpAnyH_done (by kernel_rfl) ?_ _
    have hbb : (flipE (S 0) o.no o.a o.v == flipE (S 0) o.no o.a o.v) = true := by simp
    have hnm := num_any (flipE (S 0) o.no o.a o.v) w7
    go_wp2_with fail
    refine hnm.mono ?_
    rintro e w8 ⟨rfl, rfl⟩
    clear hnm
    go_wp2_with fail
    go_ret
    exact ⟨rfl, _, _, _, _, HM7.out.pl, HM7.out.fr, fun q => by omega⟩
  · rw [show ((1 : Nat) : Int) = 1 from rfl] at hwc
    go_enter Try.func29, Try.ntmps29
    go_wp2_with fail
    refine wp_region_held_drew (S := fun w' => w'.cell? ⟨pb, 1, none⟩ = some (.pointer (some ⟨a 1, 0, none⟩)) ∧ w'.cell? ⟨w.heap.size, 2, none⟩ = some (.int .i64 o.no) ∧ w'.cell? ⟨w.heap.size, 3, none⟩ = some (.int .i64 o.a) ∧ w'.cell? ⟨w.heap.size, 4, none⟩ = some (.int .i64 o.v)) (by kernel_rfl) ⟨p1, o2, o3, o4⟩ (fun hHeld => ?_)
    refine wpAnyH_take (i := 0) (oi := ⟨some 148, .move (.tmp 0), 66, "law.go:181", #[], none⟩) (v := (.pointer (some ⟨pb, 0, none⟩))) rfl (by kernel_rfl) (by kernel_rfl) (by kernel_rfl) (fun _ _ _ h => h) (Or.inl ⟨by rfl, fun _ _ => by rfl⟩) hHeld ?_
    simp only [Act.put, List.setIfInBounds_toArray, List.set_cons_zero, List.set_cons_succ]
    refine wpAnyH_take (i := 1) (oi := ⟨some 149, .move (.tmp 5), 3, "law.go:181", #[], none⟩) (v := (.int .i64 1)) rfl (by kernel_rfl) (by kernel_rfl) (by kernel_rfl) (fun _ _ _ h => h) (Or.inl ⟨by rfl, fun _ _ => by rfl⟩) hHeld ?_
    simp only [Act.put, List.setIfInBounds_toArray, List.set_cons_zero, List.set_cons_succ]
    refine wpAnyH_take (i := 2) (oi := ⟨some 150, .nilCheck (.tmp 148), 0, "law.go:181", #[⟨0, .data⟩], none⟩) (v := (.pointer (some ⟨pb, 0, none⟩))) rfl (by kernel_rfl) (by kernel_rfl) (by kernel_rfl) (fun _ _ _ h => h) (Or.inl ⟨by rfl, fun _ _ => by rfl⟩) hHeld ?_
    simp only [Act.put, List.setIfInBounds_toArray, List.set_cons_zero, List.set_cons_succ]
    refine wpAnyH_take (i := 3) (oi := ⟨some 151, .fieldAddr 71 (.tmp 150) 0, 0, "law.go:181", #[⟨2, .data⟩], none⟩) (v := (.pointer (some ⟨pb, 0, none⟩))) rfl (by kernel_rfl) (by kernel_rfl) (by kernel_rfl) (fun _ _ _ h => h) (Or.inl ⟨by rfl, fun _ _ => by rfl⟩) hHeld ?_
    simp only [Act.put, List.setIfInBounds_toArray, List.set_cons_zero, List.set_cons_succ]
    refine wpAnyH_take (i := 4) (oi := ⟨some 152, .indexAddr 67 (.tmp 151) (.tmp 149), 0, "law.go:181", #[⟨3, .data⟩, ⟨1, .data⟩], none⟩) (v := (.pointer (some ⟨pb, 1, none⟩))) rfl (by kernel_rfl) (by kernel_rfl) (by kernel_rfl) (fun _ _ _ h => h) (Or.inl ⟨by rfl, fun w' h' => by unfold execOp; go_simp⟩) hHeld ?_
    simp only [Act.put, List.setIfInBounds_toArray, List.set_cons_zero, List.set_cons_succ]
    refine wpAnyH_take (i := 5) (oi := ⟨some 153, .load 24 (.tmp 152), 24, "law.go:181", #[⟨4, .data⟩], none⟩) (v := (.pointer (some ⟨a 1, 0, none⟩))) rfl (by kernel_rfl) (by kernel_rfl) (by kernel_rfl) (fun _ _ _ h => h) (Or.inl ⟨by rfl, fun w' h' => by have e1 := h'.1; have e2 := h'.2.1; have e3 := h'.2.2.1; have e4 := h'.2.2.2; unfold execOp; go_simp⟩) hHeld ?_
    simp only [Act.put, List.setIfInBounds_toArray, List.set_cons_zero, List.set_cons_succ]
    refine wpAnyH_take (i := 6) (oi := ⟨some 154, .fieldAddr 59 (.tmp 3) 2, 0, "law.go:181", #[], none⟩) (v := (.pointer (some ⟨w.heap.size, 2, none⟩))) rfl (by kernel_rfl) (by kernel_rfl) (by kernel_rfl) (fun _ _ _ h => h) (Or.inl ⟨by rfl, fun _ _ => by rfl⟩) hHeld ?_
    simp only [Act.put, List.setIfInBounds_toArray, List.set_cons_zero, List.set_cons_succ]
    refine wpAnyH_take (i := 7) (oi := ⟨some 155, .load 3 (.tmp 154), 3, "law.go:181", #[⟨6, .data⟩], none⟩) (v := (.int .i64 o.no)) rfl (by kernel_rfl) (by kernel_rfl) (by kernel_rfl) (fun _ _ _ h => h) (Or.inl ⟨by rfl, fun w' h' => by have e1 := h'.1; have e2 := h'.2.1; have e3 := h'.2.2.1; have e4 := h'.2.2.2; unfold execOp; go_simp⟩) hHeld ?_
    simp only [Act.put, List.setIfInBounds_toArray, List.set_cons_zero, List.set_cons_succ]
    refine wpAnyH_take (i := 8) (oi := ⟨some 156, .fieldAddr 59 (.tmp 3) 3, 0, "law.go:181", #[], none⟩) (v := (.pointer (some ⟨w.heap.size, 3, none⟩))) rfl (by kernel_rfl) (by kernel_rfl) (by kernel_rfl) (fun _ _ _ h => h) (Or.inl ⟨by rfl, fun _ _ => by rfl⟩) hHeld ?_
    simp only [Act.put, List.setIfInBounds_toArray, List.set_cons_zero, List.set_cons_succ]
    refine wpAnyH_take (i := 9) (oi := ⟨some 157, .load 3 (.tmp 156), 3, "law.go:181", #[⟨8, .data⟩], none⟩) (v := (.int .i64 o.a)) rfl (by kernel_rfl) (by kernel_rfl) (by kernel_rfl) (fun _ _ _ h => h) (Or.inl ⟨by rfl, fun w' h' => by have e1 := h'.1; have e2 := h'.2.1; have e3 := h'.2.2.1; have e4 := h'.2.2.2; unfold execOp; go_simp⟩) hHeld ?_
    simp only [Act.put, List.setIfInBounds_toArray, List.set_cons_zero, List.set_cons_succ]
    refine wpAnyH_take (i := 10) (oi := ⟨some 158, .fieldAddr 59 (.tmp 3) 4, 0, "law.go:181", #[], none⟩) (v := (.pointer (some ⟨w.heap.size, 4, none⟩))) rfl (by kernel_rfl) (by kernel_rfl) (by kernel_rfl) (fun _ _ _ h => h) (Or.inl ⟨by rfl, fun _ _ => by rfl⟩) hHeld ?_
    simp only [Act.put, List.setIfInBounds_toArray, List.set_cons_zero, List.set_cons_succ]
    refine wpAnyH_take (i := 11) (oi := ⟨some 159, .load 3 (.tmp 158), 3, "law.go:181", #[⟨10, .data⟩], none⟩) (v := (.int .i64 o.v)) rfl (by kernel_rfl) (by kernel_rfl) (by kernel_rfl) (fun _ _ _ h => h) (Or.inl ⟨by rfl, fun w' h' => by have e1 := h'.1; have e2 := h'.2.1; have e3 := h'.2.2.1; have e4 := h'.2.2.2; unfold execOp; go_simp⟩) hHeld ?_
    simp only [Act.put, List.setIfInBounds_toArray, List.set_cons_zero, List.set_cons_succ]
    refine wpAnyH_ready (rs := [12]) (by kernel_rfl) (by simp) ?_
    refine AllReadyH.cons (o := ⟨some 160, .call ⟨.value (.func 17), #[.tmp 153, .tmp 155, .tmp 157, .tmp 159], #[24, 3, 3, 3]⟩, 29, "law.go:181", #[⟨5, .data⟩, ⟨7, .data⟩, ⟨9, .data⟩, ⟨11, .data⟩], none⟩) rfl (fun KK hK => ?_) (AllReadyH.nil)
    go_simp
    refine hS.mono ?_
    rintro e w5 ⟨rfl, hN5, t5⟩
    obtain ⟨P5, F5⟩ := HM2.out.pl.stepN hc hN5 t5 (fun i hi _ => rl_old hi) (fun q => flip_short (HM2.out.pl.short q 1 hc))
    have M5 := HM2.out.step hk P5 F5
    have x0 := P5.cell 1 _ rfl
    have x2 := P5.cell 3 _ rfl
    have x5 := M5.at 2 (.int .i64 o.no) rfl
    have x6 := M5.at 3 (.int .i64 o.a) rfl
    have x7 := M5.at 4 (.int .i64 o.v) rfl
    have HM5 : Hid (Md w0 w w5 lab _ k pb a b bv st _ _ S es o w.heap.size) := M5
    clear hS M5 P5 F5 hN5 t5 HM2
    go_wp2_with fail
    refine hK.out _ _ ⟨x0, x5, x6, x7⟩ (fun hHeld => ?_)
    clear hK KK
    try simp only [Act.put, List.setIfInBounds_toArray, List.set_cons_zero, List.set_cons_succ]
    refine wpAnyH_take (i := 13) (oi := ⟨some 14, .assign (.tmp 160), 29, "law.go:181", #[⟨12, .data⟩, ⟨12, .chain⟩, ⟨0, .phase⟩, ⟨1, .phase⟩, ⟨2, .phase⟩, ⟨3, .phase⟩, ⟨4, .phase⟩, ⟨5, .phase⟩, ⟨6, .phase⟩, ⟨7, .phase⟩, ⟨8, .phase⟩, ⟨9, .phase⟩, ⟨10, .phase⟩, ⟨11, .phase⟩, ⟨12, .phase⟩], none⟩) (v := (.int .i64 (flipE (S 1) o.no o.a o.v))) rfl (by kernel_rfl) (by kernel_rfl) (by kernel_rfl) (fun _ _ _ h => h) (Or.inl ⟨by rfl, fun _ _ => by rfl⟩) hHeld ?_
    simp only [Act.put, List.setIfInBounds_toArray, List.set_cons_zero, List.set_cons_succ]
    refine wpAnyH_done (by kernel_rfl) ?_ _
    go_wp2_with fail
    have M6 := HM5.out.below hk (below_drewN w5 1)
    have hD := dflipN (M6.pl.d 1 hc) o.no o.a o.v
    have HM6 : Hid (Md w0 w (w5.drewN 1) lab _ k pb a b bv st _ _ S es o w.heap.size) := M6
    clear M6 HM5
    refine wp_region_held_drew (S := fun w' => w'.cell? ⟨pb, 3, none⟩ = some (.pointer (some ⟨b 1, 0, none⟩)) ∧ w'.cell? ⟨w.heap.size, 2, none⟩ = some (.int .i64 o.no) ∧ w'.cell? ⟨w.heap.size, 3, none⟩ = some (.int .i64 o.a) ∧ w'.cell? ⟨w.heap.size, 4, none⟩ = some (.int .i64 o.v)) (by kernel_rfl) ⟨x2, x5, x6, x7⟩ (fun hHeld => ?_)
    refine wpAnyH_take (i := 0) (oi := ⟨some 161, .move (.tmp 0), 66, "law.go:182", #[], none⟩) (v := (.pointer (some ⟨pb, 0, none⟩))) rfl (by kernel_rfl) (by kernel_rfl) (by kernel_rfl) (fun _ _ _ h => h) (Or.inl ⟨by rfl, fun _ _ => by rfl⟩) hHeld ?_
    simp only [Act.put, List.setIfInBounds_toArray, List.set_cons_zero, List.set_cons_succ]
    refine wpAnyH_take (i := 1) (oi := ⟨some 162, .move (.tmp 5), 3, "law.go:182", #[], none⟩) (v := (.int .i64 1)) rfl (by kernel_rfl) (by kernel_rfl) (by kernel_rfl) (fun _ _ _ h => h) (Or.inl ⟨by rfl, fun _ _ => by rfl⟩) hHeld ?_
    simp only [Act.put, List.setIfInBounds_toArray, List.set_cons_zero, List.set_cons_succ]
    refine wpAnyH_take (i := 2) (oi := ⟨some 163, .nilCheck (.tmp 161), 0, "law.go:182", #[⟨0, .data⟩], none⟩) (v := (.pointer (some ⟨pb, 0, none⟩))) rfl (by kernel_rfl) (by kernel_rfl) (by kernel_rfl) (fun _ _ _ h => h) (Or.inl ⟨by rfl, fun _ _ => by rfl⟩) hHeld ?_
    simp only [Act.put, List.setIfInBounds_toArray, List.set_cons_zero, List.set_cons_succ]
    refine wpAnyH_take (i := 3) (oi := ⟨some 164, .fieldAddr 71 (.tmp 163) 1, 0, "law.go:182", #[⟨2, .data⟩], none⟩) (v := (.pointer (some ⟨pb, 2, none⟩))) rfl (by kernel_rfl) (by kernel_rfl) (by kernel_rfl) (fun _ _ _ h => h) (Or.inl ⟨by rfl, fun _ _ => by rfl⟩) hHeld ?_
    simp only [Act.put, List.setIfInBounds_toArray, List.set_cons_zero, List.set_cons_succ]
    refine wpAnyH_take (i := 4) (oi := ⟨some 165, .indexAddr 68 (.tmp 164) (.tmp 162), 0, "law.go:182", #[⟨3, .data⟩, ⟨1, .data⟩], none⟩) (v := (.pointer (some ⟨pb, 3, none⟩))) rfl (by kernel_rfl) (by kernel_rfl) (by kernel_rfl) (fun _ _ _ h => h) (Or.inl ⟨by rfl, fun w' h' => by unfold execOp; go_simp⟩) hHeld ?_
    simp only [Act.put, List.setIfInBounds_toArray, List.set_cons_zero, List.set_cons_succ]
    refine wpAnyH_take (i := 5) (oi := ⟨some 166, .load 52 (.tmp 165), 52, "law.go:182", #[⟨4, .data⟩], none⟩) (v := (.pointer (some ⟨b 1, 0, none⟩))) rfl (by kernel_rfl) (by kernel_rfl) (by kernel_rfl) (fun _ _ _ h => h) (Or.inl ⟨by rfl, fun w' h' => by have e1 := h'.1; have e2 := h'.2.1; have e3 := h'.2.2.1; have e4 := h'.2.2.2; unfold execOp; go_simp⟩) hHeld ?_
    simp only [Act.put, List.setIfInBounds_toArray, List.set_cons_zero, List.set_cons_succ]
    refine wpAnyH_take (i := 6) (oi := ⟨some 167, .fieldAddr 59 (.tmp 3) 2, 0, "law.go:182", #[], none⟩) (v := (.pointer (some ⟨w.heap.size, 2, none⟩))) rfl (by kernel_rfl) (by kernel_rfl) (by kernel_rfl) (fun _ _ _ h => h) (Or.inl ⟨by rfl, fun _ _ => by rfl⟩) hHeld ?_
    simp only [Act.put, List.setIfInBounds_toArray, List.set_cons_zero, List.set_cons_succ]
    refine wpAnyH_take (i := 7) (oi := ⟨some 168, .load 3 (.tmp 167), 3, "law.go:182", #[⟨6, .data⟩], none⟩) (v := (.int .i64 o.no)) rfl (by kernel_rfl) (by kernel_rfl) (by kernel_rfl) (fun _ _ _ h => h) (Or.inl ⟨by rfl, fun w' h' => by have e1 := h'.1; have e2 := h'.2.1; have e3 := h'.2.2.1; have e4 := h'.2.2.2; unfold execOp; go_simp⟩) hHeld ?_
    simp only [Act.put, List.setIfInBounds_toArray, List.set_cons_zero, List.set_cons_succ]
    refine wpAnyH_take (i := 8) (oi := ⟨some 169, .fieldAddr 59 (.tmp 3) 3, 0, "law.go:182", #[], none⟩) (v := (.pointer (some ⟨w.heap.size, 3, none⟩))) rfl (by kernel_rfl) (by kernel_rfl) (by kernel_rfl) (fun _ _ _ h => h) (Or.inl ⟨by rfl, fun _ _ => by rfl⟩) hHeld ?_
    simp only [Act.put, List.setIfInBounds_toArray, List.set_cons_zero, List.set_cons_succ]
    refine wpAnyH_take (i := 9) (oi := ⟨some 170, .load 3 (.tmp 169), 3, "law.go:182", #[⟨8, .data⟩], none⟩) (v := (.int .i64 o.a)) rfl (by kernel_rfl) (by kernel_rfl) (by kernel_rfl) (fun _ _ _ h => h) (Or.inl ⟨by rfl, fun w' h' => by have e1 := h'.1; have e2 := h'.2.1; have e3 := h'.2.2.1; have e4 := h'.2.2.2; unfold execOp; go_simp⟩) hHeld ?_
    simp only [Act.put, List.setIfInBounds_toArray, List.set_cons_zero, List.set_cons_succ]
    refine wpAnyH_take (i := 10) (oi := ⟨some 171, .fieldAddr 59 (.tmp 3) 4, 0, "law.go:182", #[], none⟩) (v := (.pointer (some ⟨w.heap.size, 4, none⟩))) rfl (by kernel_rfl) (by kernel_rfl) (by kernel_rfl) (fun _ _ _ h => h) (Or.inl ⟨by rfl, fun _ _ => by rfl⟩) hHeld ?_
    simp only [Act.put, List.setIfInBounds_toArray, List.set_cons_zero, List.set_cons_succ]
    refine wpAnyH_take (i := 11) (oi := ⟨some 172, .load 3 (.tmp 171), 3, "law.go:182", #[⟨10, .data⟩], none⟩) (v := (.int .i64 o.v)) rfl (by kernel_rfl) (by kernel_rfl) (by kernel_rfl) (fun _ _ _ h => h) (Or.inl ⟨by rfl, fun w' h' => by have e1 := h'.1; have e2 := h'.2.1; have e3 := h'.2.2.1; have e4 := h'.2.2.2; unfold execOp; go_simp⟩) hHeld ?_
    simp only [Act.put, List.setIfInBounds_toArray, List.set_cons_zero, List.set_cons_succ]
    refine wpAnyH_ready (rs := [12]) (by kernel_rfl) (by simp) ?_
    refine AllReadyH.cons (o := ⟨some 173, .call ⟨.value (.func 41), #[.tmp 166, .tmp 168, .tmp 170, .tmp 172], #[52, 3, 3, 3]⟩, 3, "law.go:182", #[⟨5, .data⟩, ⟨7, .data⟩, ⟨9, .data⟩, ⟨11, .data⟩], none⟩) rfl (fun KK hK => ?_) (AllReadyH.nil)
    go_simp
    refine hD.mono ?_
    rintro e w7 ⟨rfl, hN7, t7⟩
    obtain ⟨P7, F7⟩ := HM6.out.pl.stepD hc hN7 t7 (fun i hi _ => rl_old hi)
    have M7 := HM6.out.step hk P7 F7
    have y0 := P7.cell 3 _ rfl
    have y5 := M7.at 2 (.int .i64 o.no) rfl
    have y6 := M7.at 3 (.int .i64 o.a) rfl
    have y7 := M7.at 4 (.int .i64 o.v) rfl
    have HM7 : Hid (Md w0 w w7 lab _ k pb a b bv st _ _ _ es o w.heap.size) := M7
    clear hD M7 P7 F7 hN7 t7 HM6
    go_wp2_with fail
    refine hK.out _ _ ⟨y0, y5, y6, y7⟩ (fun hHeld => ?_)
    clear hK KK
    try simp only [Act.put, List.setIfInBounds_toArray, List.set_cons_zero, List.set_cons_succ]
    refine wpAnyH_take (i := 13) (oi := ⟨some 15, .assign (.tmp 173), 3, "law.go:182", #[⟨12, .data⟩, ⟨12, .chain⟩, ⟨0, .phase⟩, ⟨1, .phase⟩, ⟨2, .phase⟩, ⟨3, .phase⟩, ⟨4, .phase⟩, ⟨5, .phase⟩, ⟨6, .phase⟩, ⟨7, .phase⟩, ⟨8, .phase⟩, ⟨9, .phase⟩, ⟨10, .phase⟩, ⟨11, .phase⟩, ⟨12, .phase⟩], none⟩) (v := (.int .i64 (flipE (S 1) o.no o.a o.v))) rfl (by kernel_rfl) (by kernel_rfl) (by kernel_rfl) (fun _ _ _ h => h) (Or.inl ⟨by rfl, fun _ _ => by rfl⟩) hHeld ?_
    simp only [Act.put, List.setIfInBounds_toArray, List.set_cons_zero, List.set_cons_succ]
    refine wpAnyH_done (by kernel_rfl) ?_ _
    have hbb : (flipE (S 1) o.no o.a o.v == flipE (S 1) o.no o.a o.v) = true := by simp
    have hnm := num_any (flipE (S 1) o.no o.a o.v) w7
    go_wp2_with fail
    refine hnm.mono ?_
    rintro e w8 ⟨rfl, rfl⟩
    clear hnm
    go_wp2_with fail
    go_ret
    exact ⟨rfl, _, _, _, _, HM7.out.pl, HM7.out.fr, fun q => by omega⟩
end Go.Proofs.Ytpbanjgjljdepaa
