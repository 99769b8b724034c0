/- plays: copy. -/
import Derived.Test.YtpbanjgjljdepaaKC5
namespace Go.Proofs.Ytpbanjgjljdepaa
open Go.RowKit Go.Maps
set_option maxRecDepth 100000
variable {w w' w0 w1 : World} {lab lab' lab'' : Nat → Nat} {k j pb c : Nat} {a b : Nat → Nat} {v bv bv' l : Value} {st : Int} {lg : Bool} {F : Nat → Prop} {S R : Nat → St} {es : List Ke}
theorem copy_short {T : St} {no : Int} (h : ∀ f ∈ T.l, f.d.length ≤ 4096) : ∀ f ∈ (copyS T no).l, f.d.length ≤ 4096 := fun f hf => by
  cases hq : findS T no with
  | none => rw [(findS_none hq).2.2.2.2.1] at hf; exact h f hf
  | some g =>
    rw [(findS_some hq).2.2.2.1] at hf
    have hg : g ∈ T.l := List.mem_of_find?_eq_some hq
    unfold sendS at hf
    split at hf
    · exact h f hf
    · rcases List.mem_append.1 hf with r | r
      · exact h f r
      · obtain rfl := List.mem_singleton.1 r
        exact h g hg
set_option maxHeartbeats 1000000 in
theorem plays_copy_long (h : Pl w lab k pb a b bv st true S S es) (hw : Wk w0 lab w) (o : Op) (h4 : o.k = 5) :
    Calls Try.prog 29 #[.pointer (some ⟨pb, 0, none⟩), .agg o.box] w fun e w' => e = .returned (.bool true) ∧ Stepped w w' lab k pb st es S a b := by
  have M1 := Md.start h hw o
  obtain ⟨W1, hW1⟩ : ∃ W, w.alloc (.cells o.box 59) = W := ⟨_, rfl⟩
  rw [hW1] at M1
  have o0 := M1.at 0 (.int .i64 o.k) rfl
  have o1 := M1.at 1 (.int .i64 o.w) rfl
  have p6 := M1.pl.cell 6 _ rfl
  have HM1 : Hid (Md w0 w W1 lab _ k pb a b bv st true S S es o w.heap.size) := M1
  clear M1 h hw
  rw [h4] at o0
  go_enter Try.func29, Try.ntmps29
  go_wp2_with fail
  go_ret
  exact ⟨rfl, _, _, _, _, HM1.out.pl, HM1.out.fr, fun q => by omega⟩
set_option maxHeartbeats 4000000 in
theorem plays_copy (h : Pl w lab k pb a b bv st false S S es) (hw : Wk w0 lab w) (hk : 0 < k) (hc : c < 2) (hlast : (S c).last < 4611686018427387904) (o : Op) (hO : ∀ w', Below w0.heap.size w0 w' → o.In w') (hwc : bits BinOp.and IntKind.i64 o.w 1 = (c : Int)) (h4 : o.k = 5) :
    Calls Try.prog 29 #[.pointer (some ⟨pb, 0, none⟩), .agg o.box] w fun e w' => e = .returned (.bool true) ∧ Stepped w w' lab k pb st es (upd2 S c (copyS (S c) o.no)) a b := by
  have M1 := Md.start h hw o
  obtain ⟨W1, hW1⟩ : ∃ W, w.alloc (.cells o.box 59) = W := ⟨_, rfl⟩
  rw [hW1] at M1
  have M2 := M1.below hk (below_drewN W1 1)
  have i2 := hO _ M2.wk.b
  have hS := copyN (M2.pl.n c hc) hlast (no := o.no) i2.kno
  have o0 := M1.at 0 (.int .i64 o.k) rfl
  have o1 := M1.at 1 (.int .i64 o.w) rfl
  have o2 := M1.at 2 (.int .i64 o.no) rfl
  have p0 := M1.pl.cell 0 _ rfl
  have p1 := M1.pl.cell 1 _ rfl
  have p2 := M1.pl.cell 2 _ rfl
  have p3 := M1.pl.cell 3 _ rfl
  have p6 := M1.pl.cell 6 _ rfl
  have HM2 : Hid (Md w0 w (W1.drewN 1) lab _ k pb a b bv st false S S es o w.heap.size) := M2
  clear M1 M2 i2 h hw
  rw [h4] at o0
  obtain rfl | rfl : c = 0 ∨ c = 1 := by omega
  · rw [show ((0 : Nat) : Int) = 0 from rfl] at hwc
    go_enter Try.func29, Try.ntmps29
    go_wp2_with fail
    refine wp_region_held_drew (S := fun w' => w'.cell? ⟨pb, 0, none⟩ = some (.pointer (some ⟨a 0, 0, none⟩)) ∧ w'.cell? ⟨w.heap.size, 2, none⟩ = some (.int .i64 o.no)) (by kernel_rfl) ⟨p0, o2⟩ (fun hHeld => ?_)
    refine wpAnyH_take (i := 0) (oi := ⟨some 114, .move (.tmp 0), 66, "law.go:177", #[], none⟩) (v := (.pointer (some ⟨pb, 0, none⟩))) rfl (by kernel_rfl) (by kernel_rfl) (by kernel_rfl) (fun _ _ _ h => h) (Or.inl ⟨by rfl, fun _ _ => by rfl⟩) hHeld ?_
    simp only [Act.put, List.setIfInBounds_toArray, List.set_cons_zero, List.set_cons_succ]
    refine wpAnyH_take (i := 1) (oi := ⟨some 115, .move (.tmp 5), 3, "law.go:177", #[], none⟩) (v := (.int .i64 0)) rfl (by kernel_rfl) (by kernel_rfl) (by kernel_rfl) (fun _ _ _ h => h) (Or.inl ⟨by rfl, fun _ _ => by rfl⟩) hHeld ?_
    simp only [Act.put, List.setIfInBounds_toArray, List.set_cons_zero, List.set_cons_succ]
    refine wpAnyH_take (i := 2) (oi := ⟨some 116, .nilCheck (.tmp 114), 0, "law.go:177", #[⟨0, .data⟩], none⟩) (v := (.pointer (some ⟨pb, 0, none⟩))) rfl (by kernel_rfl) (by kernel_rfl) (by kernel_rfl) (fun _ _ _ h => h) (Or.inl ⟨by rfl, fun _ _ => by rfl⟩) hHeld ?_
    simp only [Act.put, List.setIfInBounds_toArray, List.set_cons_zero, List.set_cons_succ]
    refine wpAnyH_take (i := 3) (oi := ⟨some 117, .fieldAddr 71 (.tmp 116) 0, 0, "law.go:177", #[⟨2, .data⟩], none⟩) (v := (.pointer (some ⟨pb, 0, none⟩))) rfl (by kernel_rfl) (by kernel_rfl) (by kernel_rfl) (fun _ _ _ h => h) (Or.inl ⟨by rfl, fun _ _ => by rfl⟩) hHeld ?_
    simp only [Act.put, List.setIfInBounds_toArray, List.set_cons_zero, List.set_cons_succ]
    refine wpAnyH_take (i := 4) (oi := ⟨some 118, .indexAddr 67 (.tmp 117) (.tmp 115), 0, "law.go:177", #[⟨3, .data⟩, ⟨1, .data⟩], none⟩) (v := (.pointer (some ⟨pb, 0, none⟩))) rfl (by kernel_rfl) (by kernel_rfl) (by kernel_rfl) (fun _ _ _ h => h) (Or.inl ⟨by rfl, fun w' h' => by unfold execOp; go_simp⟩) hHeld ?_
    simp only [Act.put, List.setIfInBounds_toArray, List.set_cons_zero, List.set_cons_succ]
    refine wpAnyH_take (i := 5) (oi := ⟨some 119, .load 24 (.tmp 118), 24, "law.go:177", #[⟨4, .data⟩], none⟩) (v := (.pointer (some ⟨a 0, 0, none⟩))) rfl (by kernel_rfl) (by kernel_rfl) (by kernel_rfl) (fun _ _ _ h => h) (Or.inl ⟨by rfl, fun w' h' => by have e1 := h'.1; have e2 := h'.2; unfold execOp; go_simp⟩) hHeld ?_
    simp only [Act.put, List.setIfInBounds_toArray, List.set_cons_zero, List.set_cons_succ]
    refine wpAnyH_take (i := 6) (oi := ⟨some 120, .fieldAddr 59 (.tmp 3) 2, 0, "law.go:177", #[], none⟩) (v := (.pointer (some ⟨w.heap.size, 2, none⟩))) rfl (by kernel_rfl) (by kernel_rfl) (by kernel_rfl) (fun _ _ _ h => h) (Or.inl ⟨by rfl, fun _ _ => by rfl⟩) hHeld ?_
    simp only [Act.put, List.setIfInBounds_toArray, List.set_cons_zero, List.set_cons_succ]
    refine wpAnyH_take (i := 7) (oi := ⟨some 121, .load 3 (.tmp 120), 3, "law.go:177", #[⟨6, .data⟩], none⟩) (v := (.int .i64 o.no)) rfl (by kernel_rfl) (by kernel_rfl) (by kernel_rfl) (fun _ _ _ h => h) (Or.inl ⟨by rfl, fun w' h' => by have e1 := h'.1; have e2 := h'.2; unfold execOp; go_simp⟩) hHeld ?_
    simp only [Act.put, List.setIfInBounds_toArray, List.set_cons_zero, List.set_cons_succ]
    refine wpAnyH_ready (rs := [8]) (by kernel_rfl) (by simp) ?_
    refine AllReadyH.cons (o := ⟨some 122, .call ⟨.value (.func 12), #[.tmp 119, .tmp 121], #[24, 3]⟩, 30, "law.go:177", #[⟨5, .data⟩, ⟨7, .data⟩], none⟩) rfl (fun KK hK => ?_) (AllReadyH.nil)
    go_simp
    refine hS.mono ?_
    rintro e w5 ⟨rfl, hN5, t5⟩
    obtain ⟨P5, F5⟩ := HM2.out.pl.stepN hc hN5 t5 (fun i hi _ => rl_old hi) (fun q => copy_short (HM2.out.pl.short q 0 hc))
    have M5 := HM2.out.step hk P5 F5
    have x0 := P5.cell 0 _ rfl
    have x2 := P5.cell 2 _ rfl
    have x5 := M5.at 2 (.int .i64 o.no) rfl
    have HM5 : Hid (Md w0 w w5 lab _ k pb a b bv st _ _ S es o w.heap.size) := M5
    clear hS M5 P5 F5 hN5 t5 HM2
    go_wp2_with fail
    refine hK.out _ _ ⟨x0, x5⟩ (fun hHeld => ?_)
    clear hK KK
    try simp only [Act.put, List.setIfInBounds_toArray, List.set_cons_zero, List.set_cons_succ]
    refine wpAnyH_take (i := 9) (oi := ⟨some 113, .move (.tmp 122), 30, "law.go:177", #[⟨8, .data⟩], none⟩) (v := (.tuple #[.int .i64 (copyA (S 0) o.no), .int .i64 (takeE (S 0) o.no)])) rfl (by kernel_rfl) (by kernel_rfl) (by kernel_rfl) (fun _ _ _ h => h) (Or.inl ⟨by rfl, fun _ _ => by rfl⟩) hHeld ?_
    simp only [Act.put, List.setIfInBounds_toArray, List.set_cons_zero, List.set_cons_succ]
    refine wpAnyH_take (i := 10) (oi := ⟨some 123, .extract (.tmp 113) 0, 3, "law.go:177", #[⟨9, .data⟩], none⟩) (v := (.int .i64 (copyA (S 0) o.no))) rfl (by kernel_rfl) (by kernel_rfl) (by kernel_rfl) (fun _ _ _ h => h) (Or.inl ⟨by rfl, fun _ _ => by rfl⟩) hHeld ?_
    simp only [Act.put, List.setIfInBounds_toArray, List.set_cons_zero, List.set_cons_succ]
    refine wpAnyH_take (i := 11) (oi := ⟨some 124, .extract (.tmp 113) 1, 29, "law.go:177", #[⟨9, .data⟩, { on := 12, ground := Ground.gcOnly Departure.lateStores }], none⟩) (v := (.int .i64 (takeE (S 0) o.no))) rfl (by kernel_rfl) (by kernel_rfl) (by kernel_rfl) (fun _ _ _ h => h) (Or.inl ⟨by rfl, fun _ _ => by rfl⟩) hHeld ?_
    simp only [Act.put, List.setIfInBounds_toArray, List.set_cons_zero, List.set_cons_succ]
    refine wpAnyH_take (i := 12) (oi := ⟨some 10, .assign (.tmp 123), 3, "law.go:177", #[⟨10, .data⟩, ⟨8, .chain⟩, ⟨0, .phase⟩, ⟨1, .phase⟩, ⟨2, .phase⟩, ⟨3, .phase⟩, ⟨4, .phase⟩, ⟨5, .phase⟩, ⟨6, .phase⟩, ⟨7, .phase⟩, ⟨8, .phase⟩, ⟨9, .phase⟩, ⟨10, .phase⟩, { on := 11, ground := Ground.textOnly Departure.lateStores }], none⟩) (v := (.int .i64 (copyA (S 0) o.no))) rfl (by kernel_rfl) (by kernel_rfl) (by kernel_rfl) (fun _ _ _ h => h) (Or.inl ⟨by rfl, fun _ _ => by rfl⟩) hHeld ?_
    simp only [Act.put, List.setIfInBounds_toArray, List.set_cons_zero, List.set_cons_succ]
    refine wpAnyH_take (i := 13) (oi := ⟨some 11, .assign (.tmp 124), 29, "law.go:177", #[⟨11, .data⟩, ⟨12, .chain⟩, ⟨0, .phase⟩, ⟨1, .phase⟩, ⟨2, .phase⟩, ⟨3, .phase⟩, ⟨4, .phase⟩, ⟨5, .phase⟩, ⟨6, .phase⟩, ⟨7, .phase⟩, ⟨8, .phase⟩, ⟨9, .phase⟩, ⟨10, .phase⟩, ⟨11, .phase⟩, ⟨12, .phase⟩], none⟩) (v := (.int .i64 (takeE (S 0) o.no))) rfl (by kernel_rfl) (by kernel_rfl) (by kernel_rfl) (fun _ _ _ h => h) (Or.inl ⟨by rfl, fun _ _ => by rfl⟩) hHeld ?_
    simp only [Act.put, List.setIfInBounds_toArray, List.set_cons_zero, List.set_cons_succ]
    refine wpAnyH_done (by kernel_rfl) ?_ _
    go_wp2_with fail
    have M6 := HM5.out.below hk (below_drewN w5 1)
    have hD := dcopyN (M6.pl.d 0 hc) hlast o.no
    have HM6 : Hid (Md w0 w (w5.drewN 1) lab _ k pb a b bv st _ _ S es o w.heap.size) := M6
    clear M6 HM5
    refine wp_region_held_drew (S := fun w' => w'.cell? ⟨pb, 2, none⟩ = some (.pointer (some ⟨b 0, 0, none⟩)) ∧ w'.cell? ⟨w.heap.size, 2, none⟩ = some (.int .i64 o.no)) (by kernel_rfl) ⟨x2, x5⟩ (fun hHeld => ?_)
    refine wpAnyH_take (i := 0) (oi := ⟨some 126, .move (.tmp 0), 66, "law.go:178", #[], none⟩) (v := (.pointer (some ⟨pb, 0, none⟩))) rfl (by kernel_rfl) (by kernel_rfl) (by kernel_rfl) (fun _ _ _ h => h) (Or.inl ⟨by rfl, fun _ _ => by rfl⟩) hHeld ?_
    simp only [Act.put, List.setIfInBounds_toArray, List.set_cons_zero, List.set_cons_succ]
    refine wpAnyH_take (i := 1) (oi := ⟨some 127, .move (.tmp 5), 3, "law.go:178", #[], none⟩) (v := (.int .i64 0)) rfl (by kernel_rfl) (by kernel_rfl) (by kernel_rfl) (fun _ _ _ h => h) (Or.inl ⟨by rfl, fun _ _ => by rfl⟩) hHeld ?_
    simp only [Act.put, List.setIfInBounds_toArray, List.set_cons_zero, List.set_cons_succ]
    refine wpAnyH_take (i := 2) (oi := ⟨some 128, .nilCheck (.tmp 126), 0, "law.go:178", #[⟨0, .data⟩], none⟩) (v := (.pointer (some ⟨pb, 0, none⟩))) rfl (by kernel_rfl) (by kernel_rfl) (by kernel_rfl) (fun _ _ _ h => h) (Or.inl ⟨by rfl, fun _ _ => by rfl⟩) hHeld ?_
    simp only [Act.put, List.setIfInBounds_toArray, List.set_cons_zero, List.set_cons_succ]
    refine wpAnyH_take (i := 3) (oi := ⟨some 129, .fieldAddr 71 (.tmp 128) 1, 0, "law.go:178", #[⟨2, .data⟩], none⟩) (v := (.pointer (some ⟨pb, 2, none⟩))) rfl (by kernel_rfl) (by kernel_rfl) (by kernel_rfl) (fun _ _ _ h => h) (Or.inl ⟨by rfl, fun _ _ => by rfl⟩) hHeld ?_
    simp only [Act.put, List.setIfInBounds_toArray, List.set_cons_zero, List.set_cons_succ]
    refine wpAnyH_take (i := 4) (oi := ⟨some 130, .indexAddr 68 (.tmp 129) (.tmp 127), 0, "law.go:178", #[⟨3, .data⟩, ⟨1, .data⟩], none⟩) (v := (.pointer (some ⟨pb, 2, none⟩))) rfl (by kernel_rfl) (by kernel_rfl) (by kernel_rfl) (fun _ _ _ h => h) (Or.inl ⟨by rfl, fun w' h' => by unfold execOp; go_simp⟩) hHeld ?_
    simp only [Act.put, List.setIfInBounds_toArray, List.set_cons_zero, List.set_cons_succ]
    refine wpAnyH_take (i := 5) (oi := ⟨some 131, .load 52 (.tmp 130), 52, "law.go:178", #[⟨4, .data⟩], none⟩) (v := (.pointer (some ⟨b 0, 0, none⟩))) rfl (by kernel_rfl) (by kernel_rfl) (by kernel_rfl) (fun _ _ _ h => h) (Or.inl ⟨by rfl, fun w' h' => by have e1 := h'.1; have e2 := h'.2; unfold execOp; go_simp⟩) hHeld ?_
    simp only [Act.put, List.setIfInBounds_toArray, List.set_cons_zero, List.set_cons_succ]
    refine wpAnyH_take (i := 6) (oi := ⟨some 132, .fieldAddr 59 (.tmp 3) 2, 0, "law.go:178", #[], none⟩) (v := (.pointer (some ⟨w.heap.size, 2, none⟩))) rfl (by kernel_rfl) (by kernel_rfl) (by kernel_rfl) (fun _ _ _ h => h) (Or.inl ⟨by rfl, fun _ _ => by rfl⟩) hHeld ?_
    simp only [Act.put, List.setIfInBounds_toArray, List.set_cons_zero, List.set_cons_succ]
    refine wpAnyH_take (i := 7) (oi := ⟨some 133, .load 3 (.tmp 132), 3, "law.go:178", #[⟨6, .data⟩], none⟩) (v := (.int .i64 o.no)) rfl (by kernel_rfl) (by kernel_rfl) (by kernel_rfl) (fun _ _ _ h => h) (Or.inl ⟨by rfl, fun w' h' => by have e1 := h'.1; have e2 := h'.2; unfold execOp; go_simp⟩) hHeld ?_
    simp only [Act.put, List.setIfInBounds_toArray, List.set_cons_zero, List.set_cons_succ]
    refine wpAnyH_ready (rs := [8]) (by kernel_rfl) (by simp) ?_
    refine AllReadyH.cons (o := ⟨some 134, .call ⟨.value (.func 40), #[.tmp 131, .tmp 133], #[52, 3]⟩, 86, "law.go:178", #[⟨5, .data⟩, ⟨7, .data⟩], none⟩) rfl (fun KK hK => ?_) (AllReadyH.nil)
    go_simp
    refine hD.mono ?_
    rintro e w7 ⟨rfl, hN7, t7⟩
    obtain ⟨P7, F7⟩ := HM6.out.pl.stepD hc hN7 t7 (fun i hi _ => rl_old hi)
    have M7 := HM6.out.step hk P7 F7
    have y0 := P7.cell 2 _ rfl
    have y5 := M7.at 2 (.int .i64 o.no) rfl
    have HM7 : Hid (Md w0 w w7 lab _ k pb a b bv st _ _ _ es o w.heap.size) := M7
    clear hD M7 P7 F7 hN7 t7 HM6
    go_wp2_with fail
    refine hK.out _ _ ⟨y0, y5⟩ (fun hHeld => ?_)
    clear hK KK
    try simp only [Act.put, List.setIfInBounds_toArray, List.set_cons_zero, List.set_cons_succ]
    refine wpAnyH_take (i := 9) (oi := ⟨some 125, .move (.tmp 134), 86, "law.go:178", #[⟨8, .data⟩], none⟩) (v := (.tuple #[.int .i64 (copyA (S 0) o.no), .int .i64 (takeE (S 0) o.no)])) rfl (by kernel_rfl) (by kernel_rfl) (by kernel_rfl) (fun _ _ _ h => h) (Or.inl ⟨by rfl, fun _ _ => by rfl⟩) hHeld ?_
    simp only [Act.put, List.setIfInBounds_toArray, List.set_cons_zero, List.set_cons_succ]
    refine wpAnyH_take (i := 10) (oi := ⟨some 135, .extract (.tmp 125) 0, 3, "law.go:178", #[⟨9, .data⟩], none⟩) (v := (.int .i64 (copyA (S 0) o.no))) rfl (by kernel_rfl) (by kernel_rfl) (by kernel_rfl) (fun _ _ _ h => h) (Or.inl ⟨by rfl, fun _ _ => by rfl⟩) hHeld ?_
    simp only [Act.put, List.setIfInBounds_toArray, List.set_cons_zero, List.set_cons_succ]
    refine wpAnyH_take (i := 11) (oi := ⟨some 136, .extract (.tmp 125) 1, 3, "law.go:178", #[⟨9, .data⟩, { on := 12, ground := Ground.gcOnly Departure.lateStores }], none⟩) (v := (.int .i64 (takeE (S 0) o.no))) rfl (by kernel_rfl) (by kernel_rfl) (by kernel_rfl) (fun _ _ _ h => h) (Or.inl ⟨by rfl, fun _ _ => by rfl⟩) hHeld ?_
    simp only [Act.put, List.setIfInBounds_toArray, List.set_cons_zero, List.set_cons_succ]
    refine wpAnyH_take (i := 12) (oi := ⟨some 12, .assign (.tmp 135), 3, "law.go:178", #[⟨10, .data⟩, ⟨8, .chain⟩, ⟨0, .phase⟩, ⟨1, .phase⟩, ⟨2, .phase⟩, ⟨3, .phase⟩, ⟨4, .phase⟩, ⟨5, .phase⟩, ⟨6, .phase⟩, ⟨7, .phase⟩, ⟨8, .phase⟩, ⟨9, .phase⟩, ⟨10, .phase⟩, { on := 11, ground := Ground.textOnly Departure.lateStores }], none⟩) (v := (.int .i64 (copyA (S 0) o.no))) rfl (by kernel_rfl) (by kernel_rfl) (by kernel_rfl) (fun _ _ _ h => h) (Or.inl ⟨by rfl, fun _ _ => by rfl⟩) hHeld ?_
    simp only [Act.put, List.setIfInBounds_toArray, List.set_cons_zero, List.set_cons_succ]
    refine wpAnyH_take (i := 13) (oi := ⟨some 13, .assign (.tmp 136), 3, "law.go:178", #[⟨11, .data⟩, ⟨12, .chain⟩, ⟨0, .phase⟩, ⟨1, .phase⟩, ⟨2, .phase⟩, ⟨3, .phase⟩, ⟨4, .phase⟩, ⟨5, .phase⟩, ⟨6, .phase⟩, ⟨7, .phase⟩, ⟨8, .phase⟩, ⟨9, .phase⟩, ⟨10, .phase⟩, ⟨11, .phase⟩, ⟨12, .phase⟩], none⟩) (v := (.int .i64 (takeE (S 0) o.no))) rfl (by kernel_rfl) (by kernel_rfl) (by kernel_rfl) (fun _ _ _ h => h) (Or.inl ⟨by rfl, fun _ _ => by rfl⟩) hHeld ?_
    simp only [Act.put, List.setIfInBounds_toArray, List.set_cons_zero, List.set_cons_succ]
    refine wpAnyH_done (by kernel_rfl) ?_ _
    have hbb : (takeE (S 0) o.no == takeE (S 0) o.no) = true := by simp
    have hbc : (copyA (S 0) o.no == copyA (S 0) o.no) = true := by simp
    have hnm := num_any (takeE (S 0) o.no) w7
    go_wp2_with fail
    refine hnm.mono ?_
    rintro e w8 ⟨rfl, rfl⟩
    clear hnm
    go_wp2_with fail
    go_ret
    exact ⟨rfl, _, _, _, _, HM7.out.pl, HM7.out.fr, fun q => by omega⟩
  · rw [show ((1 : Nat) : Int) = 1 from rfl] at hwc
    go_enter Try.func29, Try.ntmps29
    go_wp2_with fail
    refine wp_region_held_drew (S := fun w' => w'.cell? ⟨pb, 1, none⟩ = some (.pointer (some ⟨a 1, 0, none⟩)) ∧ w'.cell? ⟨w.heap.size, 2, none⟩ = some (.int .i64 o.no)) (by kernel_rfl) ⟨p1, o2⟩ (fun hHeld => ?_)
    refine wpAnyH_take (i := 0) (oi := ⟨some 114, .move (.tmp 0), 66, "law.go:177", #[], none⟩) (v := (.pointer (some ⟨pb, 0, none⟩))) rfl (by kernel_rfl) (by kernel_rfl) (by kernel_rfl) (fun _ _ _ h => h) (Or.inl ⟨by rfl, fun _ _ => by rfl⟩) hHeld ?_
    simp only [Act.put, List.setIfInBounds_toArray, List.set_cons_zero, List.set_cons_succ]
    refine wpAnyH_take (i := 1) (oi := ⟨some 115, .move (.tmp 5), 3, "law.go:177", #[], none⟩) (v := (.int .i64 1)) rfl (by kernel_rfl) (by kernel_rfl) (by kernel_rfl) (fun _ _ _ h => h) (Or.inl ⟨by rfl, fun _ _ => by rfl⟩) hHeld ?_
    simp only [Act.put, List.setIfInBounds_toArray, List.set_cons_zero, List.set_cons_succ]
    refine wpAnyH_take (i := 2) (oi := ⟨some 116, .nilCheck (.tmp 114), 0, "law.go:177", #[⟨0, .data⟩], none⟩) (v := (.pointer (some ⟨pb, 0, none⟩))) rfl (by kernel_rfl) (by kernel_rfl) (by kernel_rfl) (fun _ _ _ h => h) (Or.inl ⟨by rfl, fun _ _ => by rfl⟩) hHeld ?_
    simp only [Act.put, List.setIfInBounds_toArray, List.set_cons_zero, List.set_cons_succ]
    refine wpAnyH_take (i := 3) (oi := ⟨some 117, .fieldAddr 71 (.tmp 116) 0, 0, "law.go:177", #[⟨2, .data⟩], none⟩) (v := (.pointer (some ⟨pb, 0, none⟩))) rfl (by kernel_rfl) (by kernel_rfl) (by kernel_rfl) (fun _ _ _ h => h) (Or.inl ⟨by rfl, fun _ _ => by rfl⟩) hHeld ?_
    simp only [Act.put, List.setIfInBounds_toArray, List.set_cons_zero, List.set_cons_succ]
    refine wpAnyH_take (i := 4) (oi := ⟨some 118, .indexAddr 67 (.tmp 117) (.tmp 115), 0, "law.go:177", #[⟨3, .data⟩, ⟨1, .data⟩], none⟩) (v := (.pointer (some ⟨pb, 1, none⟩))) rfl (by kernel_rfl) (by kernel_rfl) (by kernel_rfl) (fun _ _ _ h => h) (Or.inl ⟨by rfl, fun w' h' => by unfold execOp; go_simp⟩) hHeld ?_
    simp only [Act.put, List.setIfInBounds_toArray, List.set_cons_zero, List.set_cons_succ]
    refine wpAnyH_take (i := 5) (oi := ⟨some 119, .load 24 (.tmp 118), 24, "law.go:177", #[⟨4, .data⟩], none⟩) (v := (.pointer (some ⟨a 1, 0, none⟩))) rfl (by kernel_rfl) (by kernel_rfl) (by kernel_rfl) (fun _ _ _ h => h) (Or.inl ⟨by rfl, fun w' h' => by have e1 := h'.1; have e2 := h'.2; unfold execOp; go_simp⟩) hHeld ?_
    simp only [Act.put, List.setIfInBounds_toArray, List.set_cons_zero, List.set_cons_succ]
    refine wpAnyH_take (i := 6) (oi := ⟨some 120, .fieldAddr 59 (.tmp 3) 2, 0, "law.go:177", #[], none⟩) (v := (.pointer (some ⟨w.heap.size, 2, none⟩))) rfl (by kernel_rfl) (by kernel_rfl) (by kernel_rfl) (fun _ _ _ h => h) (Or.inl ⟨by rfl, fun _ _ => by rfl⟩) hHeld ?_
    simp only [Act.put, List.setIfInBounds_toArray, List.set_cons_zero, List.set_cons_succ]
    refine wpAnyH_take (i := 7) (oi := ⟨some 121, .load 3 (.tmp 120), 3, "law.go:177", #[⟨6, .data⟩], none⟩) (v := (.int .i64 o.no)) rfl (by kernel_rfl) (by kernel_rfl) (by kernel_rfl) (fun _ _ _ h => h) (Or.inl ⟨by rfl, fun w' h' => by have e1 := h'.1; have e2 := h'.2; unfold execOp; go_simp⟩) hHeld ?_
    simp only [Act.put, List.setIfInBounds_toArray, List.set_cons_zero, List.set_cons_succ]
    refine wpAnyH_ready (rs := [8]) (by kernel_rfl) (by simp) ?_
    refine AllReadyH.cons (o := ⟨some 122, .call ⟨.value (.func 12), #[.tmp 119, .tmp 121], #[24, 3]⟩, 30, "law.go:177", #[⟨5, .data⟩, ⟨7, .data⟩], none⟩) rfl (fun KK hK => ?_) (AllReadyH.nil)
    go_simp
    refine hS.mono ?_
    rintro e w5 ⟨rfl, hN5, t5⟩
    obtain ⟨P5, F5⟩ := HM2.out.pl.stepN hc hN5 t5 (fun i hi _ => rl_old hi) (fun q => copy_short (HM2.out.pl.short q 1 hc))
    have M5 := HM2.out.step hk P5 F5
    have x0 := P5.cell 1 _ rfl
    have x2 := P5.cell 3 _ rfl
    have x5 := M5.at 2 (.int .i64 o.no) rfl
    have HM5 : Hid (Md w0 w w5 lab _ k pb a b bv st _ _ S es o w.heap.size) := M5
    clear hS M5 P5 F5 hN5 t5 HM2
    go_wp2_with fail
    refine hK.out _ _ ⟨x0, x5⟩ (fun hHeld => ?_)
    clear hK KK
    try simp only [Act.put, List.setIfInBounds_toArray, List.set_cons_zero, List.set_cons_succ]
    refine wpAnyH_take (i := 9) (oi := ⟨some 113, .move (.tmp 122), 30, "law.go:177", #[⟨8, .data⟩], none⟩) (v := (.tuple #[.int .i64 (copyA (S 1) o.no), .int .i64 (takeE (S 1) o.no)])) rfl (by kernel_rfl) (by kernel_rfl) (by kernel_rfl) (fun _ _ _ h => h) (Or.inl ⟨by rfl, fun _ _ => by rfl⟩) hHeld ?_
    simp only [Act.put, List.setIfInBounds_toArray, List.set_cons_zero, List.set_cons_succ]
    refine wpAnyH_take (i := 10) (oi := ⟨some 123, .extract (.tmp 113) 0, 3, "law.go:177", #[⟨9, .data⟩], none⟩) (v := (.int .i64 (copyA (S 1) o.no))) rfl (by kernel_rfl) (by kernel_rfl) (by kernel_rfl) (fun _ _ _ h => h) (Or.inl ⟨by rfl, fun _ _ => by rfl⟩) hHeld ?_
    simp only [Act.put, List.setIfInBounds_toArray, List.set_cons_zero, List.set_cons_succ]
    refine wpAnyH_take (i := 11) (oi := ⟨some 124, .extract (.tmp 113) 1, 29, "law.go:177", #[⟨9, .data⟩, { on := 12, ground := Ground.gcOnly Departure.lateStores }], none⟩) (v := (.int .i64 (takeE (S 1) o.no))) rfl (by kernel_rfl) (by kernel_rfl) (by kernel_rfl) (fun _ _ _ h => h) (Or.inl ⟨by rfl, fun _ _ => by rfl⟩) hHeld ?_
    simp only [Act.put, List.setIfInBounds_toArray, List.set_cons_zero, List.set_cons_succ]
    refine wpAnyH_take (i := 12) (oi := ⟨some 10, .assign (.tmp 123), 3, "law.go:177", #[⟨10, .data⟩, ⟨8, .chain⟩, ⟨0, .phase⟩, ⟨1, .phase⟩, ⟨2, .phase⟩, ⟨3, .phase⟩, ⟨4, .phase⟩, ⟨5, .phase⟩, ⟨6, .phase⟩, ⟨7, .phase⟩, ⟨8, .phase⟩, ⟨9, .phase⟩, ⟨10, .phase⟩, { on := 11, ground := Ground.textOnly Departure.lateStores }], none⟩) (v := (.int .i64 (copyA (S 1) o.no))) rfl (by kernel_rfl) (by kernel_rfl) (by kernel_rfl) (fun _ _ _ h => h) (Or.inl ⟨by rfl, fun _ _ => by rfl⟩) hHeld ?_
    simp only [Act.put, List.setIfInBounds_toArray, List.set_cons_zero, List.set_cons_succ]
    refine wpAnyH_take (i := 13) (oi := ⟨some 11, .assign (.tmp 124), 29, "law.go:177", #[⟨11, .data⟩, ⟨12, .chain⟩, ⟨0, .phase⟩, ⟨1, .phase⟩, ⟨2, .phase⟩, ⟨3, .phase⟩, ⟨4, .phase⟩, ⟨5, .phase⟩, ⟨6, .phase⟩, ⟨7, .phase⟩, ⟨8, .phase⟩, ⟨9, .phase⟩, ⟨10, .phase⟩, ⟨11, .phase⟩, ⟨12, .phase⟩], none⟩) (v := (.int .i64 (takeE (S 1) o.no))) rfl (by kernel_rfl) (by kernel_rfl) (by kernel_rfl) (fun _ _ _ h => h) (Or.inl ⟨by rfl, fun _ _ => by rfl⟩) hHeld ?_
    simp only [Act.put, List.setIfInBounds_toArray, List.set_cons_zero, List.set_cons_succ]
    refine wpAnyH_done (by kernel_rfl) ?_ _
    go_wp2_with fail
    have M6 := HM5.out.below hk (below_drewN w5 1)
    have hD := dcopyN (M6.pl.d 1 hc) hlast o.no
    have HM6 : Hid (Md w0 w (w5.drewN 1) lab _ k pb a b bv st _ _ S es o w.heap.size) := M6
    clear M6 HM5
    refine wp_region_held_drew (S := fun w' => w'.cell? ⟨pb, 3, none⟩ = some (.pointer (some ⟨b 1, 0, none⟩)) ∧ w'.cell? ⟨w.heap.size, 2, none⟩ = some (.int .i64 o.no)) (by kernel_rfl) ⟨x2, x5⟩ (fun hHeld => ?_)
    refine wpAnyH_take (i := 0) (oi := ⟨some 126, .move (.tmp 0), 66, "law.go:178", #[], none⟩) (v := (.pointer (some ⟨pb, 0, none⟩))) rfl (by kernel_rfl) (by kernel_rfl) (by kernel_rfl) (fun _ _ _ h => h) (Or.inl ⟨by rfl, fun _ _ => by rfl⟩) hHeld ?_
    simp only [Act.put, List.setIfInBounds_toArray, List.set_cons_zero, List.set_cons_succ]
    refine wpAnyH_take (i := 1) (oi := ⟨some 127, .move (.tmp 5), 3, "law.go:178", #[], none⟩) (v := (.int .i64 1)) rfl (by kernel_rfl) (by kernel_rfl) (by kernel_rfl) (fun _ _ _ h => h) (Or.inl ⟨by rfl, fun _ _ => by rfl⟩) hHeld ?_
    simp only [Act.put, List.setIfInBounds_toArray, List.set_cons_zero, List.set_cons_succ]
    refine wpAnyH_take (i := 2) (oi := ⟨some 128, .nilCheck (.tmp 126), 0, "law.go:178", #[⟨0, .data⟩], none⟩) (v := (.pointer (some ⟨pb, 0, none⟩))) rfl (by kernel_rfl) (by kernel_rfl) (by kernel_rfl) (fun _ _ _ h => h) (Or.inl ⟨by rfl, fun _ _ => by rfl⟩) hHeld ?_
    simp only [Act.put, List.setIfInBounds_toArray, List.set_cons_zero, List.set_cons_succ]
    refine wpAnyH_take (i := 3) (oi := ⟨some 129, .fieldAddr 71 (.tmp 128) 1, 0, "law.go:178", #[⟨2, .data⟩], none⟩) (v := (.pointer (some ⟨pb, 2, none⟩))) rfl (by kernel_rfl) (by kernel_rfl) (by kernel_rfl) (fun _ _ _ h => h) (Or.inl ⟨by rfl, fun _ _ => by rfl⟩) hHeld ?_
    simp only [Act.put, List.setIfInBounds_toArray, List.set_cons_zero, List.set_cons_succ]
    refine wpAnyH_take (i := 4) (oi := ⟨some 130, .indexAddr 68 (.tmp 129) (.tmp 127), 0, "law.go:178", #[⟨3, .data⟩, ⟨1, .data⟩], none⟩) (v := (.pointer (some ⟨pb, 3, none⟩))) rfl (by kernel_rfl) (by kernel_rfl) (by kernel_rfl) (fun _ _ _ h => h) (Or.inl ⟨by rfl, fun w' h' => by unfold execOp; go_simp⟩) hHeld ?_
    simp only [Act.put, List.setIfInBounds_toArray, List.set_cons_zero, List.set_cons_succ]
    refine wpAnyH_take (i := 5) (oi := ⟨some 131, .load 52 (.tmp 130), 52, "law.go:178", #[⟨4, .data⟩], none⟩) (v := (.pointer (some ⟨b 1, 0, none⟩))) rfl (by kernel_rfl) (by kernel_rfl) (by kernel_rfl) (fun _ _ _ h => h) (Or.inl ⟨by rfl, fun w' h' => by have e1 := h'.1; have e2 := h'.2; unfold execOp; go_simp⟩) hHeld ?_
    simp only [Act.put, List.setIfInBounds_toArray, List.set_cons_zero, List.set_cons_succ]
    refine wpAnyH_take (i := 6) (oi := ⟨some 132, .fieldAddr 59 (.tmp 3) 2, 0, "law.go:178", #[], none⟩) (v := (.pointer (some ⟨w.heap.size, 2, none⟩))) rfl (by kernel_rfl) (by kernel_rfl) (by kernel_rfl) (fun _ _ _ h => h) (Or.inl ⟨by rfl, fun _ _ => by rfl⟩) hHeld ?_
    simp only [Act.put, List.setIfInBounds_toArray, List.set_cons_zero, List.set_cons_succ]
    refine wpAnyH_take (i := 7) (oi := ⟨some 133, .load 3 (.tmp 132), 3, "law.go:178", #[⟨6, .data⟩], none⟩) (v := (.int .i64 o.no)) rfl (by kernel_rfl) (by kernel_rfl) (by kernel_rfl) (fun _ _ _ h => h) (Or.inl ⟨by rfl, fun w' h' => by have e1 := h'.1; have e2 := h'.2; unfold execOp; go_simp⟩) hHeld ?_
    simp only [Act.put, List.setIfInBounds_toArray, List.set_cons_zero, List.set_cons_succ]
    refine wpAnyH_ready (rs := [8]) (by kernel_rfl) (by simp) ?_
    refine AllReadyH.cons (o := ⟨some 134, .call ⟨.value (.func 40), #[.tmp 131, .tmp 133], #[52, 3]⟩, 86, "law.go:178", #[⟨5, .data⟩, ⟨7, .data⟩], none⟩) rfl (fun KK hK => ?_) (AllReadyH.nil)
    go_simp
    refine hD.mono ?_
    rintro e w7 ⟨rfl, hN7, t7⟩
    obtain ⟨P7, F7⟩ := HM6.out.pl.stepD hc hN7 t7 (fun i hi _ => rl_old hi)
    have M7 := HM6.out.step hk P7 F7
    have y0 := P7.cell 3 _ rfl
    have y5 := M7.at 2 (.int .i64 o.no) rfl
    have HM7 : Hid (Md w0 w w7 lab _ k pb a b bv st _ _ _ es o w.heap.size) := M7
    clear hD M7 P7 F7 hN7 t7 HM6
    go_wp2_with fail
    refine hK.out _ _ ⟨y0, y5⟩ (fun hHeld => ?_)
    clear hK KK
    try simp only [Act.put, List.setIfInBounds_toArray, List.set_cons_zero, List.set_cons_succ]
    refine wpAnyH_take (i := 9) (oi := ⟨some 125, .move (.tmp 134), 86, "law.go:178", #[⟨8, .data⟩], none⟩) (v := (.tuple #[.int .i64 (copyA (S 1) o.no), .int .i64 (takeE (S 1) o.no)])) rfl (by kernel_rfl) (by kernel_rfl) (by kernel_rfl) (fun _ _ _ h => h) (Or.inl ⟨by rfl, fun _ _ => by rfl⟩) hHeld ?_
    simp only [Act.put, List.setIfInBounds_toArray, List.set_cons_zero, List.set_cons_succ]
    refine wpAnyH_take (i := 10) (oi := ⟨some 135, .extract (.tmp 125) 0, 3, "law.go:178", #[⟨9, .data⟩], none⟩) (v := (.int .i64 (copyA (S 1) o.no))) rfl (by kernel_rfl) (by kernel_rfl) (by kernel_rfl) (fun _ _ _ h => h) (Or.inl ⟨by rfl, fun _ _ => by rfl⟩) hHeld ?_
    simp only [Act.put, List.setIfInBounds_toArray, List.set_cons_zero, List.set_cons_succ]
    refine wpAnyH_take (i := 11) (oi := ⟨some 136, .extract (.tmp 125) 1, 3, "law.go:178", #[⟨9, .data⟩, { on := 12, ground := Ground.gcOnly Departure.lateStores }], none⟩) (v := (.int .i64 (takeE (S 1) o.no))) rfl (by kernel_rfl) (by kernel_rfl) (by kernel_rfl) (fun _ _ _ h => h) (Or.inl ⟨by rfl, fun _ _ => by rfl⟩) hHeld ?_
    simp only [Act.put, List.setIfInBounds_toArray, List.set_cons_zero, List.set_cons_succ]
    refine wpAnyH_take (i := 12) (oi := ⟨some 12, .assign (.tmp 135), 3, "law.go:178", #[⟨10, .data⟩, ⟨8, .chain⟩, ⟨0, .phase⟩, ⟨1, .phase⟩, ⟨2, .phase⟩, ⟨3, .phase⟩, ⟨4, .phase⟩, ⟨5, .phase⟩, ⟨6, .phase⟩, ⟨7, .phase⟩, ⟨8, .phase⟩, ⟨9, .phase⟩, ⟨10, .phase⟩, { on := 11, ground := Ground.textOnly Departure.lateStores }], none⟩) (v := (.int .i64 (copyA (S 1) o.no))) rfl (by kernel_rfl) (by kernel_rfl) (by kernel_rfl) (fun _ _ _ h => h) (Or.inl ⟨by rfl, fun _ _ => by rfl⟩) hHeld ?_
    simp only [Act.put, List.setIfInBounds_toArray, List.set_cons_zero, List.set_cons_succ]
    refine wpAnyH_take (i := 13) (oi := ⟨some 13, .assign (.tmp 136), 3, "law.go:178", #[⟨11, .data⟩, ⟨12, .chain⟩, ⟨0, .phase⟩, ⟨1, .phase⟩, ⟨2, .phase⟩, ⟨3, .phase⟩, ⟨4, .phase⟩, ⟨5, .phase⟩, ⟨6, .phase⟩, ⟨7, .phase⟩, ⟨8, .phase⟩, ⟨9, .phase⟩, ⟨10, .phase⟩, ⟨11, .phase⟩, ⟨12, .phase⟩], none⟩) (v := (.int .i64 (takeE (S 1) o.no))) rfl (by kernel_rfl) (by kernel_rfl) (by kernel_rfl) (fun _ _ _ h => h) (Or.inl ⟨by rfl, fun _ _ => by rfl⟩) hHeld ?_
    simp only [Act.put, List.setIfInBounds_toArray, List.set_cons_zero, List.set_cons_succ]
    refine wpAnyH_done (by kernel_rfl) ?_ _
    have hbb : (takeE (S 1) o.no == takeE (S 1) o.no) = true := by simp
    have hbc : (copyA (S 1) o.no == copyA (S 1) o.no) = true := by simp
    have hnm := num_any (takeE (S 1) o.no) w7
    go_wp2_with fail
    refine hnm.mono ?_
    rintro e w8 ⟨rfl, rfl⟩
    clear hnm
    go_wp2_with fail
    go_ret
    exact ⟨rfl, _, _, _, _, HM7.out.pl, HM7.out.fr, fun q => by omega⟩
end Go.Proofs.Ytpbanjgjljdepaa
