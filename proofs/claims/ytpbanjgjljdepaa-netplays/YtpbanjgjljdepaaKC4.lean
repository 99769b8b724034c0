/- plays, a theorem a kind of step: drop. -/
import Derived.Test.YtpbanjgjljdepaaKC3
namespace Go.Proofs.Ytpbanjgjljdepaa
open Go.RowKit Go.Maps
set_option maxRecDepth 100000
variable {w w' w0 w1 : World} {lab lab' lab'' : Nat → Nat} {k j pb c : Nat} {a b : Nat → Nat} {v bv bv' l : Value} {st : Int} {lg : Bool} {F : Nat → Prop} {S R : Nat → St} {es : List Ke}
/-- Amid a step: the play and its operation's box. -/
structure Md (w0 w W : World) (lab L : Nat → Nat) (k pb : Nat) (a b : Nat → Nat) (bv : Value) (st : Int) (lg : Bool) (S R : Nat → St) (es : List Ke) (o : Op) (ob : Nat) : Prop where
  pl : Pl W L k pb a b bv st lg S R es
  fr : Fr k w W lab L
  wk : Wk w0 L W
  op : W.heap[ob]? = some (.cells o.box 59)
  ob : ¬ Mine k (L ob)
section
variable {W W' : World} {L L' : Nat → Nat} {S' R' : Nat → St} {o : Op} {ob : Nat}
theorem Md.step (h : Md w0 w W lab L k pb a b bv st lg S R es o ob) (hk : 0 < k) (p : Pl W' L' k pb a b bv st lg S' R' es) (f : Fr k W W' L L') : Md w0 w W' lab L' k pb a b bv st lg S' R' es o ob :=
  ⟨p, h.fr.trans f, f.wk h.wk hk, (f.box h.op h.ob).1, (f.box h.op h.ob).2⟩
theorem Md.below (h : Md w0 w W lab L k pb a b bv st lg S R es o ob) (hk : 0 < k) (q : Below W.heap.size W W') : Md w0 w W' lab (rl L W (k + 6)) k pb a b bv st lg S R es o ob :=
  h.step hk (h.pl.below q (k + 6)) (Fr.below q (k + 6))
theorem Md.at (h : Md w0 w W lab L k pb a b bv st lg S R es o ob) (i : Nat) (u : Value) (hu : o.box[i]? = some u) : W.cell? ⟨ob, i, none⟩ = some u := by
  simp only [World.cell?]; rw [h.op]; simpa using hu
theorem Md.start (h : Pl w lab k pb a b bv st lg S R es) (hw : Wk w0 lab w) (o : Op) : Md w0 w (w.alloc (.cells o.box 59)) lab (rl lab w (k + 6)) k pb a b bv st lg S R es o w.heap.size := by
  have b1 : Below w.heap.size w (w.alloc (.cells o.box 59)) := (Below.refl _ w).alloc (Nat.le_refl _) _
  exact ⟨h.below b1 (k + 6), Fr.below b1 (k + 6), hw.below b1 (k + 6), heap_alloc_new w _, by rw [rl_new (Nat.le_refl _)]; exact fun q => by have := q.2; omega⟩
end
/-- What a step of the play leaves. -/
def Stepped (w w' : World) (lab : Nat → Nat) (k pb : Nat) (st : Int) (es : List Ke) (S' : Nat → St) (a b : Nat → Nat) : Prop :=
  ∃ lab' bv' lg' es', Pl w' lab' k pb a b bv' st lg' S' S' es' ∧ Fr k w w' lab lab' ∧ (es.length ≤ 900 → es'.length ≤ 1200)
set_option maxHeartbeats 4000000 in
theorem plays_drop (h : Pl w lab k pb a b bv st lg S S es) (hw : Wk w0 lab w) (hk : 0 < k) (hc : c < 2) (o : Op) (hO : ∀ w', Below w0.heap.size w0 w' → o.In w') (hwc : bits BinOp.and IntKind.i64 o.w 1 = (c : Int)) (h4 : o.k = 4) :
    Calls Try.prog 29 #[.pointer (some ⟨pb, 0, none⟩), .agg o.box] w fun e w' => e = .returned (.bool true) ∧ Stepped w w' lab k pb st es (upd2 S c (takeS (S c) o.no)) a b := by
  have M1 := Md.start h hw o
  obtain ⟨W1, hW1⟩ : ∃ W, w.alloc (.cells o.box 59) = W := ⟨_, rfl⟩
  rw [hW1] at M1
  have M2 := M1.below hk (below_drewN W1 1)
  have i2 := hO _ M2.wk.b
  have hS := dropN (M2.pl.n c hc) (no := o.no) i2.kno
  have o0 := M1.at 0 (.int .i64 o.k) rfl
  have o1 := M1.at 1 (.int .i64 o.w) rfl
  have o2 := M1.at 2 (.int .i64 o.no) rfl
  have p0 := M1.pl.cell 0 _ rfl
  have p1 := M1.pl.cell 1 _ rfl
  have p2 := M1.pl.cell 2 _ rfl
  have p3 := M1.pl.cell 3 _ rfl
  have HM2 : Hid (Md w0 w (W1.drewN 1) lab _ k pb a b bv st lg S S es o w.heap.size) := M2
  clear M1 M2 i2 h hw
  rw [h4] at o0
  obtain rfl | rfl : c = 0 ∨ c = 1 := by omega
  · rw [show ((0 : Nat) : Int) = 0 from rfl] at hwc
    go_enter Try.func29, Try.ntmps29
    go_wp2_with fail
    refine wp_region_held_drew (S := fun w' => w'.cell? ⟨pb, 0, none⟩ = some (.pointer (some ⟨a 0, 0, none⟩)) ∧ w'.cell? ⟨w.heap.size, 2, none⟩ = some (.int .i64 o.no)) (by kernel_rfl) ⟨p0, o2⟩ (fun hHeld => ?_)
    refine wpAnyH_take (i := 0) (oi := ⟨some 85, .move (.tmp 0), 66, "law.go:170", #[], none⟩) (v := (.pointer (some ⟨pb, 0, none⟩))) rfl (by kernel_rfl) (by kernel_rfl) (by kernel_rfl) (fun _ _ _ h => h) (Or.inl ⟨by rfl, fun _ _ => by rfl⟩) hHeld ?_
    simp only [Act.put, List.setIfInBounds_toArray, List.set_cons_zero, List.set_cons_succ]
    refine wpAnyH_take (i := 1) (oi := ⟨some 86, .move (.tmp 5), 3, "law.go:170", #[], none⟩) (v := (.int .i64 0)) rfl (by kernel_rfl) (by kernel_rfl) (by kernel_rfl) (fun _ _ _ h => h) (Or.inl ⟨by rfl, fun _ _ => by rfl⟩) hHeld ?_
    simp only [Act.put, List.setIfInBounds_toArray, List.set_cons_zero, List.set_cons_succ]
    refine wpAnyH_take (i := 2) (oi := ⟨some 87, .nilCheck (.tmp 85), 0, "law.go:170", #[⟨0, .data⟩], none⟩) (v := (.pointer (some ⟨pb, 0, none⟩))) rfl (by kernel_rfl) (by kernel_rfl) (by kernel_rfl) (fun _ _ _ h => h) (Or.inl ⟨by rfl, fun _ _ => by rfl⟩) hHeld ?_
    simp only [Act.put, List.setIfInBounds_toArray, List.set_cons_zero, List.set_cons_succ]
    refine wpAnyH_take (i := 3) (oi := ⟨some 88, .fieldAddr 71 (.tmp 87) 0, 0, "law.go:170", #[⟨2, .data⟩], none⟩) (v := (.pointer (some ⟨pb, 0, none⟩))) rfl (by kernel_rfl) (by kernel_rfl) (by kernel_rfl) (fun _ _ _ h => h) (Or.inl ⟨by rfl, fun _ _ => by rfl⟩) hHeld ?_
    simp only [Act.put, List.setIfInBounds_toArray, List.set_cons_zero, List.set_cons_succ]
    refine wpAnyH_take (i := 4) (oi := ⟨some 89, .indexAddr 67 (.tmp 88) (.tmp 86), 0, "law.go:170", #[⟨3, .data⟩, ⟨1, .data⟩], none⟩) (v := (.pointer (some ⟨pb, 0, none⟩))) rfl (by kernel_rfl) (by kernel_rfl) (by kernel_rfl) (fun _ _ _ h => h) (Or.inl ⟨by rfl, fun w' h' => by unfold execOp; go_simp⟩) hHeld ?_
    simp only [Act.put, List.setIfInBounds_toArray, List.set_cons_zero, List.set_cons_succ]
    refine wpAnyH_take (i := 5) (oi := ⟨some 90, .load 24 (.tmp 89), 24, "law.go:170", #[⟨4, .data⟩], none⟩) (v := (.pointer (some ⟨a 0, 0, none⟩))) rfl (by kernel_rfl) (by kernel_rfl) (by kernel_rfl) (fun _ _ _ h => h) (Or.inl ⟨by rfl, fun w' h' => by have e1 := h'.1; have e2 := h'.2; unfold execOp; go_simp⟩) hHeld ?_
    simp only [Act.put, List.setIfInBounds_toArray, List.set_cons_zero, List.set_cons_succ]
    refine wpAnyH_take (i := 6) (oi := ⟨some 91, .fieldAddr 59 (.tmp 3) 2, 0, "law.go:170", #[], none⟩) (v := (.pointer (some ⟨w.heap.size, 2, none⟩))) rfl (by kernel_rfl) (by kernel_rfl) (by kernel_rfl) (fun _ _ _ h => h) (Or.inl ⟨by rfl, fun _ _ => by rfl⟩) hHeld ?_
    simp only [Act.put, List.setIfInBounds_toArray, List.set_cons_zero, List.set_cons_succ]
    refine wpAnyH_take (i := 7) (oi := ⟨some 92, .load 3 (.tmp 91), 3, "law.go:170", #[⟨6, .data⟩], none⟩) (v := (.int .i64 o.no)) rfl (by kernel_rfl) (by kernel_rfl) (by kernel_rfl) (fun _ _ _ h => h) (Or.inl ⟨by rfl, fun w' h' => by have e1 := h'.1; have e2 := h'.2; unfold execOp; go_simp⟩) hHeld ?_
    simp only [Act.put, List.setIfInBounds_toArray, List.set_cons_zero, List.set_cons_succ]
    refine wpAnyH_ready (rs := [8]) (by kernel_rfl) (by simp) ?_
    refine AllReadyH.cons (o := ⟨some 93, .call ⟨.value (.func 14), #[.tmp 90, .tmp 92], #[24, 3]⟩, 29, "law.go:170", #[⟨5, .data⟩, ⟨7, .data⟩], none⟩) rfl (fun KK hK => ?_) (AllReadyH.nil)
    go_simp
    refine hS.mono ?_
    rintro e w5 ⟨rfl, hN5, t5⟩
    obtain ⟨P5, F5⟩ := HM2.out.pl.stepN hc hN5 t5 (fun i hi _ => rl_old hi) (fun q f hf => HM2.out.pl.short q 0 hc f (List.mem_filter.1 hf).1)
    have M5 := HM2.out.step hk P5 F5
    have x0 := P5.cell 0 _ rfl
    have x2 := P5.cell 2 _ rfl
    have x5 := M5.at 2 (.int .i64 o.no) rfl
    have HM5 : Hid (Md w0 w w5 lab _ k pb a b bv st _ _ S es o w.heap.size) := M5
    clear hS M5 P5 F5 hN5 t5 HM2
    go_wp2_with fail
    refine hK.out _ _ ⟨x0, x5⟩ (fun hHeld => ?_)
    clear hK KK
    try simp only [Act.put, List.setIfInBounds_toArray, List.set_cons_zero, List.set_cons_succ]
    refine wpAnyH_take (i := 9) (oi := ⟨some 8, .assign (.tmp 93), 29, "law.go:170", #[⟨8, .data⟩, ⟨8, .chain⟩, ⟨0, .phase⟩, ⟨1, .phase⟩, ⟨2, .phase⟩, ⟨3, .phase⟩, ⟨4, .phase⟩, ⟨5, .phase⟩, ⟨6, .phase⟩, ⟨7, .phase⟩, ⟨8, .phase⟩], none⟩) (v := (.int .i64 (takeE (S 0) o.no))) rfl (by kernel_rfl) (by kernel_rfl) (by kernel_rfl) (fun _ _ _ h => h) (Or.inl ⟨by rfl, fun _ _ => by rfl⟩) hHeld ?_
    simp only [Act.put, List.setIfInBounds_toArray, List.set_cons_zero, List.set_cons_succ]
    refine wpAnyH_done (by kernel_rfl) ?_ _
    go_wp2_with fail
    have M6 := HM5.out.below hk (below_drewN w5 1)
    have hD := ddropN (M6.pl.d 0 hc) o.no
    have HM6 : Hid (Md w0 w (w5.drewN 1) lab _ k pb a b bv st _ _ S es o w.heap.size) := M6
    clear M6 HM5
    refine wp_region_held_drew (S := fun w' => w'.cell? ⟨pb, 2, none⟩ = some (.pointer (some ⟨b 0, 0, none⟩)) ∧ w'.cell? ⟨w.heap.size, 2, none⟩ = some (.int .i64 o.no)) (by kernel_rfl) ⟨x2, x5⟩ (fun hHeld => ?_)
    refine wpAnyH_take (i := 0) (oi := ⟨some 94, .move (.tmp 0), 66, "law.go:171", #[], none⟩) (v := (.pointer (some ⟨pb, 0, none⟩))) rfl (by kernel_rfl) (by kernel_rfl) (by kernel_rfl) (fun _ _ _ h => h) (Or.inl ⟨by rfl, fun _ _ => by rfl⟩) hHeld ?_
    simp only [Act.put, List.setIfInBounds_toArray, List.set_cons_zero, List.set_cons_succ]
    refine wpAnyH_take (i := 1) (oi := ⟨some 95, .move (.tmp 5), 3, "law.go:171", #[], none⟩) (v := (.int .i64 0)) rfl (by kernel_rfl) (by kernel_rfl) (by kernel_rfl) (fun _ _ _ h => h) (Or.inl ⟨by rfl, fun _ _ => by rfl⟩) hHeld ?_
    simp only [Act.put, List.setIfInBounds_toArray, List.set_cons_zero, List.set_cons_succ]
    refine wpAnyH_take (i := 2) (oi := ⟨some 96, .nilCheck (.tmp 94), 0, "law.go:171", #[⟨0, .data⟩], none⟩) (v := (.pointer (some ⟨pb, 0, none⟩))) rfl (by kernel_rfl) (by kernel_rfl) (by kernel_rfl) (fun _ _ _ h => h) (Or.inl ⟨by rfl, fun _ _ => by rfl⟩) hHeld ?_
    simp only [Act.put, List.setIfInBounds_toArray, List.set_cons_zero, List.set_cons_succ]
    refine wpAnyH_take (i := 3) (oi := ⟨some 97, .fieldAddr 71 (.tmp 96) 1, 0, "law.go:171", #[⟨2, .data⟩], none⟩) (v := (.pointer (some ⟨pb, 2, none⟩))) rfl (by kernel_rfl) (by kernel_rfl) (by kernel_rfl) (fun _ _ _ h => h) (Or.inl ⟨by rfl, fun _ _ => by rfl⟩) hHeld ?_
    simp only [Act.put, List.setIfInBounds_toArray, List.set_cons_zero, List.set_cons_succ]
    refine wpAnyH_take (i := 4) (oi := ⟨some 98, .indexAddr 68 (.tmp 97) (.tmp 95), 0, "law.go:171", #[⟨3, .data⟩, ⟨1, .data⟩], none⟩) (v := (.pointer (some ⟨pb, 2, none⟩))) rfl (by kernel_rfl) (by kernel_rfl) (by kernel_rfl) (fun _ _ _ h => h) (Or.inl ⟨by rfl, fun w' h' => by unfold execOp; go_simp⟩) hHeld ?_
    simp only [Act.put, List.setIfInBounds_toArray, List.set_cons_zero, List.set_cons_succ]
    refine wpAnyH_take (i := 5) (oi := ⟨some 99, .load 52 (.tmp 98), 52, "law.go:171", #[⟨4, .data⟩], none⟩) (v := (.pointer (some ⟨b 0, 0, none⟩))) rfl (by kernel_rfl) (by kernel_rfl) (by kernel_rfl) (fun _ _ _ h => h) (Or.inl ⟨by rfl, fun w' h' => by have e1 := h'.1; have e2 := h'.2; unfold execOp; go_simp⟩) hHeld ?_
    simp only [Act.put, List.setIfInBounds_toArray, List.set_cons_zero, List.set_cons_succ]
    refine wpAnyH_take (i := 6) (oi := ⟨some 100, .fieldAddr 59 (.tmp 3) 2, 0, "law.go:171", #[], none⟩) (v := (.pointer (some ⟨w.heap.size, 2, none⟩))) rfl (by kernel_rfl) (by kernel_rfl) (by kernel_rfl) (fun _ _ _ h => h) (Or.inl ⟨by rfl, fun _ _ => by rfl⟩) hHeld ?_
    simp only [Act.put, List.setIfInBounds_toArray, List.set_cons_zero, List.set_cons_succ]
    refine wpAnyH_take (i := 7) (oi := ⟨some 101, .load 3 (.tmp 100), 3, "law.go:171", #[⟨6, .data⟩], none⟩) (v := (.int .i64 o.no)) rfl (by kernel_rfl) (by kernel_rfl) (by kernel_rfl) (fun _ _ _ h => h) (Or.inl ⟨by rfl, fun w' h' => by have e1 := h'.1; have e2 := h'.2; unfold execOp; go_simp⟩) hHeld ?_
    simp only [Act.put, List.setIfInBounds_toArray, List.set_cons_zero, List.set_cons_succ]
    refine wpAnyH_ready (rs := [8]) (by kernel_rfl) (by simp) ?_
    refine AllReadyH.cons (o := ⟨some 102, .call ⟨.value (.func 39), #[.tmp 99, .tmp 101], #[52, 3]⟩, 3, "law.go:171", #[⟨5, .data⟩, ⟨7, .data⟩], none⟩) rfl (fun KK hK => ?_) (AllReadyH.nil)
    go_simp
    refine hD.mono ?_
    rintro e w7 ⟨rfl, hN7, t7⟩
    obtain ⟨P7, F7⟩ := HM6.out.pl.stepD hc hN7 t7 (fun i hi _ => rl_old hi)
    have M7 := HM6.out.step hk P7 F7
    have y0 := P7.cell 2 _ rfl
    have y5 := M7.at 2 (.int .i64 o.no) rfl
    have HM7 : Hid (Md w0 w w7 lab _ k pb a b bv st _ _ _ es o w.heap.size) := M7
    clear hD M7 P7 F7 hN7 t7 HM6
    go_wp2_with fail
    refine hK.out _ _ ⟨y0, y5⟩ (fun hHeld => ?_)
    clear hK KK
    try simp only [Act.put, List.setIfInBounds_toArray, List.set_cons_zero, List.set_cons_succ]
    refine wpAnyH_take (i := 9) (oi := ⟨some 9, .assign (.tmp 102), 3, "law.go:171", #[⟨8, .data⟩, ⟨8, .chain⟩, ⟨0, .phase⟩, ⟨1, .phase⟩, ⟨2, .phase⟩, ⟨3, .phase⟩, ⟨4, .phase⟩, ⟨5, .phase⟩, ⟨6, .phase⟩, ⟨7, .phase⟩, ⟨8, .phase⟩], none⟩) (v := (.int .i64 (takeE (S 0) o.no))) rfl (by kernel_rfl) (by kernel_rfl) (by kernel_rfl) (fun _ _ _ h => h) (Or.inl ⟨by rfl, fun _ _ => by rfl⟩) hHeld ?_
    simp only [Act.put, List.setIfInBounds_toArray, List.set_cons_zero, List.set_cons_succ]
    refine wpAnyH_done (by kernel_rfl) ?_ _
    have hbb : (takeE (S 0) o.no == takeE (S 0) o.no) = true := by simp
    have hnm := num_any (takeE (S 0) o.no) w7
    go_wp2_with fail
    refine hnm.mono ?_
    rintro e w8 ⟨rfl, rfl⟩
    clear hnm
    go_wp2_with fail
    go_ret
    exact ⟨rfl, _, _, _, _, HM7.out.pl, HM7.out.fr, fun q => by omega⟩
  · rw [show ((1 : Nat) : Int) = 1 from rfl] at hwc
    go_enter Try.func29, Try.ntmps29
    go_wp2_with fail
    refine wp_region_held_drew (S := fun w' => w'.cell? ⟨pb, 1, none⟩ = some (.pointer (some ⟨a 1, 0, none⟩)) ∧ w'.cell? ⟨w.heap.size, 2, none⟩ = some (.int .i64 o.no)) (by kernel_rfl) ⟨p1, o2⟩ (fun hHeld => ?_)
    refine wpAnyH_take (i := 0) (oi := ⟨some 85, .move (.tmp 0), 66, "law.go:170", #[], none⟩) (v := (.pointer (some ⟨pb, 0, none⟩))) rfl (by kernel_rfl) (by kernel_rfl) (by kernel_rfl) (fun _ _ _ h => h) (Or.inl ⟨by rfl, fun _ _ => by rfl⟩) hHeld ?_
    simp only [Act.put, List.setIfInBounds_toArray, List.set_cons_zero, List.set_cons_succ]
    refine wpAnyH_take (i := 1) (oi := ⟨some 86, .move (.tmp 5), 3, "law.go:170", #[], none⟩) (v := (.int .i64 1)) rfl (by kernel_rfl) (by kernel_rfl) (by kernel_rfl) (fun _ _ _ h => h) (Or.inl ⟨by rfl, fun _ _ => by rfl⟩) hHeld ?_
    simp only [Act.put, List.setIfInBounds_toArray, List.set_cons_zero, List.set_cons_succ]
    refine wpAnyH_take (i := 2) (oi := ⟨some 87, .nilCheck (.tmp 85), 0, "law.go:170", #[⟨0, .data⟩], none⟩) (v := (.pointer (some ⟨pb, 0, none⟩))) rfl (by kernel_rfl) (by kernel_rfl) (by kernel_rfl) (fun _ _ _ h => h) (Or.inl ⟨by rfl, fun _ _ => by rfl⟩) hHeld ?_
    simp only [Act.put, List.setIfInBounds_toArray, List.set_cons_zero, List.set_cons_succ]
    refine wpAnyH_take (i := 3) (oi := ⟨some 88, .fieldAddr 71 (.tmp 87) 0, 0, "law.go:170", #[⟨2, .data⟩], none⟩) (v := (.pointer (some ⟨pb, 0, none⟩))) rfl (by kernel_rfl) (by kernel_rfl) (by kernel_rfl) (fun _ _ _ h => h) (Or.inl ⟨by rfl, fun _ _ => by rfl⟩) hHeld ?_
    simp only [Act.put, List.setIfInBounds_toArray, List.set_cons_zero, List.set_cons_succ]
    refine wpAnyH_take (i := 4) (oi := ⟨some 89, .indexAddr 67 (.tmp 88) (.tmp 86), 0, "law.go:170", #[⟨3, .data⟩, ⟨1, .data⟩], none⟩) (v := (.pointer (some ⟨pb, 1, none⟩))) rfl (by kernel_rfl) (by kernel_rfl) (by kernel_rfl) (fun _ _ _ h => h) (Or.inl ⟨by rfl, fun w' h' => by unfold execOp; go_simp⟩) hHeld ?_
    simp only [Act.put, List.setIfInBounds_toArray, List.set_cons_zero, List.set_cons_succ]
    refine wpAnyH_take (i := 5) (oi := ⟨some 90, .load 24 (.tmp 89), 24, "law.go:170", #[⟨4, .data⟩], none⟩) (v := (.pointer (some ⟨a 1, 0, none⟩))) rfl (by kernel_rfl) (by kernel_rfl) (by kernel_rfl) (fun _ _ _ h => h) (Or.inl ⟨by rfl, fun w' h' => by have e1 := h'.1; have e2 := h'.2; unfold execOp; go_simp⟩) hHeld ?_
    simp only [Act.put, List.setIfInBounds_toArray, List.set_cons_zero, List.set_cons_succ]
    refine wpAnyH_take (i := 6) (oi := ⟨some 91, .fieldAddr 59 (.tmp 3) 2, 0, "law.go:170", #[], none⟩) (v := (.pointer (some ⟨w.heap.size, 2, none⟩))) rfl (by kernel_rfl) (by kernel_rfl) (by kernel_rfl) (fun _ _ _ h => h) (Or.inl ⟨by rfl, fun _ _ => by rfl⟩) hHeld ?_
    simp only [Act.put, List.setIfInBounds_toArray, List.set_cons_zero, List.set_cons_succ]
    refine wpAnyH_take (i := 7) (oi := ⟨some 92, .load 3 (.tmp 91), 3, "law.go:170", #[⟨6, .data⟩], none⟩) (v := (.int .i64 o.no)) rfl (by kernel_rfl) (by kernel_rfl) (by kernel_rfl) (fun _ _ _ h => h) (Or.inl ⟨by rfl, fun w' h' => by have e1 := h'.1; have e2 := h'.2; unfold execOp; go_simp⟩) hHeld ?_
    simp only [Act.put, List.setIfInBounds_toArray, List.set_cons_zero, List.set_cons_succ]
    refine wpAnyH_ready (rs := [8]) (by kernel_rfl) (by simp) ?_
    refine AllReadyH.cons (o := ⟨some 93, .call ⟨.value (.func 14), #[.tmp 90, .tmp 92], #[24, 3]⟩, 29, "law.go:170", #[⟨5, .data⟩, ⟨7, .data⟩], none⟩) rfl (fun KK hK => ?_) (AllReadyH.nil)
    go_simp
    refine hS.mono ?_
    rintro e w5 ⟨rfl, hN5, t5⟩
    obtain ⟨P5, F5⟩ := HM2.out.pl.stepN hc hN5 t5 (fun i hi _ => rl_old hi) (fun q f hf => HM2.out.pl.short q 1 hc f (List.mem_filter.1 hf).1)
    have M5 := HM2.out.step hk P5 F5
    have x0 := P5.cell 1 _ rfl
    have x2 := P5.cell 3 _ rfl
    have x5 := M5.at 2 (.int .i64 o.no) rfl
    have HM5 : Hid (Md w0 w w5 lab _ k pb a b bv st _ _ S es o w.heap.size) := M5
    clear hS M5 P5 F5 hN5 t5 HM2
    go_wp2_with fail
    refine hK.out _ _ ⟨x0, x5⟩ (fun hHeld => ?_)
    clear hK KK
    try simp only [Act.put, List.setIfInBounds_toArray, List.set_cons_zero, List.set_cons_succ]
    refine wpAnyH_take (i := 9) (oi := ⟨some 8, .assign (.tmp 93), 29, "law.go:170", #[⟨8, .data⟩, ⟨8, .chain⟩, ⟨0, .phase⟩, ⟨1, .phase⟩, ⟨2, .phase⟩, ⟨3, .phase⟩, ⟨4, .phase⟩, ⟨5, .phase⟩, ⟨6, .phase⟩, ⟨7, .phase⟩, ⟨8, .phase⟩], none⟩) (v := (.int .i64 (takeE (S 1) o.no))) rfl (by kernel_rfl) (by kernel_rfl) (by kernel_rfl) (fun _ _ _ h => h) (Or.inl ⟨by rfl, fun _ _ => by rfl⟩) hHeld ?_
    simp only [Act.put, List.setIfInBounds_toArray, List.set_cons_zero, List.set_cons_succ]
    refine wpAnyH_done (by kernel_rfl) ?_ _
    go_wp2_with fail
    have M6 := HM5.out.below hk (below_drewN w5 1)
    have hD := ddropN (M6.pl.d 1 hc) o.no
    have HM6 : Hid (Md w0 w (w5.drewN 1) lab _ k pb a b bv st _ _ S es o w.heap.size) := M6
    clear M6 HM5
    refine wp_region_held_drew (S := fun w' => w'.cell? ⟨pb, 3, none⟩ = some (.pointer (some ⟨b 1, 0, none⟩)) ∧ w'.cell? ⟨w.heap.size, 2, none⟩ = some (.int .i64 o.no)) (by kernel_rfl) ⟨x2, x5⟩ (fun hHeld => ?_)
    refine wpAnyH_take (i := 0) (oi := ⟨some 94, .move (.tmp 0), 66, "law.go:171", #[], none⟩) (v := (.pointer (some ⟨pb, 0, none⟩))) rfl (by kernel_rfl) (by kernel_rfl) (by kernel_rfl) (fun _ _ _ h => h) (Or.inl ⟨by rfl, fun _ _ => by rfl⟩) hHeld ?_
    simp only [Act.put, List.setIfInBounds_toArray, List.set_cons_zero, List.set_cons_succ]
    refine wpAnyH_take (i := 1) (oi := ⟨some 95, .move (.tmp 5), 3, "law.go:171", #[], none⟩) (v := (.int .i64 1)) rfl (by kernel_rfl) (by kernel_rfl) (by kernel_rfl) (fun _ _ _ h => h) (Or.inl ⟨by rfl, fun _ _ => by rfl⟩) hHeld ?_
    simp only [Act.put, List.setIfInBounds_toArray, List.set_cons_zero, List.set_cons_succ]
    refine wpAnyH_take (i := 2) (oi := ⟨some 96, .nilCheck (.tmp 94), 0, "law.go:171", #[⟨0, .data⟩], none⟩) (v := (.pointer (some ⟨pb, 0, none⟩))) rfl (by kernel_rfl) (by kernel_rfl) (by kernel_rfl) (fun _ _ _ h => h) (Or.inl ⟨by rfl, fun _ _ => by rfl⟩) hHeld ?_
    simp only [Act.put, List.setIfInBounds_toArray, List.set_cons_zero, List.set_cons_succ]
    refine wpAnyH_take (i := 3) (oi := ⟨some 97, .fieldAddr 71 (.tmp 96) 1, 0, "law.go:171", #[⟨2, .data⟩], none⟩) (v := (.pointer (some ⟨pb, 2, none⟩))) rfl (by kernel_rfl) (by kernel_rfl) (by kernel_rfl) (fun _ _ _ h => h) (Or.inl ⟨by rfl, fun _ _ => by rfl⟩) hHeld ?_
    simp only [Act.put, List.setIfInBounds_toArray, List.set_cons_zero, List.set_cons_succ]
    refine wpAnyH_take (i := 4) (oi := ⟨some 98, .indexAddr 68 (.tmp 97) (.tmp 95), 0, "law.go:171", #[⟨3, .data⟩, ⟨1, .data⟩], none⟩) (v := (.pointer (some ⟨pb, 3, none⟩))) rfl (by kernel_rfl) (by kernel_rfl) (by kernel_rfl) (fun _ _ _ h => h) (Or.inl ⟨by rfl, fun w' h' => by unfold execOp; go_simp⟩) hHeld ?_
    simp only [Act.put, List.setIfInBounds_toArray, List.set_cons_zero, List.set_cons_succ]
    refine wpAnyH_take (i := 5) (oi := ⟨some 99, .load 52 (.tmp 98), 52, "law.go:171", #[⟨4, .data⟩], none⟩) (v := (.pointer (some ⟨b 1, 0, none⟩))) rfl (by kernel_rfl) (by kernel_rfl) (by kernel_rfl) (fun _ _ _ h => h) (Or.inl ⟨by rfl, fun w' h' => by have e1 := h'.1; have e2 := h'.2; unfold execOp; go_simp⟩) hHeld ?_
    simp only [Act.put, List.setIfInBounds_toArray, List.set_cons_zero, List.set_cons_succ]
    refine wpAnyH_take (i := 6) (oi := ⟨some 100, .fieldAddr 59 (.tmp 3) 2, 0, "law.go:171", #[], none⟩) (v := (.pointer (some ⟨w.heap.size, 2, none⟩))) rfl (by kernel_rfl) (by kernel_rfl) (by kernel_rfl) (fun _ _ _ h => h) (Or.inl ⟨by rfl, fun _ _ => by rfl⟩) hHeld ?_
    simp only [Act.put, List.setIfInBounds_toArray, List.set_cons_zero, List.set_cons_succ]
    refine wpAnyH_take (i := 7) (oi := ⟨some 101, .load 3 (.tmp 100), 3, "law.go:171", #[⟨6, .data⟩], none⟩) (v := (.int .i64 o.no)) rfl (by kernel_rfl) (by kernel_rfl) (by kernel_rfl) (fun _ _ _ h => h) (Or.inl ⟨by rfl, fun w' h' => by have e1 := h'.1; have e2 := h'.2; unfold execOp; go_simp⟩) hHeld ?_
    simp only [Act.put, List.setIfInBounds_toArray, List.set_cons_zero, List.set_cons_succ]
    refine wpAnyH_ready (rs := [8]) (by kernel_rfl) (by simp) ?_
    refine AllReadyH.cons (o := ⟨some 102, .call ⟨.value (.func 39), #[.tmp 99, .tmp 101], #[52, 3]⟩, 3, "law.go:171", #[⟨5, .data⟩, ⟨7, .data⟩], none⟩) rfl (fun KK hK => ?_) (AllReadyH.nil)
    go_simp
    refine hD.mono ?_
    rintro e w7 ⟨rfl, hN7, t7⟩
    obtain ⟨P7, F7⟩ := HM6.out.pl.stepD hc hN7 t7 (fun i hi _ => rl_old hi)
    have M7 := HM6.out.step hk P7 F7
    have y0 := P7.cell 3 _ rfl
    have y5 := M7.at 2 (.int .i64 o.no) rfl
    have HM7 : Hid (Md w0 w w7 lab _ k pb a b bv st _ _ _ es o w.heap.size) := M7
    clear hD M7 P7 F7 hN7 t7 HM6
    go_wp2_with fail
    refine hK.out _ _ ⟨y0, y5⟩ (fun hHeld => ?_)
    clear hK KK
    try simp only [Act.put, List.setIfInBounds_toArray, List.set_cons_zero, List.set_cons_succ]
    refine wpAnyH_take (i := 9) (oi := ⟨some 9, .assign (.tmp 102), 3, "law.go:171", #[⟨8, .data⟩, ⟨8, .chain⟩, ⟨0, .phase⟩, ⟨1, .phase⟩, ⟨2, .phase⟩, ⟨3, .phase⟩, ⟨4, .phase⟩, ⟨5, .phase⟩, ⟨6, .phase⟩, ⟨7, .phase⟩, ⟨8, .phase⟩], none⟩) (v := (.int .i64 (takeE (S 1) o.no))) rfl (by kernel_rfl) (by kernel_rfl) (by kernel_rfl) (fun _ _ _ h => h) (Or.inl ⟨by rfl, fun _ _ => by rfl⟩) hHeld ?_
    simp only [Act.put, List.setIfInBounds_toArray, List.set_cons_zero, List.set_cons_succ]
    refine wpAnyH_done (by kernel_rfl) ?_ _
    have hbb : (takeE (S 1) o.no == takeE (S 1) o.no) = true := by simp
    have hnm := num_any (takeE (S 1) o.no) w7
    go_wp2_with fail
    refine hnm.mono ?_
    rintro e w8 ⟨rfl, rfl⟩
    clear hnm
    go_wp2_with fail
    go_ret
    exact ⟨rfl, _, _, _, _, HM7.out.pl, HM7.out.fr, fun q => by omega⟩
end Go.Proofs.Ytpbanjgjljdepaa
