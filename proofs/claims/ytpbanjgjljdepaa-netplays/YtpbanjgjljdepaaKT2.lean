/- tells: take. (Written by mkKT2.py.) -/
import Derived.Test.YtpbanjgjljdepaaKT1
import Derived.Deep.DeepCutAuto
namespace Go.Proofs.Ytpbanjgjljdepaa
open Go.RowKit Go.Maps
set_option maxRecDepth 100000
variable {w w' w0 w1 : World} {lab lab' lab'' : Nat → Nat} {k j pb c : Nat} {a b : Nat → Nat} {v bv bv' l : Value} {st : Int} {lg : Bool} {F : Nat → Prop} {S R : Nat → St} {es : List Ke}
set_option maxHeartbeats 4000000 in
theorem tells_take (h : Pl w lab k pb a b bv st lg S S es) (hw : Wk w0 lab w) (hk : 0 < k) (hc : c < 2) (hes : es.length ≤ 900) (o : Op) (hO : ∀ w', Below w0.heap.size w0 w' → o.In w') (h3 : o.k = 3) :
    Calls Try.prog 38 #[.pointer (some ⟨pb, 0, none⟩), .int .i64 c, .agg o.box] w fun e w' => e = .returned (.bool true) ∧ Stepped w w' lab k pb st es (upd2 S c (takeS (S c) o.no)) a b := by
  obtain ⟨ba, bc, rfl⟩ := tl_slice h.bk.row
  have HSh : Hid (lg = false → (takeD (S c) o.no).length ≤ 4096) := fun q => takeD_short (h.short q c hc)
  have M1 := Md.start h hw o
  obtain ⟨W1, hW1⟩ : ∃ W, w.alloc (.cells o.box 59) = W := ⟨_, rfl⟩
  rw [hW1] at M1
  have M2 := M1.below hk (below_drewN W1 1)
  have hno : KeyI o.no := (hO _ M2.wk.b).kno
  have o0 := M1.at 0 (.int .i64 o.k) rfl
  have o2 := M1.at 2 (.int .i64 o.no) rfl
  have p0 := M1.pl.cell 0 _ rfl
  have p1 := M1.pl.cell 1 _ rfl
  have HM2 : Hid (Md w0 w (W1.drewN 1) lab _ k pb a b _ st lg S S es o w.heap.size) := M2
  clear M1 M2 h hw
  rw [h3] at o0
  obtain rfl | rfl : c = 0 ∨ c = 1 := by omega
  · rw [show ((0 : Nat) : Int) = 0 from rfl]
    go_enter Try.func38, Try.ntmps38
    go_wp2_with fail
    refine wp_region_held_drew (S := fun w' => w'.cell? ⟨pb, 0, none⟩ = some (.pointer (some ⟨a 0, 0, none⟩)) ∧ w'.cell? ⟨w.heap.size, 2, none⟩ = some (.int .i64 o.no)) (by kernel_rfl) ⟨p0, o2⟩ (fun hHeld => ?_)
    refine wpAnyH_take (i := 0) (oi := ⟨some 21, .move (.tmp 0), 66, "law.go:123", #[], none⟩) (v := (.pointer (some ⟨pb, 0, none⟩))) rfl (by kernel_rfl) (by kernel_rfl) (by kernel_rfl) (fun _ _ _ h => h) (Or.inl ⟨by rfl, fun _ _ => by rfl⟩) hHeld ?_
    simp only [Act.put, List.setIfInBounds_toArray, List.set_cons_zero, List.set_cons_succ]
    refine wpAnyH_take (i := 1) (oi := ⟨some 22, .move (.tmp 1), 3, "law.go:123", #[], none⟩) (v := (.int .i64 0)) rfl (by kernel_rfl) (by kernel_rfl) (by kernel_rfl) (fun _ _ _ h => h) (Or.inl ⟨by rfl, fun _ _ => by rfl⟩) hHeld ?_
    simp only [Act.put, List.setIfInBounds_toArray, List.set_cons_zero, List.set_cons_succ]
    refine wpAnyH_take (i := 2) (oi := ⟨some 23, .nilCheck (.tmp 21), 0, "law.go:123", #[⟨0, .data⟩], none⟩) (v := (.pointer (some ⟨pb, 0, none⟩))) rfl (by kernel_rfl) (by kernel_rfl) (by kernel_rfl) (fun _ _ _ h => h) (Or.inl ⟨by rfl, fun _ _ => by rfl⟩) hHeld ?_
    simp only [Act.put, List.setIfInBounds_toArray, List.set_cons_zero, List.set_cons_succ]
    refine wpAnyH_take (i := 3) (oi := ⟨some 24, .fieldAddr 71 (.tmp 23) 0, 0, "law.go:123", #[⟨2, .data⟩], none⟩) (v := (.pointer (some ⟨pb, 0, none⟩))) rfl (by kernel_rfl) (by kernel_rfl) (by kernel_rfl) (fun _ _ _ h => h) (Or.inl ⟨by rfl, fun _ _ => by rfl⟩) hHeld ?_
    simp only [Act.put, List.setIfInBounds_toArray, List.set_cons_zero, List.set_cons_succ]
    refine wpAnyH_take (i := 4) (oi := ⟨some 25, .indexAddr 67 (.tmp 24) (.tmp 22), 0, "law.go:123", #[⟨3, .data⟩, ⟨1, .data⟩], none⟩) (v := (.pointer (some ⟨pb, 0, none⟩))) rfl (by kernel_rfl) (by kernel_rfl) (by kernel_rfl) (fun _ _ _ h => h) (Or.inl ⟨by rfl, fun w' h' => by unfold execOp; go_simp⟩) hHeld ?_
    simp only [Act.put, List.setIfInBounds_toArray, List.set_cons_zero, List.set_cons_succ]
    refine wpAnyH_take (i := 5) (oi := ⟨some 26, .load 24 (.tmp 25), 24, "law.go:123", #[⟨4, .data⟩], none⟩) (v := (.pointer (some ⟨a 0, 0, none⟩))) rfl (by kernel_rfl) (by kernel_rfl) (by kernel_rfl) (fun _ _ _ h => h) (Or.inl ⟨by rfl, fun w' h' => by have e1 := h'.1; have e2 := h'.2; unfold execOp; go_simp⟩) hHeld ?_
    simp only [Act.put, List.setIfInBounds_toArray, List.set_cons_zero, List.set_cons_succ]
    refine wpAnyH_take (i := 6) (oi := ⟨some 27, .fieldAddr 59 (.tmp 5) 2, 0, "law.go:123", #[], none⟩) (v := (.pointer (some ⟨w.heap.size, 2, none⟩))) rfl (by kernel_rfl) (by kernel_rfl) (by kernel_rfl) (fun _ _ _ h => h) (Or.inl ⟨by rfl, fun _ _ => by rfl⟩) hHeld ?_
    simp only [Act.put, List.setIfInBounds_toArray, List.set_cons_zero, List.set_cons_succ]
    refine wpAnyH_take (i := 7) (oi := ⟨some 28, .load 3 (.tmp 27), 3, "law.go:123", #[⟨6, .data⟩], none⟩) (v := (.int .i64 o.no)) rfl (by kernel_rfl) (by kernel_rfl) (by kernel_rfl) (fun _ _ _ h => h) (Or.inl ⟨by rfl, fun w' h' => by have e1 := h'.1; have e2 := h'.2; unfold execOp; go_simp⟩) hHeld ?_
    simp only [Act.put, List.setIfInBounds_toArray, List.set_cons_zero, List.set_cons_succ]
    refine wpAnyH_ready (rs := [8, 12]) (by kernel_rfl) (by simp) ?_
    refine AllReadyH.cons (o := ⟨some 29, .call ⟨.value (.func 16), #[.tmp 26, .tmp 28], #[24, 3]⟩, 38, "law.go:123", #[⟨5, .data⟩, ⟨7, .data⟩], none⟩) rfl (fun KK hK => ?_) (AllReadyH.cons (o := ⟨some 7, .alloc 28, 0, "law.go:123", #[], none⟩) rfl (fun KK hK => ?_) (AllReadyH.nil))
    · go_simp
      refine (HM2.out.take hk hc hno).mono ?_
      rintro e Wc1 ⟨ao1, n1, cc1, Lc, rfl, Mc, Dc, Fc, Uc⟩
      have x0 := Mc.pl.cell 0 _ rfl
      have x5 := Mc.at 2 (.int .i64 o.no) rfl
      have HMc : Hid (Md w0 w Wc1 lab Lc k pb a b _ st lg _ _ es o w.heap.size) := Mc
      have HDc : Hid (Da Wc1 Lc (k + 6) _ (.slice ao1 n1 cc1)) := Dc
      have HUc : Hid (Ours w lab k (.slice ao1 n1 cc1)) := Uc
      clear Mc Dc Fc Uc HM2
      go_wp2_with fail
      refine hK.out _ _ ⟨x0, x5⟩ (fun hHeld => ?_)
      clear hK KK
      try simp only [Act.put, List.setIfInBounds_toArray, List.set_cons_zero, List.set_cons_succ]
      refine wpAnyH_take (i := 9) (oi := ⟨some 20, .move (.tmp 29), 38, "law.go:123", #[⟨8, .data⟩], none⟩) (v := (.tuple #[.agg #[.int .i64 (takeT (S 0) o.no), (.slice ao1 n1 cc1)], .int .i64 (takeE (S 0) o.no)])) rfl (by kernel_rfl) (by kernel_rfl) (by kernel_rfl) (fun _ _ _ h => h) (Or.inl ⟨by rfl, fun _ _ => by rfl⟩) hHeld ?_
      simp only [Act.put, List.setIfInBounds_toArray, List.set_cons_zero, List.set_cons_succ]
      refine wpAnyH_take (i := 10) (oi := ⟨some 30, .extract (.tmp 20) 0, 28, "law.go:123", #[⟨9, .data⟩], none⟩) (v := (.agg #[.int .i64 (takeT (S 0) o.no), (.slice ao1 n1 cc1)])) rfl (by kernel_rfl) (by kernel_rfl) (by kernel_rfl) (fun _ _ _ h => h) (Or.inl ⟨by rfl, fun _ _ => by rfl⟩) hHeld ?_
      simp only [Act.put, List.setIfInBounds_toArray, List.set_cons_zero, List.set_cons_succ]
      refine wpAnyH_take (i := 11) (oi := ⟨some 31, .extract (.tmp 20) 1, 29, "law.go:123", #[⟨9, .data⟩, ⟨13, .gcOnly .lateStores⟩], none⟩) (v := (.int .i64 (takeE (S 0) o.no))) rfl (by kernel_rfl) (by kernel_rfl) (by kernel_rfl) (fun _ _ _ h => h) (Or.inl ⟨by rfl, fun _ _ => by rfl⟩) hHeld ?_
      simp only [Act.put, List.setIfInBounds_toArray, List.set_cons_zero, List.set_cons_succ]
      refine wpAnyH_ready (rs := [12]) (by kernel_rfl) (by simp) ?_
      refine AllReadyH.cons (o := ⟨some 7, .alloc 28, 0, "law.go:123", #[], none⟩) rfl (fun KK hK => ?_) (AllReadyH.nil)
      go_simp
      obtain ⟨Wb1, hWb⟩ : ∃ x, Wc1.alloc (.cells #[.int .i64 0, .slice none 0 0] 28) = x := ⟨_, rfl⟩
      obtain ⟨Mb, Bb, Fb⟩ := HMc.out.box hk _ hWb.symm
      rw [hWb]
      clear x0 x5
      have x0 := Mb.pl.cell 0 _ rfl
      have x5 := Mb.at 2 (.int .i64 o.no) rfl
      have HDd := HDc.out
      clear HDc
      have HDc : Hid (Da Wb1 _ (k + 6) _ (.slice ao1 n1 cc1)) := Fb.da HDd
      clear HDd
      have HMb : Hid (Md w0 w Wb1 lab _ k pb a b _ st lg _ _ es o w.heap.size) := Mb
      have HBb : Hid (Bx w Wb1 _ k Wc1.heap.size _) := Bb
      clear Mb Bb Fb hWb HMc
      refine hK.out _ _ ⟨x0, x5⟩ (fun hHeld => ?_)
      clear hK KK
      try simp only [Act.put, List.setIfInBounds_toArray, List.set_cons_zero, List.set_cons_succ]
      refine wpAnyH_ready (rs := [13]) (by kernel_rfl) (by simp) ?_
      refine AllReadyH.cons (o := ⟨none, .store 28 (.tmp 7) (.tmp 30), 0, "law.go:123", #[⟨12, .data⟩, ⟨10, .data⟩, ⟨8, .chain⟩, ⟨0, .phase⟩, ⟨1, .phase⟩, ⟨2, .phase⟩, ⟨3, .phase⟩, ⟨4, .phase⟩, ⟨5, .phase⟩, ⟨6, .phase⟩, ⟨7, .phase⟩, ⟨8, .phase⟩, ⟨9, .phase⟩, ⟨10, .phase⟩, ⟨11, .textOnly .lateStores⟩, ⟨12, .phase⟩], none⟩) rfl (fun KK hK => ?_) (AllReadyH.nil)
      clear x0 x5
      have gb := HBb.out.hb
      have g0 : Wb1.cell? ⟨Wc1.heap.size, 0, none⟩ = some (.int .i64 0) := by simp [World.cell?, gb]
      have g1 : Wb1.cell? ⟨Wc1.heap.size, 1, none⟩ = some (.slice none 0 0) := by simp [World.cell?, gb]
      have z0 : Wb1.frozen? ⟨Wc1.heap.size, 0, none⟩ = false := by simp [World.frozen?, gb]
      have z1 : Wb1.frozen? ⟨Wc1.heap.size, 1, none⟩ = false := by simp [World.frozen?, gb]
      have hS1 := heap_setCell_same Wb1 (Wc1.heap.size) 0 _ _ (.int .i64 (takeT (S 0) o.no)) gb
      have g1n : (Wb1.setCell ⟨Wc1.heap.size, 0, none⟩ (.int .i64 (takeT (S 0) o.no))).cell? ⟨Wc1.heap.size, 1, none⟩ = some (.slice none 0 0) := by simp [World.cell?, hS1]
      have z1n : (Wb1.setCell ⟨Wc1.heap.size, 0, none⟩ (.int .i64 (takeT (S 0) o.no))).frozen? ⟨Wc1.heap.size, 1, none⟩ = false := by simp [World.frozen?, hS1]
      clear hS1
      have Hgb : Hid (Wb1.heap[Wc1.heap.size]? = some (.cells #[.int .i64 0, .slice none 0 0] 28)) := gb
      clear gb
      go_simp
      obtain ⟨We1, hWe⟩ : ∃ y, (Wb1.setCell ⟨Wc1.heap.size, 0, none⟩ (.int .i64 (takeT (S 0) o.no))).setCell ⟨Wc1.heap.size, 1, none⟩ (.slice ao1 n1 cc1) = y := ⟨_, rfl⟩
      rw [hWe]
      have tE : Turns (fun i => i = Wc1.heap.size) Wb1 We1 := by rw [← hWe]; exact (Turns.cell Wb1 (Wc1.heap.size) 0 _).trans (Turns.cell _ (Wc1.heap.size) 1 _) (fun _ _ q => q)
      have hE : We1.heap[Wc1.heap.size]? = some (.cells #[.int .i64 (takeT (S 0) o.no), (.slice ao1 n1 cc1)] 28) := by rw [← hWe]; exact heap_setCell_same _ _ _ _ _ _ (heap_setCell_same _ _ _ _ _ _ Hgb.out)
      obtain ⟨Me, Pe⟩ := HMb.out.stored hk HDc.out HUc.out HBb.out tE hE
      clear g0 g1 z0 z1 g1n z1n Hgb tE hE hWe HMb HDc HUc HBb
      have x0 := Me.pl.cell 0 _ rfl
      have x5 := Me.at 2 (.int .i64 o.no) rfl
      have HMe : Hid (Md w0 w We1 lab _ k pb a b _ st lg _ _ es o w.heap.size) := Me
      have HPe : Hid (Pk w lab We1 _ k (Wc1.heap.size) _ _ (.slice ao1 n1 cc1)) := Pe
      clear Me Pe
      refine hK.out _ _ ⟨x0, x5⟩ (fun hHeld => ?_)
      clear hK KK
      try simp only [Act.put, List.setIfInBounds_toArray, List.set_cons_zero, List.set_cons_succ]
      refine wpAnyH_take (i := 14) (oi := ⟨some 8, .assign (.tmp 31), 29, "law.go:123", #[⟨11, .data⟩, ⟨13, .chain⟩, ⟨0, .phase⟩, ⟨1, .phase⟩, ⟨2, .phase⟩, ⟨3, .phase⟩, ⟨4, .phase⟩, ⟨5, .phase⟩, ⟨6, .phase⟩, ⟨7, .phase⟩, ⟨8, .phase⟩, ⟨9, .phase⟩, ⟨10, .phase⟩, ⟨11, .phase⟩, ⟨12, .phase⟩, ⟨13, .phase⟩], none⟩) (v := (.int .i64 (takeE (S 0) o.no))) rfl (by kernel_rfl) (by kernel_rfl) (by kernel_rfl) (fun _ _ _ h => h) (Or.inl ⟨by rfl, fun _ _ => by rfl⟩) hHeld ?_
      simp only [Act.put, List.setIfInBounds_toArray, List.set_cons_zero, List.set_cons_succ]
      refine wpAnyH_done (by kernel_rfl) ?_ _
      clear x0 x5
      have HP1 := HPe
      clear HPe
      generalize Wc1.heap.size = b1 at HP1 ⊢
      have M6 := HMe.out.below hk (below_drewN We1 1)
      have HP1n := (Fr.below (k := k) (below_drewN We1 1) (k + 6)).pk HP1.out
      clear HP1
      have HP1 : Hid (Pk w lab _ _ k b1 _ _ _) := HP1n
      have y2 := HMe.out.pl.cell 2 _ rfl
      have y5 := HMe.out.at 2 (.int .i64 o.no) rfl
      have HM6 : Hid (Md w0 w (We1.drewN 1) lab _ k pb a b _ st lg _ _ es o w.heap.size) := M6
      clear M6 HMe HP1n
      go_wp2_with fail
      refine wp_region_held_drew (S := fun w' => w'.cell? ⟨pb, 2, none⟩ = some (.pointer (some ⟨b 0, 0, none⟩)) ∧ w'.cell? ⟨w.heap.size, 2, none⟩ = some (.int .i64 o.no)) (by kernel_rfl) ⟨y2, y5⟩ (fun hHeld => ?_)
      refine wpAnyH_take (i := 0) (oi := ⟨some 33, .move (.tmp 0), 66, "law.go:124", #[], none⟩) (v := (.pointer (some ⟨pb, 0, none⟩))) rfl (by kernel_rfl) (by kernel_rfl) (by kernel_rfl) (fun _ _ _ h => h) (Or.inl ⟨by rfl, fun _ _ => by rfl⟩) hHeld ?_
      simp only [Act.put, List.setIfInBounds_toArray, List.set_cons_zero, List.set_cons_succ]
      refine wpAnyH_take (i := 1) (oi := ⟨some 34, .move (.tmp 1), 3, "law.go:124", #[], none⟩) (v := (.int .i64 0)) rfl (by kernel_rfl) (by kernel_rfl) (by kernel_rfl) (fun _ _ _ h => h) (Or.inl ⟨by rfl, fun _ _ => by rfl⟩) hHeld ?_
      simp only [Act.put, List.setIfInBounds_toArray, List.set_cons_zero, List.set_cons_succ]
      refine wpAnyH_take (i := 2) (oi := ⟨some 35, .nilCheck (.tmp 33), 0, "law.go:124", #[⟨0, .data⟩], none⟩) (v := (.pointer (some ⟨pb, 0, none⟩))) rfl (by kernel_rfl) (by kernel_rfl) (by kernel_rfl) (fun _ _ _ h => h) (Or.inl ⟨by rfl, fun _ _ => by rfl⟩) hHeld ?_
      simp only [Act.put, List.setIfInBounds_toArray, List.set_cons_zero, List.set_cons_succ]
      refine wpAnyH_take (i := 3) (oi := ⟨some 36, .fieldAddr 71 (.tmp 35) 1, 0, "law.go:124", #[⟨2, .data⟩], none⟩) (v := (.pointer (some ⟨pb, 2, none⟩))) rfl (by kernel_rfl) (by kernel_rfl) (by kernel_rfl) (fun _ _ _ h => h) (Or.inl ⟨by rfl, fun _ _ => by rfl⟩) hHeld ?_
      simp only [Act.put, List.setIfInBounds_toArray, List.set_cons_zero, List.set_cons_succ]
      refine wpAnyH_take (i := 4) (oi := ⟨some 37, .indexAddr 68 (.tmp 36) (.tmp 34), 0, "law.go:124", #[⟨3, .data⟩, ⟨1, .data⟩], none⟩) (v := (.pointer (some ⟨pb, 2, none⟩))) rfl (by kernel_rfl) (by kernel_rfl) (by kernel_rfl) (fun _ _ _ h => h) (Or.inl ⟨by rfl, fun w' h' => by unfold execOp; go_simp⟩) hHeld ?_
      simp only [Act.put, List.setIfInBounds_toArray, List.set_cons_zero, List.set_cons_succ]
      refine wpAnyH_take (i := 5) (oi := ⟨some 38, .load 52 (.tmp 37), 52, "law.go:124", #[⟨4, .data⟩], none⟩) (v := (.pointer (some ⟨b 0, 0, none⟩))) rfl (by kernel_rfl) (by kernel_rfl) (by kernel_rfl) (fun _ _ _ h => h) (Or.inl ⟨by rfl, fun w' h' => by have e1 := h'.1; have e2 := h'.2; unfold execOp; go_simp⟩) hHeld ?_
      simp only [Act.put, List.setIfInBounds_toArray, List.set_cons_zero, List.set_cons_succ]
      refine wpAnyH_take (i := 6) (oi := ⟨some 39, .fieldAddr 59 (.tmp 5) 2, 0, "law.go:124", #[], none⟩) (v := (.pointer (some ⟨w.heap.size, 2, none⟩))) rfl (by kernel_rfl) (by kernel_rfl) (by kernel_rfl) (fun _ _ _ h => h) (Or.inl ⟨by rfl, fun _ _ => by rfl⟩) hHeld ?_
      simp only [Act.put, List.setIfInBounds_toArray, List.set_cons_zero, List.set_cons_succ]
      refine wpAnyH_take (i := 7) (oi := ⟨some 40, .load 3 (.tmp 39), 3, "law.go:124", #[⟨6, .data⟩], none⟩) (v := (.int .i64 o.no)) rfl (by kernel_rfl) (by kernel_rfl) (by kernel_rfl) (fun _ _ _ h => h) (Or.inl ⟨by rfl, fun w' h' => by have e1 := h'.1; have e2 := h'.2; unfold execOp; go_simp⟩) hHeld ?_
      simp only [Act.put, List.setIfInBounds_toArray, List.set_cons_zero, List.set_cons_succ]
      refine wpAnyH_ready (rs := [8, 12]) (by kernel_rfl) (by simp) ?_
      refine AllReadyH.cons (o := ⟨some 41, .call ⟨.value (.func 22), #[.tmp 38, .tmp 40], #[52, 3]⟩, 60, "law.go:124", #[⟨5, .data⟩, ⟨7, .data⟩], none⟩) rfl (fun KK hK => ?_) (AllReadyH.cons (o := ⟨some 9, .alloc 28, 0, "law.go:124", #[], none⟩) rfl (fun KK hK => ?_) (AllReadyH.nil))
      · go_simp
        refine (HM6.out.dtake hk hc).mono ?_
        rintro e Wc2 ⟨ao2, n2, cc2, Lc, rfl, Mc, Dc, Fc, Uc⟩
        have x0 := Mc.pl.cell 2 _ rfl
        have x5 := Mc.at 2 (.int .i64 o.no) rfl
        have HMc : Hid (Md w0 w Wc2 lab Lc k pb a b _ st lg _ _ es o w.heap.size) := Mc
        have HDc : Hid (Da Wc2 Lc (k + 6) _ (.slice ao2 n2 cc2)) := Dc
        have HUc : Hid (Ours w lab k (.slice ao2 n2 cc2)) := Uc
        have HP1n := Fc.pk HP1.out
        clear HP1
        have HP1 : Hid (Pk w lab _ _ k _ _ _ _) := HP1n
        clear HP1n
        clear Mc Dc Fc Uc HM6
        go_wp2_with fail
        refine hK.out _ _ ⟨x0, x5⟩ (fun hHeld => ?_)
        clear hK KK
        try simp only [Act.put, List.setIfInBounds_toArray, List.set_cons_zero, List.set_cons_succ]
        refine wpAnyH_take (i := 9) (oi := ⟨some 32, .move (.tmp 41), 60, "law.go:124", #[⟨8, .data⟩], none⟩) (v := (.tuple #[.agg #[.int .i64 (takeT (S 0) o.no), (.slice ao2 n2 cc2)], .int .i64 (takeE (S 0) o.no)])) rfl (by kernel_rfl) (by kernel_rfl) (by kernel_rfl) (fun _ _ _ h => h) (Or.inl ⟨by rfl, fun _ _ => by rfl⟩) hHeld ?_
        simp only [Act.put, List.setIfInBounds_toArray, List.set_cons_zero, List.set_cons_succ]
        refine wpAnyH_take (i := 10) (oi := ⟨some 42, .extract (.tmp 32) 0, 28, "law.go:124", #[⟨9, .data⟩], none⟩) (v := (.agg #[.int .i64 (takeT (S 0) o.no), (.slice ao2 n2 cc2)])) rfl (by kernel_rfl) (by kernel_rfl) (by kernel_rfl) (fun _ _ _ h => h) (Or.inl ⟨by rfl, fun _ _ => by rfl⟩) hHeld ?_
        simp only [Act.put, List.setIfInBounds_toArray, List.set_cons_zero, List.set_cons_succ]
        refine wpAnyH_take (i := 11) (oi := ⟨some 43, .extract (.tmp 32) 1, 3, "law.go:124", #[⟨9, .data⟩, ⟨13, .gcOnly .lateStores⟩], none⟩) (v := (.int .i64 (takeE (S 0) o.no))) rfl (by kernel_rfl) (by kernel_rfl) (by kernel_rfl) (fun _ _ _ h => h) (Or.inl ⟨by rfl, fun _ _ => by rfl⟩) hHeld ?_
        simp only [Act.put, List.setIfInBounds_toArray, List.set_cons_zero, List.set_cons_succ]
        refine wpAnyH_ready (rs := [12]) (by kernel_rfl) (by simp) ?_
        refine AllReadyH.cons (o := ⟨some 9, .alloc 28, 0, "law.go:124", #[], none⟩) rfl (fun KK hK => ?_) (AllReadyH.nil)
        go_simp
        obtain ⟨Wb2, hWb⟩ : ∃ x, Wc2.alloc (.cells #[.int .i64 0, .slice none 0 0] 28) = x := ⟨_, rfl⟩
        obtain ⟨Mb, Bb, Fb⟩ := HMc.out.box hk _ hWb.symm
        rw [hWb]
        clear x0 x5
        have x0 := Mb.pl.cell 2 _ rfl
        have x5 := Mb.at 2 (.int .i64 o.no) rfl
        have HDd := HDc.out
        clear HDc
        have HDc : Hid (Da Wb2 _ (k + 6) _ (.slice ao2 n2 cc2)) := Fb.da HDd
        clear HDd
        have HNE : Hid (b1 ≠ Wc2.heap.size) := Nat.ne_of_lt (heap_lt HP1.out.hb)
        have HP1n := Fb.pk HP1.out
        clear HP1
        have HP1 : Hid (Pk w lab _ _ k _ _ _ _) := HP1n
        clear HP1n
        have HMb : Hid (Md w0 w Wb2 lab _ k pb a b _ st lg _ _ es o w.heap.size) := Mb
        have HBb : Hid (Bx w Wb2 _ k Wc2.heap.size _) := Bb
        clear Mb Bb Fb hWb HMc
        refine hK.out _ _ ⟨x0, x5⟩ (fun hHeld => ?_)
        clear hK KK
        try simp only [Act.put, List.setIfInBounds_toArray, List.set_cons_zero, List.set_cons_succ]
        refine wpAnyH_ready (rs := [13]) (by kernel_rfl) (by simp) ?_
        refine AllReadyH.cons (o := ⟨none, .store 28 (.tmp 9) (.tmp 42), 0, "law.go:124", #[⟨12, .data⟩, ⟨10, .data⟩, ⟨8, .chain⟩, ⟨0, .phase⟩, ⟨1, .phase⟩, ⟨2, .phase⟩, ⟨3, .phase⟩, ⟨4, .phase⟩, ⟨5, .phase⟩, ⟨6, .phase⟩, ⟨7, .phase⟩, ⟨8, .phase⟩, ⟨9, .phase⟩, ⟨10, .phase⟩, ⟨11, .textOnly .lateStores⟩, ⟨12, .phase⟩], none⟩) rfl (fun KK hK => ?_) (AllReadyH.nil)
        clear x0 x5
        have gb := HBb.out.hb
        have g0 : Wb2.cell? ⟨Wc2.heap.size, 0, none⟩ = some (.int .i64 0) := by simp [World.cell?, gb]
        have g1 : Wb2.cell? ⟨Wc2.heap.size, 1, none⟩ = some (.slice none 0 0) := by simp [World.cell?, gb]
        have z0 : Wb2.frozen? ⟨Wc2.heap.size, 0, none⟩ = false := by simp [World.frozen?, gb]
        have z1 : Wb2.frozen? ⟨Wc2.heap.size, 1, none⟩ = false := by simp [World.frozen?, gb]
        have hS1 := heap_setCell_same Wb2 (Wc2.heap.size) 0 _ _ (.int .i64 (takeT (S 0) o.no)) gb
        have g1n : (Wb2.setCell ⟨Wc2.heap.size, 0, none⟩ (.int .i64 (takeT (S 0) o.no))).cell? ⟨Wc2.heap.size, 1, none⟩ = some (.slice none 0 0) := by simp [World.cell?, hS1]
        have z1n : (Wb2.setCell ⟨Wc2.heap.size, 0, none⟩ (.int .i64 (takeT (S 0) o.no))).frozen? ⟨Wc2.heap.size, 1, none⟩ = false := by simp [World.frozen?, hS1]
        clear hS1
        have Hgb : Hid (Wb2.heap[Wc2.heap.size]? = some (.cells #[.int .i64 0, .slice none 0 0] 28)) := gb
        clear gb
        go_simp
        obtain ⟨We2, hWe⟩ : ∃ y, (Wb2.setCell ⟨Wc2.heap.size, 0, none⟩ (.int .i64 (takeT (S 0) o.no))).setCell ⟨Wc2.heap.size, 1, none⟩ (.slice ao2 n2 cc2) = y := ⟨_, rfl⟩
        rw [hWe]
        have tE : Turns (fun i => i = Wc2.heap.size) Wb2 We2 := by rw [← hWe]; exact (Turns.cell Wb2 (Wc2.heap.size) 0 _).trans (Turns.cell _ (Wc2.heap.size) 1 _) (fun _ _ q => q)
        have hE : We2.heap[Wc2.heap.size]? = some (.cells #[.int .i64 (takeT (S 0) o.no), (.slice ao2 n2 cc2)] 28) := by rw [← hWe]; exact heap_setCell_same _ _ _ _ _ _ (heap_setCell_same _ _ _ _ _ _ Hgb.out)
        obtain ⟨Me, Pe⟩ := HMb.out.stored hk HDc.out HUc.out HBb.out tE hE
        have HP1n := HP1.out.stays HBb.out HNE.out tE
        clear HP1
        have HP1 : Hid (Pk w lab _ _ k _ _ _ _) := HP1n
        clear HP1n
        clear g0 g1 z0 z1 g1n z1n Hgb tE hE hWe HMb HDc HUc HBb HNE
        have x0 := Me.pl.cell 2 _ rfl
        have x5 := Me.at 2 (.int .i64 o.no) rfl
        have HMe : Hid (Md w0 w We2 lab _ k pb a b _ st lg _ _ es o w.heap.size) := Me
        have HPe : Hid (Pk w lab We2 _ k (Wc2.heap.size) _ _ (.slice ao2 n2 cc2)) := Pe
        clear Me Pe
        refine hK.out _ _ ⟨x0, x5⟩ (fun hHeld => ?_)
        clear hK KK
        try simp only [Act.put, List.setIfInBounds_toArray, List.set_cons_zero, List.set_cons_succ]
        refine wpAnyH_take (i := 14) (oi := ⟨some 10, .assign (.tmp 43), 3, "law.go:124", #[⟨11, .data⟩, ⟨13, .chain⟩, ⟨0, .phase⟩, ⟨1, .phase⟩, ⟨2, .phase⟩, ⟨3, .phase⟩, ⟨4, .phase⟩, ⟨5, .phase⟩, ⟨6, .phase⟩, ⟨7, .phase⟩, ⟨8, .phase⟩, ⟨9, .phase⟩, ⟨10, .phase⟩, ⟨11, .phase⟩, ⟨12, .phase⟩, ⟨13, .phase⟩], none⟩) (v := (.int .i64 (takeE (S 0) o.no))) rfl (by kernel_rfl) (by kernel_rfl) (by kernel_rfl) (fun _ _ _ h => h) (Or.inl ⟨by rfl, fun _ _ => by rfl⟩) hHeld ?_
        simp only [Act.put, List.setIfInBounds_toArray, List.set_cons_zero, List.set_cons_succ]
        refine wpAnyH_done (by kernel_rfl) ?_ _
        clear x0 x5
        have HP2 := HPe
        clear HPe
        generalize Wc2.heap.size = b2 at HP2 ⊢
        have k1 := HP1.out.c1
        have m1 := HP2.out.c1
        have hs := same_any ao1 ao2 n1 n2 cc1 cc2 (takeD (S 0) o.no) (takeD (S 0) o.no) We2 (by have := HP1.out.da.len; have := HP1.out.da.len_eq; omega) (HP1.out.da.lies HP1.out.da.len_eq) (HP2.out.da.lies HP2.out.da.len_eq)
        go_wp2_with fail
        refine hs.mono ?_
        rintro e w9 ⟨rfl, m9, hw9⟩
        have b9 : Below We2.heap.size We2 w9 := by rw [hw9]; exact below_drewN We2 m9
        have M9 := HMe.out.below hk b9
        have P9 := (Fr.below (k := k) b9 (k + 6)).pk HP1.out
        have Q9 := (Fr.below (k := k) b9 (k + 6)).pk HP2.out
        clear k1 m1 hs hw9 HP1 HP2 HMe
        have k0 := P9.c0
        have k1 := P9.c1
        have m0 := Q9.c0
        have p6 := M9.pl.cell 6 _ rfl
        have p4 := M9.pl.cell 4 _ rfl
        have HM9 : Hid (Md w0 w w9 lab _ k pb a b (.slice ba es.length bc) st lg _ _ es o w.heap.size) := M9
        have HP9 : Hid (Pk w lab w9 _ k b1 _ _ _) := P9
        have hdd : decide (takeD (S 0) o.no = takeD (S 0) o.no) = true := decide_eq_true rfl
        have hbb : (takeE (S 0) o.no == takeE (S 0) o.no) = true := by simp
        have htt : (takeT (S 0) o.no == takeT (S 0) o.no) = true := by simp
        clear M9 P9 Q9 b9
        cases lg with
        | true =>
          go_wp2_with (first | (go_at_call 13; refine (num_any _ _).mono ?_; rintro e w8 ⟨rfl, rfl⟩) | fail)
          go_ret
          exact ⟨rfl, _, _, _, _, HM9.out.pl, HM9.out.fr, fun q => by omega⟩
        | false =>
          go_wp2_with (first | (go_at_call 13; refine (num_any _ _).mono ?_; rintro e w8 ⟨rfl, rfl⟩) | fail)
          have M10 := HM9.out.below hk (below_drewN w8 1)
          have P10 := (Fr.below (k := k) (below_drewN w8 1) (k + 6)).pk HP9.out
          have hnb : pb ≠ b1 := fun q => by have h1 := M10.pl.lb; have h2 := P10.hx; rw [← q] at h2; omega
          have HNB : Hid (pb ≠ b1) := hnb
          have hmk := mark_any M10.pl 1
          have hln : n1 ≤ 4096 := by have h1 := P10.da.len_eq; have h2 := HSh.out (by first | rfl | trivial); omega
          have hkp := fun m => keep_any M10.pl.bk (.slice ao1 n1 cc1) _ _ P10.da.own (fun i q r => by have h1 := P10.da.lb i q; have h2 : _ = k + 4 := r; omega) (by have h1 := P10.da.len_eq; omega) (by omega) m
          have HM10 : Hid (Md w0 w (w8.drewN 1) lab _ k pb a b (.slice ba es.length bc) st false _ _ es o w.heap.size) := M10
          have HP10 : Hid (Pk w lab (w8.drewN 1) _ k b1 _ _ (.slice ao1 n1 cc1)) := P10
          clear M10 P10 hnb HM9 HP9 k0 m0 p6
          refine wp_region_held_drew (S := fun w' => w'.cell? ⟨b1, 1, none⟩ = some (.slice ao1 n1 cc1)) (by kernel_rfl) k1 (fun hHeld => ?_)
          refine wpAnyH_take (i := 0) (oi := ⟨some 69, .move (.tmp 0), 66, "law.go:130", #[], none⟩) (v := (.pointer (some ⟨pb, 0, none⟩))) rfl (by kernel_rfl) (by kernel_rfl) (by kernel_rfl) (fun _ _ _ h => h) (Or.inl ⟨by rfl, fun _ _ => by rfl⟩) hHeld ?_
          simp only [Act.put, List.setIfInBounds_toArray, List.set_cons_zero, List.set_cons_succ]
          refine wpAnyH_take (i := 1) (oi := ⟨some 70, .move (.tmp 0), 66, "law.go:130", #[], none⟩) (v := (.pointer (some ⟨pb, 0, none⟩))) rfl (by kernel_rfl) (by kernel_rfl) (by kernel_rfl) (fun _ _ _ h => h) (Or.inl ⟨by rfl, fun _ _ => by rfl⟩) hHeld ?_
          simp only [Act.put, List.setIfInBounds_toArray, List.set_cons_zero, List.set_cons_succ]
          refine wpAnyH_take (i := 2) (oi := ⟨some 71, .nilCheck (.tmp 70), 0, "law.go:130", #[⟨1, .data⟩], none⟩) (v := (.pointer (some ⟨pb, 0, none⟩))) rfl (by kernel_rfl) (by kernel_rfl) (by kernel_rfl) (fun _ _ _ h => h) (Or.inl ⟨by rfl, fun _ _ => by rfl⟩) hHeld ?_
          simp only [Act.put, List.setIfInBounds_toArray, List.set_cons_zero, List.set_cons_succ]
          refine wpAnyH_take (i := 3) (oi := ⟨some 72, .fieldAddr 71 (.tmp 71) 2, 0, "law.go:130", #[⟨2, .data⟩], none⟩) (v := (.pointer (some ⟨pb, 4, none⟩))) rfl (by kernel_rfl) (by kernel_rfl) (by kernel_rfl) (fun _ _ _ h => h) (Or.inl ⟨by rfl, fun _ _ => by rfl⟩) hHeld ?_
          simp only [Act.put, List.setIfInBounds_toArray, List.set_cons_zero, List.set_cons_succ]
          refine wpAnyH_take (i := 5) (oi := ⟨some 74, .fieldAddr 28 (.tmp 7) 1, 0, "law.go:130", #[], none⟩) (v := (.pointer (some ⟨b1, 1, none⟩))) rfl (by kernel_rfl) (by kernel_rfl) (by kernel_rfl) (fun _ _ _ h => h) (Or.inl ⟨by rfl, fun _ _ => by rfl⟩) hHeld ?_
          simp only [Act.put, List.setIfInBounds_toArray, List.set_cons_zero, List.set_cons_succ]
          refine wpAnyH_take (i := 6) (oi := ⟨some 75, .load 22 (.tmp 74), 22, "law.go:130", #[⟨5, .data⟩], none⟩) (v := (.slice ao1 n1 cc1)) rfl (by kernel_rfl) (by kernel_rfl) (by kernel_rfl) (fun _ _ _ h => h) (Or.inl ⟨by rfl, fun w' h' => by unfold execOp; go_simp⟩) hHeld ?_
          simp only [Act.put, List.setIfInBounds_toArray, List.set_cons_zero, List.set_cons_succ]
          refine wpAnyH_take (i := 7) (oi := ⟨some 76, .move (.tmp 0), 66, "law.go:130", #[], none⟩) (v := (.pointer (some ⟨pb, 0, none⟩))) rfl (by kernel_rfl) (by kernel_rfl) (by kernel_rfl) (fun _ _ _ h => h) (Or.inl ⟨by rfl, fun _ _ => by rfl⟩) hHeld ?_
          simp only [Act.put, List.setIfInBounds_toArray, List.set_cons_zero, List.set_cons_succ]
          refine wpAnyH_ready (rs := [4, 8]) (by kernel_rfl) (by simp) ?_
          refine AllReadyH.cons (o := ⟨some 73, .load 69 (.tmp 72), 69, "law.go:130", #[⟨3, .data⟩], none⟩) rfl (fun KK hK => ?_) (AllReadyH.cons (o := ⟨some 77, .call ⟨.value (.func 47), #[.tmp 76, .const (.int .i64 1)], #[66, 3]⟩, 5, "law.go:130", #[⟨7, .data⟩], none⟩) rfl (fun KK hK => ?_) (AllReadyH.nil))
          · go_simp
            refine hK.out _ _ hHeld (fun hHeld => ?_)
            clear hK KK
            try simp only [Act.put, List.setIfInBounds_toArray, List.set_cons_zero, List.set_cons_succ]
            refine wpAnyH_ready (rs := [8]) (by kernel_rfl) (by simp) ?_
            refine AllReadyH.cons (o := ⟨some 77, .call ⟨.value (.func 47), #[.tmp 76, .const (.int .i64 1)], #[66, 3]⟩, 5, "law.go:130", #[⟨7, .data⟩], none⟩) rfl (fun KK hK => ?_) (AllReadyH.nil)
            go_simp
            refine hmk.mono ?_
            rintro e wm ⟨mm, rfl, rfl⟩
            go_wp2_with fail
            refine hK.out _ _ hHeld (fun hHeld => ?_)
            clear hK KK
            try simp only [Act.put, List.setIfInBounds_toArray, List.set_cons_zero, List.set_cons_succ]
            refine wpAnyH_ready (rs := [9]) (by kernel_rfl) (by simp) ?_
            refine AllReadyH.cons (o := ⟨some 78, .call ⟨.value (.func 46), #[.tmp 73, .tmp 75, .tmp 77], #[69, 22, 5]⟩, 69, "law.go:130", #[⟨4, .data⟩, ⟨6, .data⟩, ⟨8, .data⟩, ⟨8, .chain⟩], none⟩) rfl (fun KK hK => ?_) (AllReadyH.nil)
            go_simp
            refine (hkp mm).mono ?_
            rintro e wk ⟨bv', rfl, K3⟩
            have HK3 : Hid (Kept3 _ _ _ _ _ _ _) := K3
            obtain ⟨fs, _, hB, hT⟩ := K3
            obtain ⟨ba', bc', hbv'⟩ := tl_slice hB.row
            generalize (es ++ fs).length = E' at hbv'
            clear hB
            subst hbv'
            have nb : ¬ ((Value.slice ba es.length bc).ownBlock = some pb ∨ (Value.slice ao1 n1 cc1).ownBlock = some pb) := fun q => q.elim (fun r => by have h1 : _ = k + 4 := HM10.out.pl.bk.kb pb r; have h2 := HM10.out.pl.lb; omega) (fun r => by have h1 := HP10.out.da.lb pb r; have h2 := HM10.out.pl.lb; omega)
            have nx : ¬ ((Value.slice ba es.length bc).ownBlock = some b1 ∨ (Value.slice ao1 n1 cc1).ownBlock = some b1) := fun q => q.elim (fun r => by have h1 : _ = k + 4 := HM10.out.pl.bk.kb b1 r; have h2 := HP10.out.hx; omega) (fun r => own_typ HP10.out.da.own HP10.out.hb (by decide) r)
            have zk := (hT.block pb (heap_lt HM10.out.pl.box) nb).trans HM10.out.pl.box
            have zx := (hT.block b1 (heap_lt HP10.out.hb) nx).trans HP10.out.hb
            have fk : wk.frozen? ⟨pb, 4, none⟩ = false := by simp [World.frozen?, zk]
            have ck : wk.cell? ⟨pb, 4, none⟩ = some (.slice ba es.length bc) := by simp [World.cell?, zk]
            have kx : wk.cell? ⟨b1, 1, none⟩ = some (.slice ao1 n1 cc1) := by simp [World.cell?, zx]
            have kx2 : ∀ u, (wk.setCell ⟨pb, 4, none⟩ u).cell? ⟨b1, 1, none⟩ = some (.slice ao1 n1 cc1) := fun u => (World.cell?_setCell_far wk ⟨pb, 4, none⟩ ⟨b1, 1, none⟩ u HNB.out).trans kx
            have HZk : Hid (wk.heap[pb]? = _) := zk
            clear zk zx hT nb nx
            go_wp2_with fail
            refine hK.out _ _ kx (fun hHeld => ?_)
            clear hK KK
            try simp only [Act.put, List.setIfInBounds_toArray, List.set_cons_zero, List.set_cons_succ]
            refine wpAnyH_take (i := 10) (oi := ⟨some 79, .nilCheck (.tmp 69), 0, "law.go:130", #[⟨0, .data⟩, ⟨0, .phase⟩, ⟨1, .phase⟩, ⟨2, .phase⟩, ⟨3, .phase⟩, ⟨4, .phase⟩, ⟨5, .phase⟩, ⟨6, .phase⟩, ⟨7, .phase⟩, ⟨8, .phase⟩, ⟨9, .phase⟩], none⟩) (v := (.pointer (some ⟨pb, 0, none⟩))) rfl (by kernel_rfl) (by kernel_rfl) (by kernel_rfl) (fun _ _ _ h => h) (Or.inl ⟨by rfl, fun _ _ => by rfl⟩) hHeld ?_
            simp only [Act.put, List.setIfInBounds_toArray, List.set_cons_zero, List.set_cons_succ]
            refine wpAnyH_take (i := 11) (oi := ⟨some 80, .fieldAddr 71 (.tmp 79) 2, 0, "law.go:130", #[⟨10, .data⟩, ⟨0, .phase⟩, ⟨1, .phase⟩, ⟨2, .phase⟩, ⟨3, .phase⟩, ⟨4, .phase⟩, ⟨5, .phase⟩, ⟨6, .phase⟩, ⟨7, .phase⟩, ⟨8, .phase⟩, ⟨9, .phase⟩], none⟩) (v := (.pointer (some ⟨pb, 4, none⟩))) rfl (by kernel_rfl) (by kernel_rfl) (by kernel_rfl) (fun _ _ _ h => h) (Or.inl ⟨by rfl, fun _ _ => by rfl⟩) hHeld ?_
            simp only [Act.put, List.setIfInBounds_toArray, List.set_cons_zero, List.set_cons_succ]
            refine wpAnyH_ready (rs := [12]) (by kernel_rfl) (by simp) ?_
            refine AllReadyH.cons (o := ⟨none, .store 69 (.tmp 80) (.tmp 78), 0, "law.go:130", #[⟨11, .data⟩, ⟨9, .data⟩, ⟨9, .chain⟩, ⟨0, .phase⟩, ⟨1, .phase⟩, ⟨2, .phase⟩, ⟨3, .phase⟩, ⟨4, .phase⟩, ⟨5, .phase⟩, ⟨6, .phase⟩, ⟨7, .phase⟩, ⟨8, .phase⟩, ⟨9, .phase⟩], none⟩) rfl (fun KK hK => ?_) (AllReadyH.nil)
            go_simp
            refine hK.out _ _ (kx2 _) (fun hHeld => ?_)
            clear hK KK
            try simp only [Act.put, List.setIfInBounds_toArray, List.set_cons_zero, List.set_cons_succ]
            refine wpAnyH_done (by kernel_rfl) ?_ _
            obtain ⟨wl, hwl⟩ : ∃ x, wk.setCell ⟨pb, 4, none⟩ (.slice ba' E' bc') = x := ⟨_, rfl⟩
            rw [hwl]
            have ul : Turns (fun i => i = pb) wk wl := by rw [← hwl]; exact Turns.cell wk pb 4 _
            have zl : wl.heap[pb]? = some (.cells (plC a b (.slice ba' E' bc') st false) 71 (0, 0)) := by rw [← hwl]; exact heap_setCell_same _ _ _ _ _ _ HZk.out
            have hB := HM10.out.booked hk HK3.out HP10.out.da.own HP10.out.da.lb HP10.out.us ul zl (by omega)
            have HB : Hid _ := hB
            clear hB ul zl HK3 HM10 hkp hmk HZk fk ck kx kx2 hwl hHeld
            go_wp2_with fail
            go_ret
            obtain ⟨L', es', he', M11, _⟩ := HB.out
            exact ⟨rfl, L', _, _, es', M11.pl, M11.fr, fun q => by omega⟩
          · go_simp
            refine hmk.mono ?_
            rintro e wm ⟨mm, rfl, rfl⟩
            go_wp2_with fail
            refine hK.out _ _ hHeld (fun hHeld => ?_)
            clear hK KK
            try simp only [Act.put, List.setIfInBounds_toArray, List.set_cons_zero, List.set_cons_succ]
            refine wpAnyH_ready (rs := [4]) (by kernel_rfl) (by simp) ?_
            refine AllReadyH.cons (o := ⟨some 73, .load 69 (.tmp 72), 69, "law.go:130", #[⟨3, .data⟩], none⟩) rfl (fun KK hK => ?_) (AllReadyH.nil)
            go_simp
            refine hK.out _ _ hHeld (fun hHeld => ?_)
            clear hK KK
            try simp only [Act.put, List.setIfInBounds_toArray, List.set_cons_zero, List.set_cons_succ]
            refine wpAnyH_ready (rs := [9]) (by kernel_rfl) (by simp) ?_
            refine AllReadyH.cons (o := ⟨some 78, .call ⟨.value (.func 46), #[.tmp 73, .tmp 75, .tmp 77], #[69, 22, 5]⟩, 69, "law.go:130", #[⟨4, .data⟩, ⟨6, .data⟩, ⟨8, .data⟩, ⟨8, .chain⟩], none⟩) rfl (fun KK hK => ?_) (AllReadyH.nil)
            go_simp
            refine (hkp mm).mono ?_
            rintro e wk ⟨bv', rfl, K3⟩
            have HK3 : Hid (Kept3 _ _ _ _ _ _ _) := K3
            obtain ⟨fs, _, hB, hT⟩ := K3
            obtain ⟨ba', bc', hbv'⟩ := tl_slice hB.row
            generalize (es ++ fs).length = E' at hbv'
            clear hB
            subst hbv'
            have nb : ¬ ((Value.slice ba es.length bc).ownBlock = some pb ∨ (Value.slice ao1 n1 cc1).ownBlock = some pb) := fun q => q.elim (fun r => by have h1 : _ = k + 4 := HM10.out.pl.bk.kb pb r; have h2 := HM10.out.pl.lb; omega) (fun r => by have h1 := HP10.out.da.lb pb r; have h2 := HM10.out.pl.lb; omega)
            have nx : ¬ ((Value.slice ba es.length bc).ownBlock = some b1 ∨ (Value.slice ao1 n1 cc1).ownBlock = some b1) := fun q => q.elim (fun r => by have h1 : _ = k + 4 := HM10.out.pl.bk.kb b1 r; have h2 := HP10.out.hx; omega) (fun r => own_typ HP10.out.da.own HP10.out.hb (by decide) r)
            have zk := (hT.block pb (heap_lt HM10.out.pl.box) nb).trans HM10.out.pl.box
            have zx := (hT.block b1 (heap_lt HP10.out.hb) nx).trans HP10.out.hb
            have fk : wk.frozen? ⟨pb, 4, none⟩ = false := by simp [World.frozen?, zk]
            have ck : wk.cell? ⟨pb, 4, none⟩ = some (.slice ba es.length bc) := by simp [World.cell?, zk]
            have kx : wk.cell? ⟨b1, 1, none⟩ = some (.slice ao1 n1 cc1) := by simp [World.cell?, zx]
            have kx2 : ∀ u, (wk.setCell ⟨pb, 4, none⟩ u).cell? ⟨b1, 1, none⟩ = some (.slice ao1 n1 cc1) := fun u => (World.cell?_setCell_far wk ⟨pb, 4, none⟩ ⟨b1, 1, none⟩ u HNB.out).trans kx
            have HZk : Hid (wk.heap[pb]? = _) := zk
            clear zk zx hT nb nx
            go_wp2_with fail
            refine hK.out _ _ kx (fun hHeld => ?_)
            clear hK KK
            try simp only [Act.put, List.setIfInBounds_toArray, List.set_cons_zero, List.set_cons_succ]
            refine wpAnyH_take (i := 10) (oi := ⟨some 79, .nilCheck (.tmp 69), 0, "law.go:130", #[⟨0, .data⟩, ⟨0, .phase⟩, ⟨1, .phase⟩, ⟨2, .phase⟩, ⟨3, .phase⟩, ⟨4, .phase⟩, ⟨5, .phase⟩, ⟨6, .phase⟩, ⟨7, .phase⟩, ⟨8, .phase⟩, ⟨9, .phase⟩], none⟩) (v := (.pointer (some ⟨pb, 0, none⟩))) rfl (by kernel_rfl) (by kernel_rfl) (by kernel_rfl) (fun _ _ _ h => h) (Or.inl ⟨by rfl, fun _ _ => by rfl⟩) hHeld ?_
            simp only [Act.put, List.setIfInBounds_toArray, List.set_cons_zero, List.set_cons_succ]
            refine wpAnyH_take (i := 11) (oi := ⟨some 80, .fieldAddr 71 (.tmp 79) 2, 0, "law.go:130", #[⟨10, .data⟩, ⟨0, .phase⟩, ⟨1, .phase⟩, ⟨2, .phase⟩, ⟨3, .phase⟩, ⟨4, .phase⟩, ⟨5, .phase⟩, ⟨6, .phase⟩, ⟨7, .phase⟩, ⟨8, .phase⟩, ⟨9, .phase⟩], none⟩) (v := (.pointer (some ⟨pb, 4, none⟩))) rfl (by kernel_rfl) (by kernel_rfl) (by kernel_rfl) (fun _ _ _ h => h) (Or.inl ⟨by rfl, fun _ _ => by rfl⟩) hHeld ?_
            simp only [Act.put, List.setIfInBounds_toArray, List.set_cons_zero, List.set_cons_succ]
            refine wpAnyH_ready (rs := [12]) (by kernel_rfl) (by simp) ?_
            refine AllReadyH.cons (o := ⟨none, .store 69 (.tmp 80) (.tmp 78), 0, "law.go:130", #[⟨11, .data⟩, ⟨9, .data⟩, ⟨9, .chain⟩, ⟨0, .phase⟩, ⟨1, .phase⟩, ⟨2, .phase⟩, ⟨3, .phase⟩, ⟨4, .phase⟩, ⟨5, .phase⟩, ⟨6, .phase⟩, ⟨7, .phase⟩, ⟨8, .phase⟩, ⟨9, .phase⟩], none⟩) rfl (fun KK hK => ?_) (AllReadyH.nil)
            go_simp
            refine hK.out _ _ (kx2 _) (fun hHeld => ?_)
            clear hK KK
            try simp only [Act.put, List.setIfInBounds_toArray, List.set_cons_zero, List.set_cons_succ]
            refine wpAnyH_done (by kernel_rfl) ?_ _
            obtain ⟨wl, hwl⟩ : ∃ x, wk.setCell ⟨pb, 4, none⟩ (.slice ba' E' bc') = x := ⟨_, rfl⟩
            rw [hwl]
            have ul : Turns (fun i => i = pb) wk wl := by rw [← hwl]; exact Turns.cell wk pb 4 _
            have zl : wl.heap[pb]? = some (.cells (plC a b (.slice ba' E' bc') st false) 71 (0, 0)) := by rw [← hwl]; exact heap_setCell_same _ _ _ _ _ _ HZk.out
            have hB := HM10.out.booked hk HK3.out HP10.out.da.own HP10.out.da.lb HP10.out.us ul zl (by omega)
            have HB : Hid _ := hB
            clear hB ul zl HK3 HM10 hkp hmk HZk fk ck kx kx2 hwl hHeld
            go_wp2_with fail
            go_ret
            obtain ⟨L', es', he', M11, _⟩ := HB.out
            exact ⟨rfl, L', _, _, es', M11.pl, M11.fr, fun q => by omega⟩
      · go_simp
        obtain ⟨Wb2, hWb⟩ : ∃ x, (We1.alloc (.cells #[.int .i64 0, .slice none 0 0] 28)).drew = x := ⟨_, rfl⟩
        obtain ⟨Mb, Bb, Fb⟩ := HM6.out.box hk _ hWb.symm
        rw [hWb]
        have x0 := Mb.pl.cell 2 _ rfl
        have x5 := Mb.at 2 (.int .i64 o.no) rfl
        have HNE : Hid (b1 ≠ We1.heap.size) := Nat.ne_of_lt (heap_lt HP1.out.hb)
        have HP1n := Fb.pk HP1.out
        clear HP1
        have HP1 : Hid (Pk w lab _ _ k _ _ _ _) := HP1n
        clear HP1n
        have HMb : Hid (Md w0 w Wb2 lab _ k pb a b _ st lg _ _ es o w.heap.size) := Mb
        have HBb : Hid (Bx w Wb2 _ k We1.heap.size _) := Bb
        clear Mb Bb Fb hWb HM6
        refine hK.out _ _ ⟨x0, x5⟩ (fun hHeld => ?_)
        clear hK KK
        try simp only [Act.put, List.setIfInBounds_toArray, List.set_cons_zero, List.set_cons_succ]
        refine wpAnyH_ready (rs := [8]) (by kernel_rfl) (by simp) ?_
        refine AllReadyH.cons (o := ⟨some 41, .call ⟨.value (.func 22), #[.tmp 38, .tmp 40], #[52, 3]⟩, 60, "law.go:124", #[⟨5, .data⟩, ⟨7, .data⟩], none⟩) rfl (fun KK hK => ?_) (AllReadyH.nil)
        go_simp
        refine (HMb.out.dtake hk hc).mono ?_
        rintro e Wc2 ⟨ao2, n2, cc2, Lc, rfl, Mc, Dc, Fc, Uc⟩
        clear x0 x5
        have x0 := Mc.pl.cell 2 _ rfl
        have x5 := Mc.at 2 (.int .i64 o.no) rfl
        have HBc : Hid (Bx w Wc2 Lc k _ _) := Fc.bx HBb.out
        have HMc : Hid (Md w0 w Wc2 lab Lc k pb a b _ st lg _ _ es o w.heap.size) := Mc
        have HDc : Hid (Da Wc2 Lc (k + 6) _ (.slice ao2 n2 cc2)) := Dc
        have HUc : Hid (Ours w lab k (.slice ao2 n2 cc2)) := Uc
        have HP1n := Fc.pk HP1.out
        clear HP1
        have HP1 : Hid (Pk w lab _ _ k _ _ _ _) := HP1n
        clear HP1n
        clear Mc Dc Fc Uc HMb HBb
        go_wp2_with fail
        refine hK.out _ _ ⟨x0, x5⟩ (fun hHeld => ?_)
        clear hK KK
        try simp only [Act.put, List.setIfInBounds_toArray, List.set_cons_zero, List.set_cons_succ]
        refine wpAnyH_take (i := 9) (oi := ⟨some 32, .move (.tmp 41), 60, "law.go:124", #[⟨8, .data⟩], none⟩) (v := (.tuple #[.agg #[.int .i64 (takeT (S 0) o.no), (.slice ao2 n2 cc2)], .int .i64 (takeE (S 0) o.no)])) rfl (by kernel_rfl) (by kernel_rfl) (by kernel_rfl) (fun _ _ _ h => h) (Or.inl ⟨by rfl, fun _ _ => by rfl⟩) hHeld ?_
        simp only [Act.put, List.setIfInBounds_toArray, List.set_cons_zero, List.set_cons_succ]
        refine wpAnyH_take (i := 10) (oi := ⟨some 42, .extract (.tmp 32) 0, 28, "law.go:124", #[⟨9, .data⟩], none⟩) (v := (.agg #[.int .i64 (takeT (S 0) o.no), (.slice ao2 n2 cc2)])) rfl (by kernel_rfl) (by kernel_rfl) (by kernel_rfl) (fun _ _ _ h => h) (Or.inl ⟨by rfl, fun _ _ => by rfl⟩) hHeld ?_
        simp only [Act.put, List.setIfInBounds_toArray, List.set_cons_zero, List.set_cons_succ]
        refine wpAnyH_take (i := 11) (oi := ⟨some 43, .extract (.tmp 32) 1, 3, "law.go:124", #[⟨9, .data⟩, ⟨13, .gcOnly .lateStores⟩], none⟩) (v := (.int .i64 (takeE (S 0) o.no))) rfl (by kernel_rfl) (by kernel_rfl) (by kernel_rfl) (fun _ _ _ h => h) (Or.inl ⟨by rfl, fun _ _ => by rfl⟩) hHeld ?_
        simp only [Act.put, List.setIfInBounds_toArray, List.set_cons_zero, List.set_cons_succ]
        refine wpAnyH_ready (rs := [13]) (by kernel_rfl) (by simp) ?_
        refine AllReadyH.cons (o := ⟨none, .store 28 (.tmp 9) (.tmp 42), 0, "law.go:124", #[⟨12, .data⟩, ⟨10, .data⟩, ⟨8, .chain⟩, ⟨0, .phase⟩, ⟨1, .phase⟩, ⟨2, .phase⟩, ⟨3, .phase⟩, ⟨4, .phase⟩, ⟨5, .phase⟩, ⟨6, .phase⟩, ⟨7, .phase⟩, ⟨8, .phase⟩, ⟨9, .phase⟩, ⟨10, .phase⟩, ⟨11, .textOnly .lateStores⟩, ⟨12, .phase⟩], none⟩) rfl (fun KK hK => ?_) (AllReadyH.nil)
        clear x0 x5
        have gb := HBc.out.hb
        have g0 : Wc2.cell? ⟨We1.heap.size, 0, none⟩ = some (.int .i64 0) := by simp [World.cell?, gb]
        have g1 : Wc2.cell? ⟨We1.heap.size, 1, none⟩ = some (.slice none 0 0) := by simp [World.cell?, gb]
        have z0 : Wc2.frozen? ⟨We1.heap.size, 0, none⟩ = false := by simp [World.frozen?, gb]
        have z1 : Wc2.frozen? ⟨We1.heap.size, 1, none⟩ = false := by simp [World.frozen?, gb]
        have hS1 := heap_setCell_same Wc2 (We1.heap.size) 0 _ _ (.int .i64 (takeT (S 0) o.no)) gb
        have g1n : (Wc2.setCell ⟨We1.heap.size, 0, none⟩ (.int .i64 (takeT (S 0) o.no))).cell? ⟨We1.heap.size, 1, none⟩ = some (.slice none 0 0) := by simp [World.cell?, hS1]
        have z1n : (Wc2.setCell ⟨We1.heap.size, 0, none⟩ (.int .i64 (takeT (S 0) o.no))).frozen? ⟨We1.heap.size, 1, none⟩ = false := by simp [World.frozen?, hS1]
        clear hS1
        have Hgb : Hid (Wc2.heap[We1.heap.size]? = some (.cells #[.int .i64 0, .slice none 0 0] 28)) := gb
        clear gb
        go_simp
        obtain ⟨We2, hWe⟩ : ∃ y, (Wc2.setCell ⟨We1.heap.size, 0, none⟩ (.int .i64 (takeT (S 0) o.no))).setCell ⟨We1.heap.size, 1, none⟩ (.slice ao2 n2 cc2) = y := ⟨_, rfl⟩
        rw [hWe]
        have tE : Turns (fun i => i = We1.heap.size) Wc2 We2 := by rw [← hWe]; exact (Turns.cell Wc2 (We1.heap.size) 0 _).trans (Turns.cell _ (We1.heap.size) 1 _) (fun _ _ q => q)
        have hE : We2.heap[We1.heap.size]? = some (.cells #[.int .i64 (takeT (S 0) o.no), (.slice ao2 n2 cc2)] 28) := by rw [← hWe]; exact heap_setCell_same _ _ _ _ _ _ (heap_setCell_same _ _ _ _ _ _ Hgb.out)
        obtain ⟨Me, Pe⟩ := HMc.out.stored hk HDc.out HUc.out HBc.out tE hE
        have HP1n := HP1.out.stays HBc.out HNE.out tE
        clear HP1
        have HP1 : Hid (Pk w lab _ _ k _ _ _ _) := HP1n
        clear HP1n
        clear g0 g1 z0 z1 g1n z1n Hgb tE hE hWe HMc HDc HUc HBc HNE
        have x0 := Me.pl.cell 2 _ rfl
        have x5 := Me.at 2 (.int .i64 o.no) rfl
        have HMe : Hid (Md w0 w We2 lab _ k pb a b _ st lg _ _ es o w.heap.size) := Me
        have HPe : Hid (Pk w lab We2 _ k (We1.heap.size) _ _ (.slice ao2 n2 cc2)) := Pe
        clear Me Pe
        refine hK.out _ _ ⟨x0, x5⟩ (fun hHeld => ?_)
        clear hK KK
        try simp only [Act.put, List.setIfInBounds_toArray, List.set_cons_zero, List.set_cons_succ]
        refine wpAnyH_take (i := 14) (oi := ⟨some 10, .assign (.tmp 43), 3, "law.go:124", #[⟨11, .data⟩, ⟨13, .chain⟩, ⟨0, .phase⟩, ⟨1, .phase⟩, ⟨2, .phase⟩, ⟨3, .phase⟩, ⟨4, .phase⟩, ⟨5, .phase⟩, ⟨6, .phase⟩, ⟨7, .phase⟩, ⟨8, .phase⟩, ⟨9, .phase⟩, ⟨10, .phase⟩, ⟨11, .phase⟩, ⟨12, .phase⟩, ⟨13, .phase⟩], none⟩) (v := (.int .i64 (takeE (S 0) o.no))) rfl (by kernel_rfl) (by kernel_rfl) (by kernel_rfl) (fun _ _ _ h => h) (Or.inl ⟨by rfl, fun _ _ => by rfl⟩) hHeld ?_
        simp only [Act.put, List.setIfInBounds_toArray, List.set_cons_zero, List.set_cons_succ]
        refine wpAnyH_done (by kernel_rfl) ?_ _
        clear x0 x5
        have HP2 := HPe
        clear HPe
        generalize We1.heap.size = b2 at HP2 ⊢
        have k1 := HP1.out.c1
        have m1 := HP2.out.c1
        have hs := same_any ao1 ao2 n1 n2 cc1 cc2 (takeD (S 0) o.no) (takeD (S 0) o.no) We2 (by have := HP1.out.da.len; have := HP1.out.da.len_eq; omega) (HP1.out.da.lies HP1.out.da.len_eq) (HP2.out.da.lies HP2.out.da.len_eq)
        go_wp2_with fail
        refine hs.mono ?_
        rintro e w9 ⟨rfl, m9, hw9⟩
        have b9 : Below We2.heap.size We2 w9 := by rw [hw9]; exact below_drewN We2 m9
        have M9 := HMe.out.below hk b9
        have P9 := (Fr.below (k := k) b9 (k + 6)).pk HP1.out
        have Q9 := (Fr.below (k := k) b9 (k + 6)).pk HP2.out
        clear k1 m1 hs hw9 HP1 HP2 HMe
        have k0 := P9.c0
        have k1 := P9.c1
        have m0 := Q9.c0
        have p6 := M9.pl.cell 6 _ rfl
        have p4 := M9.pl.cell 4 _ rfl
        have HM9 : Hid (Md w0 w w9 lab _ k pb a b (.slice ba es.length bc) st lg _ _ es o w.heap.size) := M9
        have HP9 : Hid (Pk w lab w9 _ k b1 _ _ _) := P9
        have hdd : decide (takeD (S 0) o.no = takeD (S 0) o.no) = true := decide_eq_true rfl
        have hbb : (takeE (S 0) o.no == takeE (S 0) o.no) = true := by simp
        have htt : (takeT (S 0) o.no == takeT (S 0) o.no) = true := by simp
        clear M9 P9 Q9 b9
        cases lg with
        | true =>
          go_wp2_with (first | (go_at_call 13; refine (num_any _ _).mono ?_; rintro e w8 ⟨rfl, rfl⟩) | fail)
          go_ret
          exact ⟨rfl, _, _, _, _, HM9.out.pl, HM9.out.fr, fun q => by omega⟩
        | false =>
          go_wp2_with (first | (go_at_call 13; refine (num_any _ _).mono ?_; rintro e w8 ⟨rfl, rfl⟩) | fail)
          have M10 := HM9.out.below hk (below_drewN w8 1)
          have P10 := (Fr.below (k := k) (below_drewN w8 1) (k + 6)).pk HP9.out
          have hnb : pb ≠ b1 := fun q => by have h1 := M10.pl.lb; have h2 := P10.hx; rw [← q] at h2; omega
          have HNB : Hid (pb ≠ b1) := hnb
          have hmk := mark_any M10.pl 1
          have hln : n1 ≤ 4096 := by have h1 := P10.da.len_eq; have h2 := HSh.out (by first | rfl | trivial); omega
          have hkp := fun m => keep_any M10.pl.bk (.slice ao1 n1 cc1) _ _ P10.da.own (fun i q r => by have h1 := P10.da.lb i q; have h2 : _ = k + 4 := r; omega) (by have h1 := P10.da.len_eq; omega) (by omega) m
          have HM10 : Hid (Md w0 w (w8.drewN 1) lab _ k pb a b (.slice ba es.length bc) st false _ _ es o w.heap.size) := M10
          have HP10 : Hid (Pk w lab (w8.drewN 1) _ k b1 _ _ (.slice ao1 n1 cc1)) := P10
          clear M10 P10 hnb HM9 HP9 k0 m0 p6
          refine wp_region_held_drew (S := fun w' => w'.cell? ⟨b1, 1, none⟩ = some (.slice ao1 n1 cc1)) (by kernel_rfl) k1 (fun hHeld => ?_)
          refine wpAnyH_take (i := 0) (oi := ⟨some 69, .move (.tmp 0), 66, "law.go:130", #[], none⟩) (v := (.pointer (some ⟨pb, 0, none⟩))) rfl (by kernel_rfl) (by kernel_rfl) (by kernel_rfl) (fun _ _ _ h => h) (Or.inl ⟨by rfl, fun _ _ => by rfl⟩) hHeld ?_
          simp only [Act.put, List.setIfInBounds_toArray, List.set_cons_zero, List.set_cons_succ]
          refine wpAnyH_take (i := 1) (oi := ⟨some 70, .move (.tmp 0), 66, "law.go:130", #[], none⟩) (v := (.pointer (some ⟨pb, 0, none⟩))) rfl (by kernel_rfl) (by kernel_rfl) (by kernel_rfl) (fun _ _ _ h => h) (Or.inl ⟨by rfl, fun _ _ => by rfl⟩) hHeld ?_
          simp only [Act.put, List.setIfInBounds_toArray, List.set_cons_zero, List.set_cons_succ]
          refine wpAnyH_take (i := 2) (oi := ⟨some 71, .nilCheck (.tmp 70), 0, "law.go:130", #[⟨1, .data⟩], none⟩) (v := (.pointer (some ⟨pb, 0, none⟩))) rfl (by kernel_rfl) (by kernel_rfl) (by kernel_rfl) (fun _ _ _ h => h) (Or.inl ⟨by rfl, fun _ _ => by rfl⟩) hHeld ?_
          simp only [Act.put, List.setIfInBounds_toArray, List.set_cons_zero, List.set_cons_succ]
          refine wpAnyH_take (i := 3) (oi := ⟨some 72, .fieldAddr 71 (.tmp 71) 2, 0, "law.go:130", #[⟨2, .data⟩], none⟩) (v := (.pointer (some ⟨pb, 4, none⟩))) rfl (by kernel_rfl) (by kernel_rfl) (by kernel_rfl) (fun _ _ _ h => h) (Or.inl ⟨by rfl, fun _ _ => by rfl⟩) hHeld ?_
          simp only [Act.put, List.setIfInBounds_toArray, List.set_cons_zero, List.set_cons_succ]
          refine wpAnyH_take (i := 5) (oi := ⟨some 74, .fieldAddr 28 (.tmp 7) 1, 0, "law.go:130", #[], none⟩) (v := (.pointer (some ⟨b1, 1, none⟩))) rfl (by kernel_rfl) (by kernel_rfl) (by kernel_rfl) (fun _ _ _ h => h) (Or.inl ⟨by rfl, fun _ _ => by rfl⟩) hHeld ?_
          simp only [Act.put, List.setIfInBounds_toArray, List.set_cons_zero, List.set_cons_succ]
          refine wpAnyH_take (i := 6) (oi := ⟨some 75, .load 22 (.tmp 74), 22, "law.go:130", #[⟨5, .data⟩], none⟩) (v := (.slice ao1 n1 cc1)) rfl (by kernel_rfl) (by kernel_rfl) (by kernel_rfl) (fun _ _ _ h => h) (Or.inl ⟨by rfl, fun w' h' => by unfold execOp; go_simp⟩) hHeld ?_
          simp only [Act.put, List.setIfInBounds_toArray, List.set_cons_zero, List.set_cons_succ]
          refine wpAnyH_take (i := 7) (oi := ⟨some 76, .move (.tmp 0), 66, "law.go:130", #[], none⟩) (v := (.pointer (some ⟨pb, 0, none⟩))) rfl (by kernel_rfl) (by kernel_rfl) (by kernel_rfl) (fun _ _ _ h => h) (Or.inl ⟨by rfl, fun _ _ => by rfl⟩) hHeld ?_
          simp only [Act.put, List.setIfInBounds_toArray, List.set_cons_zero, List.set_cons_succ]
          refine wpAnyH_ready (rs := [4, 8]) (by kernel_rfl) (by simp) ?_
          refine AllReadyH.cons (o := ⟨some 73, .load 69 (.tmp 72), 69, "law.go:130", #[⟨3, .data⟩], none⟩) rfl (fun KK hK => ?_) (AllReadyH.cons (o := ⟨some 77, .call ⟨.value (.func 47), #[.tmp 76, .const (.int .i64 1)], #[66, 3]⟩, 5, "law.go:130", #[⟨7, .data⟩], none⟩) rfl (fun KK hK => ?_) (AllReadyH.nil))
          · go_simp
            refine hK.out _ _ hHeld (fun hHeld => ?_)
            clear hK KK
            try simp only [Act.put, List.setIfInBounds_toArray, List.set_cons_zero, List.set_cons_succ]
            refine wpAnyH_ready (rs := [8]) (by kernel_rfl) (by simp) ?_
            refine AllReadyH.cons (o := ⟨some 77, .call ⟨.value (.func 47), #[.tmp 76, .const (.int .i64 1)], #[66, 3]⟩, 5, "law.go:130", #[⟨7, .data⟩], none⟩) rfl (fun KK hK => ?_) (AllReadyH.nil)
            go_simp
            refine hmk.mono ?_
            rintro e wm ⟨mm, rfl, rfl⟩
            go_wp2_with fail
            refine hK.out _ _ hHeld (fun hHeld => ?_)
            clear hK KK
            try simp only [Act.put, List.setIfInBounds_toArray, List.set_cons_zero, List.set_cons_succ]
            refine wpAnyH_ready (rs := [9]) (by kernel_rfl) (by simp) ?_
            refine AllReadyH.cons (o := ⟨some 78, .call ⟨.value (.func 46), #[.tmp 73, .tmp 75, .tmp 77], #[69, 22, 5]⟩, 69, "law.go:130", #[⟨4, .data⟩, ⟨6, .data⟩, ⟨8, .data⟩, ⟨8, .chain⟩], none⟩) rfl (fun KK hK => ?_) (AllReadyH.nil)
            go_simp
            refine (hkp mm).mono ?_
            rintro e wk ⟨bv', rfl, K3⟩
            have HK3 : Hid (Kept3 _ _ _ _ _ _ _) := K3
            obtain ⟨fs, _, hB, hT⟩ := K3
            obtain ⟨ba', bc', hbv'⟩ := tl_slice hB.row
            generalize (es ++ fs).length = E' at hbv'
            clear hB
            subst hbv'
            have nb : ¬ ((Value.slice ba es.length bc).ownBlock = some pb ∨ (Value.slice ao1 n1 cc1).ownBlock = some pb) := fun q => q.elim (fun r => by have h1 : _ = k + 4 := HM10.out.pl.bk.kb pb r; have h2 := HM10.out.pl.lb; omega) (fun r => by have h1 := HP10.out.da.lb pb r; have h2 := HM10.out.pl.lb; omega)
            have nx : ¬ ((Value.slice ba es.length bc).ownBlock = some b1 ∨ (Value.slice ao1 n1 cc1).ownBlock = some b1) := fun q => q.elim (fun r => by have h1 : _ = k + 4 := HM10.out.pl.bk.kb b1 r; have h2 := HP10.out.hx; omega) (fun r => own_typ HP10.out.da.own HP10.out.hb (by decide) r)
            have zk := (hT.block pb (heap_lt HM10.out.pl.box) nb).trans HM10.out.pl.box
            have zx := (hT.block b1 (heap_lt HP10.out.hb) nx).trans HP10.out.hb
            have fk : wk.frozen? ⟨pb, 4, none⟩ = false := by simp [World.frozen?, zk]
            have ck : wk.cell? ⟨pb, 4, none⟩ = some (.slice ba es.length bc) := by simp [World.cell?, zk]
            have kx : wk.cell? ⟨b1, 1, none⟩ = some (.slice ao1 n1 cc1) := by simp [World.cell?, zx]
            have kx2 : ∀ u, (wk.setCell ⟨pb, 4, none⟩ u).cell? ⟨b1, 1, none⟩ = some (.slice ao1 n1 cc1) := fun u => (World.cell?_setCell_far wk ⟨pb, 4, none⟩ ⟨b1, 1, none⟩ u HNB.out).trans kx
            have HZk : Hid (wk.heap[pb]? = _) := zk
            clear zk zx hT nb nx
            go_wp2_with fail
            refine hK.out _ _ kx (fun hHeld => ?_)
            clear hK KK
            try simp only [Act.put, List.setIfInBounds_toArray, List.set_cons_zero, List.set_cons_succ]
            refine wpAnyH_take (i := 10) (oi := ⟨some 79, .nilCheck (.tmp 69), 0, "law.go:130", #[⟨0, .data⟩, ⟨0, .phase⟩, ⟨1, .phase⟩, ⟨2, .phase⟩, ⟨3, .phase⟩, ⟨4, .phase⟩, ⟨5, .phase⟩, ⟨6, .phase⟩, ⟨7, .phase⟩, ⟨8, .phase⟩, ⟨9, .phase⟩], none⟩) (v := (.pointer (some ⟨pb, 0, none⟩))) rfl (by kernel_rfl) (by kernel_rfl) (by kernel_rfl) (fun _ _ _ h => h) (Or.inl ⟨by rfl, fun _ _ => by rfl⟩) hHeld ?_
            simp only [Act.put, List.setIfInBounds_toArray, List.set_cons_zero, List.set_cons_succ]
            refine wpAnyH_take (i := 11) (oi := ⟨some 80, .fieldAddr 71 (.tmp 79) 2, 0, "law.go:130", #[⟨10, .data⟩, ⟨0, .phase⟩, ⟨1, .phase⟩, ⟨2, .phase⟩, ⟨3, .phase⟩, ⟨4, .phase⟩, ⟨5, .phase⟩, ⟨6, .phase⟩, ⟨7, .phase⟩, ⟨8, .phase⟩, ⟨9, .phase⟩], none⟩) (v := (.pointer (some ⟨pb, 4, none⟩))) rfl (by kernel_rfl) (by kernel_rfl) (by kernel_rfl) (fun _ _ _ h => h) (Or.inl ⟨by rfl, fun _ _ => by rfl⟩) hHeld ?_
            simp only [Act.put, List.setIfInBounds_toArray, List.set_cons_zero, List.set_cons_succ]
            refine wpAnyH_ready (rs := [12]) (by kernel_rfl) (by simp) ?_
            refine AllReadyH.cons (o := ⟨none, .store 69 (.tmp 80) (.tmp 78), 0, "law.go:130", #[⟨11, .data⟩, ⟨9, .data⟩, ⟨9, .chain⟩, ⟨0, .phase⟩, ⟨1, .phase⟩, ⟨2, .phase⟩, ⟨3, .phase⟩, ⟨4, .phase⟩, ⟨5, .phase⟩, ⟨6, .phase⟩, ⟨7, .phase⟩, ⟨8, .phase⟩, ⟨9, .phase⟩], none⟩) rfl (fun KK hK => ?_) (AllReadyH.nil)
            go_simp
            refine hK.out _ _ (kx2 _) (fun hHeld => ?_)
            clear hK KK
            try simp only [Act.put, List.setIfInBounds_toArray, List.set_cons_zero, List.set_cons_succ]
            refine wpAnyH_done (by kernel_rfl) ?_ _
            obtain ⟨wl, hwl⟩ : ∃ x, wk.setCell ⟨pb, 4, none⟩ (.slice ba' E' bc') = x := ⟨_, rfl⟩
            rw [hwl]
            have ul : Turns (fun i => i = pb) wk wl := by rw [← hwl]; exact Turns.cell wk pb 4 _
            have zl : wl.heap[pb]? = some (.cells (plC a b (.slice ba' E' bc') st false) 71 (0, 0)) := by rw [← hwl]; exact heap_setCell_same _ _ _ _ _ _ HZk.out
            have hB := HM10.out.booked hk HK3.out HP10.out.da.own HP10.out.da.lb HP10.out.us ul zl (by omega)
            have HB : Hid _ := hB
            clear hB ul zl HK3 HM10 hkp hmk HZk fk ck kx kx2 hwl hHeld
            go_wp2_with fail
            go_ret
            obtain ⟨L', es', he', M11, _⟩ := HB.out
            exact ⟨rfl, L', _, _, es', M11.pl, M11.fr, fun q => by omega⟩
          · go_simp
            refine hmk.mono ?_
            rintro e wm ⟨mm, rfl, rfl⟩
            go_wp2_with fail
            refine hK.out _ _ hHeld (fun hHeld => ?_)
            clear hK KK
            try simp only [Act.put, List.setIfInBounds_toArray, List.set_cons_zero, List.set_cons_succ]
            refine wpAnyH_ready (rs := [4]) (by kernel_rfl) (by simp) ?_
            refine AllReadyH.cons (o := ⟨some 73, .load 69 (.tmp 72), 69, "law.go:130", #[⟨3, .data⟩], none⟩) rfl (fun KK hK => ?_) (AllReadyH.nil)
            go_simp
            refine hK.out _ _ hHeld (fun hHeld => ?_)
            clear hK KK
            try simp only [Act.put, List.setIfInBounds_toArray, List.set_cons_zero, List.set_cons_succ]
            refine wpAnyH_ready (rs := [9]) (by kernel_rfl) (by simp) ?_
            refine AllReadyH.cons (o := ⟨some 78, .call ⟨.value (.func 46), #[.tmp 73, .tmp 75, .tmp 77], #[69, 22, 5]⟩, 69, "law.go:130", #[⟨4, .data⟩, ⟨6, .data⟩, ⟨8, .data⟩, ⟨8, .chain⟩], none⟩) rfl (fun KK hK => ?_) (AllReadyH.nil)
            go_simp
            refine (hkp mm).mono ?_
            rintro e wk ⟨bv', rfl, K3⟩
            have HK3 : Hid (Kept3 _ _ _ _ _ _ _) := K3
            obtain ⟨fs, _, hB, hT⟩ := K3
            obtain ⟨ba', bc', hbv'⟩ := tl_slice hB.row
            generalize (es ++ fs).length = E' at hbv'
            clear hB
            subst hbv'
            have nb : ¬ ((Value.slice ba es.length bc).ownBlock = some pb ∨ (Value.slice ao1 n1 cc1).ownBlock = some pb) := fun q => q.elim (fun r => by have h1 : _ = k + 4 := HM10.out.pl.bk.kb pb r; have h2 := HM10.out.pl.lb; omega) (fun r => by have h1 := HP10.out.da.lb pb r; have h2 := HM10.out.pl.lb; omega)
            have nx : ¬ ((Value.slice ba es.length bc).ownBlock = some b1 ∨ (Value.slice ao1 n1 cc1).ownBlock = some b1) := fun q => q.elim (fun r => by have h1 : _ = k + 4 := HM10.out.pl.bk.kb b1 r; have h2 := HP10.out.hx; omega) (fun r => own_typ HP10.out.da.own HP10.out.hb (by decide) r)
            have zk := (hT.block pb (heap_lt HM10.out.pl.box) nb).trans HM10.out.pl.box
            have zx := (hT.block b1 (heap_lt HP10.out.hb) nx).trans HP10.out.hb
            have fk : wk.frozen? ⟨pb, 4, none⟩ = false := by simp [World.frozen?, zk]
            have ck : wk.cell? ⟨pb, 4, none⟩ = some (.slice ba es.length bc) := by simp [World.cell?, zk]
            have kx : wk.cell? ⟨b1, 1, none⟩ = some (.slice ao1 n1 cc1) := by simp [World.cell?, zx]
            have kx2 : ∀ u, (wk.setCell ⟨pb, 4, none⟩ u).cell? ⟨b1, 1, none⟩ = some (.slice ao1 n1 cc1) := fun u => (World.cell?_setCell_far wk ⟨pb, 4, none⟩ ⟨b1, 1, none⟩ u HNB.out).trans kx
            have HZk : Hid (wk.heap[pb]? = _) := zk
            clear zk zx hT nb nx
            go_wp2_with fail
            refine hK.out _ _ kx (fun hHeld => ?_)
            clear hK KK
            try simp only [Act.put, List.setIfInBounds_toArray, List.set_cons_zero, List.set_cons_succ]
            refine wpAnyH_take (i := 10) (oi := ⟨some 79, .nilCheck (.tmp 69), 0, "law.go:130", #[⟨0, .data⟩, ⟨0, .phase⟩, ⟨1, .phase⟩, ⟨2, .phase⟩, ⟨3, .phase⟩, ⟨4, .phase⟩, ⟨5, .phase⟩, ⟨6, .phase⟩, ⟨7, .phase⟩, ⟨8, .phase⟩, ⟨9, .phase⟩], none⟩) (v := (.pointer (some ⟨pb, 0, none⟩))) rfl (by kernel_rfl) (by kernel_rfl) (by kernel_rfl) (fun _ _ _ h => h) (Or.inl ⟨by rfl, fun _ _ => by rfl⟩) hHeld ?_
            simp only [Act.put, List.setIfInBounds_toArray, List.set_cons_zero, List.set_cons_succ]
            refine wpAnyH_take (i := 11) (oi := ⟨some 80, .fieldAddr 71 (.tmp 79) 2, 0, "law.go:130", #[⟨10, .data⟩, ⟨0, .phase⟩, ⟨1, .phase⟩, ⟨2, .phase⟩, ⟨3, .phase⟩, ⟨4, .phase⟩, ⟨5, .phase⟩, ⟨6, .phase⟩, ⟨7, .phase⟩, ⟨8, .phase⟩, ⟨9, .phase⟩], none⟩) (v := (.pointer (some ⟨pb, 4, none⟩))) rfl (by kernel_rfl) (by kernel_rfl) (by kernel_rfl) (fun _ _ _ h => h) (Or.inl ⟨by rfl, fun _ _ => by rfl⟩) hHeld ?_
            simp only [Act.put, List.setIfInBounds_toArray, List.set_cons_zero, List.set_cons_succ]
            refine wpAnyH_ready (rs := [12]) (by kernel_rfl) (by simp) ?_
            refine AllReadyH.cons (o := ⟨none, .store 69 (.tmp 80) (.tmp 78), 0, "law.go:130", #[⟨11, .data⟩, ⟨9, .data⟩, ⟨9, .chain⟩, ⟨0, .phase⟩, ⟨1, .phase⟩, ⟨2, .phase⟩, ⟨3, .phase⟩, ⟨4, .phase⟩, ⟨5, .phase⟩, ⟨6, .phase⟩, ⟨7, .phase⟩, ⟨8, .phase⟩, ⟨9, .phase⟩], none⟩) rfl (fun KK hK => ?_) (AllReadyH.nil)
            go_simp
            refine hK.out _ _ (kx2 _) (fun hHeld => ?_)
            clear hK KK
            try simp only [Act.put, List.setIfInBounds_toArray, List.set_cons_zero, List.set_cons_succ]
            refine wpAnyH_done (by kernel_rfl) ?_ _
            obtain ⟨wl, hwl⟩ : ∃ x, wk.setCell ⟨pb, 4, none⟩ (.slice ba' E' bc') = x := ⟨_, rfl⟩
            rw [hwl]
            have ul : Turns (fun i => i = pb) wk wl := by rw [← hwl]; exact Turns.cell wk pb 4 _
            have zl : wl.heap[pb]? = some (.cells (plC a b (.slice ba' E' bc') st false) 71 (0, 0)) := by rw [← hwl]; exact heap_setCell_same _ _ _ _ _ _ HZk.out
            have hB := HM10.out.booked hk HK3.out HP10.out.da.own HP10.out.da.lb HP10.out.us ul zl (by omega)
            have HB : Hid _ := hB
            clear hB ul zl HK3 HM10 hkp hmk HZk fk ck kx kx2 hwl hHeld
            go_wp2_with fail
            go_ret
            obtain ⟨L', es', he', M11, _⟩ := HB.out
            exact ⟨rfl, L', _, _, es', M11.pl, M11.fr, fun q => by omega⟩
    · go_simp
      obtain ⟨Wb1, hWb⟩ : ∃ x, (W1.alloc (.cells #[.int .i64 0, .slice none 0 0] 28)).drew = x := ⟨_, rfl⟩
      obtain ⟨Mb, Bb, Fb⟩ := HM2.out.box hk _ hWb.symm
      rw [hWb]
      have x0 := Mb.pl.cell 0 _ rfl
      have x5 := Mb.at 2 (.int .i64 o.no) rfl
      have HMb : Hid (Md w0 w Wb1 lab _ k pb a b _ st lg _ _ es o w.heap.size) := Mb
      have HBb : Hid (Bx w Wb1 _ k W1.heap.size _) := Bb
      clear Mb Bb Fb hWb HM2
      refine hK.out _ _ ⟨x0, x5⟩ (fun hHeld => ?_)
      clear hK KK
      try simp only [Act.put, List.setIfInBounds_toArray, List.set_cons_zero, List.set_cons_succ]
      refine wpAnyH_ready (rs := [8]) (by kernel_rfl) (by simp) ?_
      refine AllReadyH.cons (o := ⟨some 29, .call ⟨.value (.func 16), #[.tmp 26, .tmp 28], #[24, 3]⟩, 38, "law.go:123", #[⟨5, .data⟩, ⟨7, .data⟩], none⟩) rfl (fun KK hK => ?_) (AllReadyH.nil)
      go_simp
      refine (HMb.out.take hk hc hno).mono ?_
      rintro e Wc1 ⟨ao1, n1, cc1, Lc, rfl, Mc, Dc, Fc, Uc⟩
      clear x0 x5
      have x0 := Mc.pl.cell 0 _ rfl
      have x5 := Mc.at 2 (.int .i64 o.no) rfl
      have HBc : Hid (Bx w Wc1 Lc k _ _) := Fc.bx HBb.out
      have HMc : Hid (Md w0 w Wc1 lab Lc k pb a b _ st lg _ _ es o w.heap.size) := Mc
      have HDc : Hid (Da Wc1 Lc (k + 6) _ (.slice ao1 n1 cc1)) := Dc
      have HUc : Hid (Ours w lab k (.slice ao1 n1 cc1)) := Uc
      clear Mc Dc Fc Uc HMb HBb
      go_wp2_with fail
      refine hK.out _ _ ⟨x0, x5⟩ (fun hHeld => ?_)
      clear hK KK
      try simp only [Act.put, List.setIfInBounds_toArray, List.set_cons_zero, List.set_cons_succ]
      refine wpAnyH_take (i := 9) (oi := ⟨some 20, .move (.tmp 29), 38, "law.go:123", #[⟨8, .data⟩], none⟩) (v := (.tuple #[.agg #[.int .i64 (takeT (S 0) o.no), (.slice ao1 n1 cc1)], .int .i64 (takeE (S 0) o.no)])) rfl (by kernel_rfl) (by kernel_rfl) (by kernel_rfl) (fun _ _ _ h => h) (Or.inl ⟨by rfl, fun _ _ => by rfl⟩) hHeld ?_
      simp only [Act.put, List.setIfInBounds_toArray, List.set_cons_zero, List.set_cons_succ]
      refine wpAnyH_take (i := 10) (oi := ⟨some 30, .extract (.tmp 20) 0, 28, "law.go:123", #[⟨9, .data⟩], none⟩) (v := (.agg #[.int .i64 (takeT (S 0) o.no), (.slice ao1 n1 cc1)])) rfl (by kernel_rfl) (by kernel_rfl) (by kernel_rfl) (fun _ _ _ h => h) (Or.inl ⟨by rfl, fun _ _ => by rfl⟩) hHeld ?_
      simp only [Act.put, List.setIfInBounds_toArray, List.set_cons_zero, List.set_cons_succ]
      refine wpAnyH_take (i := 11) (oi := ⟨some 31, .extract (.tmp 20) 1, 29, "law.go:123", #[⟨9, .data⟩, ⟨13, .gcOnly .lateStores⟩], none⟩) (v := (.int .i64 (takeE (S 0) o.no))) rfl (by kernel_rfl) (by kernel_rfl) (by kernel_rfl) (fun _ _ _ h => h) (Or.inl ⟨by rfl, fun _ _ => by rfl⟩) hHeld ?_
      simp only [Act.put, List.setIfInBounds_toArray, List.set_cons_zero, List.set_cons_succ]
      refine wpAnyH_ready (rs := [13]) (by kernel_rfl) (by simp) ?_
      refine AllReadyH.cons (o := ⟨none, .store 28 (.tmp 7) (.tmp 30), 0, "law.go:123", #[⟨12, .data⟩, ⟨10, .data⟩, ⟨8, .chain⟩, ⟨0, .phase⟩, ⟨1, .phase⟩, ⟨2, .phase⟩, ⟨3, .phase⟩, ⟨4, .phase⟩, ⟨5, .phase⟩, ⟨6, .phase⟩, ⟨7, .phase⟩, ⟨8, .phase⟩, ⟨9, .phase⟩, ⟨10, .phase⟩, ⟨11, .textOnly .lateStores⟩, ⟨12, .phase⟩], none⟩) rfl (fun KK hK => ?_) (AllReadyH.nil)
      clear x0 x5
      have gb := HBc.out.hb
      have g0 : Wc1.cell? ⟨W1.heap.size, 0, none⟩ = some (.int .i64 0) := by simp [World.cell?, gb]
      have g1 : Wc1.cell? ⟨W1.heap.size, 1, none⟩ = some (.slice none 0 0) := by simp [World.cell?, gb]
      have z0 : Wc1.frozen? ⟨W1.heap.size, 0, none⟩ = false := by simp [World.frozen?, gb]
      have z1 : Wc1.frozen? ⟨W1.heap.size, 1, none⟩ = false := by simp [World.frozen?, gb]
      have hS1 := heap_setCell_same Wc1 (W1.heap.size) 0 _ _ (.int .i64 (takeT (S 0) o.no)) gb
      have g1n : (Wc1.setCell ⟨W1.heap.size, 0, none⟩ (.int .i64 (takeT (S 0) o.no))).cell? ⟨W1.heap.size, 1, none⟩ = some (.slice none 0 0) := by simp [World.cell?, hS1]
      have z1n : (Wc1.setCell ⟨W1.heap.size, 0, none⟩ (.int .i64 (takeT (S 0) o.no))).frozen? ⟨W1.heap.size, 1, none⟩ = false := by simp [World.frozen?, hS1]
      clear hS1
      have Hgb : Hid (Wc1.heap[W1.heap.size]? = some (.cells #[.int .i64 0, .slice none 0 0] 28)) := gb
      clear gb
      go_simp
      obtain ⟨We1, hWe⟩ : ∃ y, (Wc1.setCell ⟨W1.heap.size, 0, none⟩ (.int .i64 (takeT (S 0) o.no))).setCell ⟨W1.heap.size, 1, none⟩ (.slice ao1 n1 cc1) = y := ⟨_, rfl⟩
      rw [hWe]
      have tE : Turns (fun i => i = W1.heap.size) Wc1 We1 := by rw [← hWe]; exact (Turns.cell Wc1 (W1.heap.size) 0 _).trans (Turns.cell _ (W1.heap.size) 1 _) (fun _ _ q => q)
      have hE : We1.heap[W1.heap.size]? = some (.cells #[.int .i64 (takeT (S 0) o.no), (.slice ao1 n1 cc1)] 28) := by rw [← hWe]; exact heap_setCell_same _ _ _ _ _ _ (heap_setCell_same _ _ _ _ _ _ Hgb.out)
      obtain ⟨Me, Pe⟩ := HMc.out.stored hk HDc.out HUc.out HBc.out tE hE
      clear g0 g1 z0 z1 g1n z1n Hgb tE hE hWe HMc HDc HUc HBc
      have x0 := Me.pl.cell 0 _ rfl
      have x5 := Me.at 2 (.int .i64 o.no) rfl
      have HMe : Hid (Md w0 w We1 lab _ k pb a b _ st lg _ _ es o w.heap.size) := Me
      have HPe : Hid (Pk w lab We1 _ k (W1.heap.size) _ _ (.slice ao1 n1 cc1)) := Pe
      clear Me Pe
      refine hK.out _ _ ⟨x0, x5⟩ (fun hHeld => ?_)
      clear hK KK
      try simp only [Act.put, List.setIfInBounds_toArray, List.set_cons_zero, List.set_cons_succ]
      refine wpAnyH_take (i := 14) (oi := ⟨some 8, .assign (.tmp 31), 29, "law.go:123", #[⟨11, .data⟩, ⟨13, .chain⟩, ⟨0, .phase⟩, ⟨1, .phase⟩, ⟨2, .phase⟩, ⟨3, .phase⟩, ⟨4, .phase⟩, ⟨5, .phase⟩, ⟨6, .phase⟩, ⟨7, .phase⟩, ⟨8, .phase⟩, ⟨9, .phase⟩, ⟨10, .phase⟩, ⟨11, .phase⟩, ⟨12, .phase⟩, ⟨13, .phase⟩], none⟩) (v := (.int .i64 (takeE (S 0) o.no))) rfl (by kernel_rfl) (by kernel_rfl) (by kernel_rfl) (fun _ _ _ h => h) (Or.inl ⟨by rfl, fun _ _ => by rfl⟩) hHeld ?_
      simp only [Act.put, List.setIfInBounds_toArray, List.set_cons_zero, List.set_cons_succ]
      refine wpAnyH_done (by kernel_rfl) ?_ _
      clear x0 x5
      have HP1 := HPe
      clear HPe
      generalize W1.heap.size = b1 at HP1 ⊢
      have M6 := HMe.out.below hk (below_drewN We1 1)
      have HP1n := (Fr.below (k := k) (below_drewN We1 1) (k + 6)).pk HP1.out
      clear HP1
      have HP1 : Hid (Pk w lab _ _ k b1 _ _ _) := HP1n
      have y2 := HMe.out.pl.cell 2 _ rfl
      have y5 := HMe.out.at 2 (.int .i64 o.no) rfl
      have HM6 : Hid (Md w0 w (We1.drewN 1) lab _ k pb a b _ st lg _ _ es o w.heap.size) := M6
      clear M6 HMe HP1n
      go_wp2_with fail
      refine wp_region_held_drew (S := fun w' => w'.cell? ⟨pb, 2, none⟩ = some (.pointer (some ⟨b 0, 0, none⟩)) ∧ w'.cell? ⟨w.heap.size, 2, none⟩ = some (.int .i64 o.no)) (by kernel_rfl) ⟨y2, y5⟩ (fun hHeld => ?_)
      refine wpAnyH_take (i := 0) (oi := ⟨some 33, .move (.tmp 0), 66, "law.go:124", #[], none⟩) (v := (.pointer (some ⟨pb, 0, none⟩))) rfl (by kernel_rfl) (by kernel_rfl) (by kernel_rfl) (fun _ _ _ h => h) (Or.inl ⟨by rfl, fun _ _ => by rfl⟩) hHeld ?_
      simp only [Act.put, List.setIfInBounds_toArray, List.set_cons_zero, List.set_cons_succ]
      refine wpAnyH_take (i := 1) (oi := ⟨some 34, .move (.tmp 1), 3, "law.go:124", #[], none⟩) (v := (.int .i64 0)) rfl (by kernel_rfl) (by kernel_rfl) (by kernel_rfl) (fun _ _ _ h => h) (Or.inl ⟨by rfl, fun _ _ => by rfl⟩) hHeld ?_
      simp only [Act.put, List.setIfInBounds_toArray, List.set_cons_zero, List.set_cons_succ]
      refine wpAnyH_take (i := 2) (oi := ⟨some 35, .nilCheck (.tmp 33), 0, "law.go:124", #[⟨0, .data⟩], none⟩) (v := (.pointer (some ⟨pb, 0, none⟩))) rfl (by kernel_rfl) (by kernel_rfl) (by kernel_rfl) (fun _ _ _ h => h) (Or.inl ⟨by rfl, fun _ _ => by rfl⟩) hHeld ?_
      simp only [Act.put, List.setIfInBounds_toArray, List.set_cons_zero, List.set_cons_succ]
      refine wpAnyH_take (i := 3) (oi := ⟨some 36, .fieldAddr 71 (.tmp 35) 1, 0, "law.go:124", #[⟨2, .data⟩], none⟩) (v := (.pointer (some ⟨pb, 2, none⟩))) rfl (by kernel_rfl) (by kernel_rfl) (by kernel_rfl) (fun _ _ _ h => h) (Or.inl ⟨by rfl, fun _ _ => by rfl⟩) hHeld ?_
      simp only [Act.put, List.setIfInBounds_toArray, List.set_cons_zero, List.set_cons_succ]
      refine wpAnyH_take (i := 4) (oi := ⟨some 37, .indexAddr 68 (.tmp 36) (.tmp 34), 0, "law.go:124", #[⟨3, .data⟩, ⟨1, .data⟩], none⟩) (v := (.pointer (some ⟨pb, 2, none⟩))) rfl (by kernel_rfl) (by kernel_rfl) (by kernel_rfl) (fun _ _ _ h => h) (Or.inl ⟨by rfl, fun w' h' => by unfold execOp; go_simp⟩) hHeld ?_
      simp only [Act.put, List.setIfInBounds_toArray, List.set_cons_zero, List.set_cons_succ]
      refine wpAnyH_take (i := 5) (oi := ⟨some 38, .load 52 (.tmp 37), 52, "law.go:124", #[⟨4, .data⟩], none⟩) (v := (.pointer (some ⟨b 0, 0, none⟩))) rfl (by kernel_rfl) (by kernel_rfl) (by kernel_rfl) (fun _ _ _ h => h) (Or.inl ⟨by rfl, fun w' h' => by have e1 := h'.1; have e2 := h'.2; unfold execOp; go_simp⟩) hHeld ?_
      simp only [Act.put, List.setIfInBounds_toArray, List.set_cons_zero, List.set_cons_succ]
      refine wpAnyH_take (i := 6) (oi := ⟨some 39, .fieldAddr 59 (.tmp 5) 2, 0, "law.go:124", #[], none⟩) (v := (.pointer (some ⟨w.heap.size, 2, none⟩))) rfl (by kernel_rfl) (by kernel_rfl) (by kernel_rfl) (fun _ _ _ h => h) (Or.inl ⟨by rfl, fun _ _ => by rfl⟩) hHeld ?_
      simp only [Act.put, List.setIfInBounds_toArray, List.set_cons_zero, List.set_cons_succ]
      refine wpAnyH_take (i := 7) (oi := ⟨some 40, .load 3 (.tmp 39), 3, "law.go:124", #[⟨6, .data⟩], none⟩) (v := (.int .i64 o.no)) rfl (by kernel_rfl) (by kernel_rfl) (by kernel_rfl) (fun _ _ _ h => h) (Or.inl ⟨by rfl, fun w' h' => by have e1 := h'.1; have e2 := h'.2; unfold execOp; go_simp⟩) hHeld ?_
      simp only [Act.put, List.setIfInBounds_toArray, List.set_cons_zero, List.set_cons_succ]
      refine wpAnyH_ready (rs := [8, 12]) (by kernel_rfl) (by simp) ?_
      refine AllReadyH.cons (o := ⟨some 41, .call ⟨.value (.func 22), #[.tmp 38, .tmp 40], #[52, 3]⟩, 60, "law.go:124", #[⟨5, .data⟩, ⟨7, .data⟩], none⟩) rfl (fun KK hK => ?_) (AllReadyH.cons (o := ⟨some 9, .alloc 28, 0, "law.go:124", #[], none⟩) rfl (fun KK hK => ?_) (AllReadyH.nil))
      · go_simp
        refine (HM6.out.dtake hk hc).mono ?_
        rintro e Wc2 ⟨ao2, n2, cc2, Lc, rfl, Mc, Dc, Fc, Uc⟩
        have x0 := Mc.pl.cell 2 _ rfl
        have x5 := Mc.at 2 (.int .i64 o.no) rfl
        have HMc : Hid (Md w0 w Wc2 lab Lc k pb a b _ st lg _ _ es o w.heap.size) := Mc
        have HDc : Hid (Da Wc2 Lc (k + 6) _ (.slice ao2 n2 cc2)) := Dc
        have HUc : Hid (Ours w lab k (.slice ao2 n2 cc2)) := Uc
        have HP1n := Fc.pk HP1.out
        clear HP1
        have HP1 : Hid (Pk w lab _ _ k _ _ _ _) := HP1n
        clear HP1n
        clear Mc Dc Fc Uc HM6
        go_wp2_with fail
        refine hK.out _ _ ⟨x0, x5⟩ (fun hHeld => ?_)
        clear hK KK
        try simp only [Act.put, List.setIfInBounds_toArray, List.set_cons_zero, List.set_cons_succ]
        refine wpAnyH_take (i := 9) (oi := ⟨some 32, .move (.tmp 41), 60, "law.go:124", #[⟨8, .data⟩], none⟩) (v := (.tuple #[.agg #[.int .i64 (takeT (S 0) o.no), (.slice ao2 n2 cc2)], .int .i64 (takeE (S 0) o.no)])) rfl (by kernel_rfl) (by kernel_rfl) (by kernel_rfl) (fun _ _ _ h => h) (Or.inl ⟨by rfl, fun _ _ => by rfl⟩) hHeld ?_
        simp only [Act.put, List.setIfInBounds_toArray, List.set_cons_zero, List.set_cons_succ]
        refine wpAnyH_take (i := 10) (oi := ⟨some 42, .extract (.tmp 32) 0, 28, "law.go:124", #[⟨9, .data⟩], none⟩) (v := (.agg #[.int .i64 (takeT (S 0) o.no), (.slice ao2 n2 cc2)])) rfl (by kernel_rfl) (by kernel_rfl) (by kernel_rfl) (fun _ _ _ h => h) (Or.inl ⟨by rfl, fun _ _ => by rfl⟩) hHeld ?_
        simp only [Act.put, List.setIfInBounds_toArray, List.set_cons_zero, List.set_cons_succ]
        refine wpAnyH_take (i := 11) (oi := ⟨some 43, .extract (.tmp 32) 1, 3, "law.go:124", #[⟨9, .data⟩, ⟨13, .gcOnly .lateStores⟩], none⟩) (v := (.int .i64 (takeE (S 0) o.no))) rfl (by kernel_rfl) (by kernel_rfl) (by kernel_rfl) (fun _ _ _ h => h) (Or.inl ⟨by rfl, fun _ _ => by rfl⟩) hHeld ?_
        simp only [Act.put, List.setIfInBounds_toArray, List.set_cons_zero, List.set_cons_succ]
        refine wpAnyH_ready (rs := [12]) (by kernel_rfl) (by simp) ?_
        refine AllReadyH.cons (o := ⟨some 9, .alloc 28, 0, "law.go:124", #[], none⟩) rfl (fun KK hK => ?_) (AllReadyH.nil)
        go_simp
        obtain ⟨Wb2, hWb⟩ : ∃ x, Wc2.alloc (.cells #[.int .i64 0, .slice none 0 0] 28) = x := ⟨_, rfl⟩
        obtain ⟨Mb, Bb, Fb⟩ := HMc.out.box hk _ hWb.symm
        rw [hWb]
        clear x0 x5
        have x0 := Mb.pl.cell 2 _ rfl
        have x5 := Mb.at 2 (.int .i64 o.no) rfl
        have HDd := HDc.out
        clear HDc
        have HDc : Hid (Da Wb2 _ (k + 6) _ (.slice ao2 n2 cc2)) := Fb.da HDd
        clear HDd
        have HNE : Hid (b1 ≠ Wc2.heap.size) := Nat.ne_of_lt (heap_lt HP1.out.hb)
        have HP1n := Fb.pk HP1.out
        clear HP1
        have HP1 : Hid (Pk w lab _ _ k _ _ _ _) := HP1n
        clear HP1n
        have HMb : Hid (Md w0 w Wb2 lab _ k pb a b _ st lg _ _ es o w.heap.size) := Mb
        have HBb : Hid (Bx w Wb2 _ k Wc2.heap.size _) := Bb
        clear Mb Bb Fb hWb HMc
        refine hK.out _ _ ⟨x0, x5⟩ (fun hHeld => ?_)
        clear hK KK
        try simp only [Act.put, List.setIfInBounds_toArray, List.set_cons_zero, List.set_cons_succ]
        refine wpAnyH_ready (rs := [13]) (by kernel_rfl) (by simp) ?_
        refine AllReadyH.cons (o := ⟨none, .store 28 (.tmp 9) (.tmp 42), 0, "law.go:124", #[⟨12, .data⟩, ⟨10, .data⟩, ⟨8, .chain⟩, ⟨0, .phase⟩, ⟨1, .phase⟩, ⟨2, .phase⟩, ⟨3, .phase⟩, ⟨4, .phase⟩, ⟨5, .phase⟩, ⟨6, .phase⟩, ⟨7, .phase⟩, ⟨8, .phase⟩, ⟨9, .phase⟩, ⟨10, .phase⟩, ⟨11, .textOnly .lateStores⟩, ⟨12, .phase⟩], none⟩) rfl (fun KK hK => ?_) (AllReadyH.nil)
        clear x0 x5
        have gb := HBb.out.hb
        have g0 : Wb2.cell? ⟨Wc2.heap.size, 0, none⟩ = some (.int .i64 0) := by simp [World.cell?, gb]
        have g1 : Wb2.cell? ⟨Wc2.heap.size, 1, none⟩ = some (.slice none 0 0) := by simp [World.cell?, gb]
        have z0 : Wb2.frozen? ⟨Wc2.heap.size, 0, none⟩ = false := by simp [World.frozen?, gb]
        have z1 : Wb2.frozen? ⟨Wc2.heap.size, 1, none⟩ = false := by simp [World.frozen?, gb]
        have hS1 := heap_setCell_same Wb2 (Wc2.heap.size) 0 _ _ (.int .i64 (takeT (S 0) o.no)) gb
        have g1n : (Wb2.setCell ⟨Wc2.heap.size, 0, none⟩ (.int .i64 (takeT (S 0) o.no))).cell? ⟨Wc2.heap.size, 1, none⟩ = some (.slice none 0 0) := by simp [World.cell?, hS1]
        have z1n : (Wb2.setCell ⟨Wc2.heap.size, 0, none⟩ (.int .i64 (takeT (S 0) o.no))).frozen? ⟨Wc2.heap.size, 1, none⟩ = false := by simp [World.frozen?, hS1]
        clear hS1
        have Hgb : Hid (Wb2.heap[Wc2.heap.size]? = some (.cells #[.int .i64 0, .slice none 0 0] 28)) := gb
        clear gb
        go_simp
        obtain ⟨We2, hWe⟩ : ∃ y, (Wb2.setCell ⟨Wc2.heap.size, 0, none⟩ (.int .i64 (takeT (S 0) o.no))).setCell ⟨Wc2.heap.size, 1, none⟩ (.slice ao2 n2 cc2) = y := ⟨_, rfl⟩
        rw [hWe]
        have tE : Turns (fun i => i = Wc2.heap.size) Wb2 We2 := by rw [← hWe]; exact (Turns.cell Wb2 (Wc2.heap.size) 0 _).trans (Turns.cell _ (Wc2.heap.size) 1 _) (fun _ _ q => q)
        have hE : We2.heap[Wc2.heap.size]? = some (.cells #[.int .i64 (takeT (S 0) o.no), (.slice ao2 n2 cc2)] 28) := by rw [← hWe]; exact heap_setCell_same _ _ _ _ _ _ (heap_setCell_same _ _ _ _ _ _ Hgb.out)
        obtain ⟨Me, Pe⟩ := HMb.out.stored hk HDc.out HUc.out HBb.out tE hE
        have HP1n := HP1.out.stays HBb.out HNE.out tE
        clear HP1
        have HP1 : Hid (Pk w lab _ _ k _ _ _ _) := HP1n
        clear HP1n
        clear g0 g1 z0 z1 g1n z1n Hgb tE hE hWe HMb HDc HUc HBb HNE
        have x0 := Me.pl.cell 2 _ rfl
        have x5 := Me.at 2 (.int .i64 o.no) rfl
        have HMe : Hid (Md w0 w We2 lab _ k pb a b _ st lg _ _ es o w.heap.size) := Me
        have HPe : Hid (Pk w lab We2 _ k (Wc2.heap.size) _ _ (.slice ao2 n2 cc2)) := Pe
        clear Me Pe
        refine hK.out _ _ ⟨x0, x5⟩ (fun hHeld => ?_)
        clear hK KK
        try simp only [Act.put, List.setIfInBounds_toArray, List.set_cons_zero, List.set_cons_succ]
        refine wpAnyH_take (i := 14) (oi := ⟨some 10, .assign (.tmp 43), 3, "law.go:124", #[⟨11, .data⟩, ⟨13, .chain⟩, ⟨0, .phase⟩, ⟨1, .phase⟩, ⟨2, .phase⟩, ⟨3, .phase⟩, ⟨4, .phase⟩, ⟨5, .phase⟩, ⟨6, .phase⟩, ⟨7, .phase⟩, ⟨8, .phase⟩, ⟨9, .phase⟩, ⟨10, .phase⟩, ⟨11, .phase⟩, ⟨12, .phase⟩, ⟨13, .phase⟩], none⟩) (v := (.int .i64 (takeE (S 0) o.no))) rfl (by kernel_rfl) (by kernel_rfl) (by kernel_rfl) (fun _ _ _ h => h) (Or.inl ⟨by rfl, fun _ _ => by rfl⟩) hHeld ?_
        simp only [Act.put, List.setIfInBounds_toArray, List.set_cons_zero, List.set_cons_succ]
        refine wpAnyH_done (by kernel_rfl) ?_ _
        clear x0 x5
        have HP2 := HPe
        clear HPe
        generalize Wc2.heap.size = b2 at HP2 ⊢
        have k1 := HP1.out.c1
        have m1 := HP2.out.c1
        have hs := same_any ao1 ao2 n1 n2 cc1 cc2 (takeD (S 0) o.no) (takeD (S 0) o.no) We2 (by have := HP1.out.da.len; have := HP1.out.da.len_eq; omega) (HP1.out.da.lies HP1.out.da.len_eq) (HP2.out.da.lies HP2.out.da.len_eq)
        go_wp2_with fail
        refine hs.mono ?_
        rintro e w9 ⟨rfl, m9, hw9⟩
        have b9 : Below We2.heap.size We2 w9 := by rw [hw9]; exact below_drewN We2 m9
        have M9 := HMe.out.below hk b9
        have P9 := (Fr.below (k := k) b9 (k + 6)).pk HP1.out
        have Q9 := (Fr.below (k := k) b9 (k + 6)).pk HP2.out
        clear k1 m1 hs hw9 HP1 HP2 HMe
        have k0 := P9.c0
        have k1 := P9.c1
        have m0 := Q9.c0
        have p6 := M9.pl.cell 6 _ rfl
        have p4 := M9.pl.cell 4 _ rfl
        have HM9 : Hid (Md w0 w w9 lab _ k pb a b (.slice ba es.length bc) st lg _ _ es o w.heap.size) := M9
        have HP9 : Hid (Pk w lab w9 _ k b1 _ _ _) := P9
        have hdd : decide (takeD (S 0) o.no = takeD (S 0) o.no) = true := decide_eq_true rfl
        have hbb : (takeE (S 0) o.no == takeE (S 0) o.no) = true := by simp
        have htt : (takeT (S 0) o.no == takeT (S 0) o.no) = true := by simp
        clear M9 P9 Q9 b9
        cases lg with
        | true =>
          go_wp2_with (first | (go_at_call 13; refine (num_any _ _).mono ?_; rintro e w8 ⟨rfl, rfl⟩) | fail)
          go_ret
          exact ⟨rfl, _, _, _, _, HM9.out.pl, HM9.out.fr, fun q => by omega⟩
        | false =>
          go_wp2_with (first | (go_at_call 13; refine (num_any _ _).mono ?_; rintro e w8 ⟨rfl, rfl⟩) | fail)
          have M10 := HM9.out.below hk (below_drewN w8 1)
          have P10 := (Fr.below (k := k) (below_drewN w8 1) (k + 6)).pk HP9.out
          have hnb : pb ≠ b1 := fun q => by have h1 := M10.pl.lb; have h2 := P10.hx; rw [← q] at h2; omega
          have HNB : Hid (pb ≠ b1) := hnb
          have hmk := mark_any M10.pl 1
          have hln : n1 ≤ 4096 := by have h1 := P10.da.len_eq; have h2 := HSh.out (by first | rfl | trivial); omega
          have hkp := fun m => keep_any M10.pl.bk (.slice ao1 n1 cc1) _ _ P10.da.own (fun i q r => by have h1 := P10.da.lb i q; have h2 : _ = k + 4 := r; omega) (by have h1 := P10.da.len_eq; omega) (by omega) m
          have HM10 : Hid (Md w0 w (w8.drewN 1) lab _ k pb a b (.slice ba es.length bc) st false _ _ es o w.heap.size) := M10
          have HP10 : Hid (Pk w lab (w8.drewN 1) _ k b1 _ _ (.slice ao1 n1 cc1)) := P10
          clear M10 P10 hnb HM9 HP9 k0 m0 p6
          refine wp_region_held_drew (S := fun w' => w'.cell? ⟨b1, 1, none⟩ = some (.slice ao1 n1 cc1)) (by kernel_rfl) k1 (fun hHeld => ?_)
          refine wpAnyH_take (i := 0) (oi := ⟨some 69, .move (.tmp 0), 66, "law.go:130", #[], none⟩) (v := (.pointer (some ⟨pb, 0, none⟩))) rfl (by kernel_rfl) (by kernel_rfl) (by kernel_rfl) (fun _ _ _ h => h) (Or.inl ⟨by rfl, fun _ _ => by rfl⟩) hHeld ?_
          simp only [Act.put, List.setIfInBounds_toArray, List.set_cons_zero, List.set_cons_succ]
          refine wpAnyH_take (i := 1) (oi := ⟨some 70, .move (.tmp 0), 66, "law.go:130", #[], none⟩) (v := (.pointer (some ⟨pb, 0, none⟩))) rfl (by kernel_rfl) (by kernel_rfl) (by kernel_rfl) (fun _ _ _ h => h) (Or.inl ⟨by rfl, fun _ _ => by rfl⟩) hHeld ?_
          simp only [Act.put, List.setIfInBounds_toArray, List.set_cons_zero, List.set_cons_succ]
          refine wpAnyH_take (i := 2) (oi := ⟨some 71, .nilCheck (.tmp 70), 0, "law.go:130", #[⟨1, .data⟩], none⟩) (v := (.pointer (some ⟨pb, 0, none⟩))) rfl (by kernel_rfl) (by kernel_rfl) (by kernel_rfl) (fun _ _ _ h => h) (Or.inl ⟨by rfl, fun _ _ => by rfl⟩) hHeld ?_
          simp only [Act.put, List.setIfInBounds_toArray, List.set_cons_zero, List.set_cons_succ]
          refine wpAnyH_take (i := 3) (oi := ⟨some 72, .fieldAddr 71 (.tmp 71) 2, 0, "law.go:130", #[⟨2, .data⟩], none⟩) (v := (.pointer (some ⟨pb, 4, none⟩))) rfl (by kernel_rfl) (by kernel_rfl) (by kernel_rfl) (fun _ _ _ h => h) (Or.inl ⟨by rfl, fun _ _ => by rfl⟩) hHeld ?_
          simp only [Act.put, List.setIfInBounds_toArray, List.set_cons_zero, List.set_cons_succ]
          refine wpAnyH_take (i := 5) (oi := ⟨some 74, .fieldAddr 28 (.tmp 7) 1, 0, "law.go:130", #[], none⟩) (v := (.pointer (some ⟨b1, 1, none⟩))) rfl (by kernel_rfl) (by kernel_rfl) (by kernel_rfl) (fun _ _ _ h => h) (Or.inl ⟨by rfl, fun _ _ => by rfl⟩) hHeld ?_
          simp only [Act.put, List.setIfInBounds_toArray, List.set_cons_zero, List.set_cons_succ]
          refine wpAnyH_take (i := 6) (oi := ⟨some 75, .load 22 (.tmp 74), 22, "law.go:130", #[⟨5, .data⟩], none⟩) (v := (.slice ao1 n1 cc1)) rfl (by kernel_rfl) (by kernel_rfl) (by kernel_rfl) (fun _ _ _ h => h) (Or.inl ⟨by rfl, fun w' h' => by unfold execOp; go_simp⟩) hHeld ?_
          simp only [Act.put, List.setIfInBounds_toArray, List.set_cons_zero, List.set_cons_succ]
          refine wpAnyH_take (i := 7) (oi := ⟨some 76, .move (.tmp 0), 66, "law.go:130", #[], none⟩) (v := (.pointer (some ⟨pb, 0, none⟩))) rfl (by kernel_rfl) (by kernel_rfl) (by kernel_rfl) (fun _ _ _ h => h) (Or.inl ⟨by rfl, fun _ _ => by rfl⟩) hHeld ?_
          simp only [Act.put, List.setIfInBounds_toArray, List.set_cons_zero, List.set_cons_succ]
          refine wpAnyH_ready (rs := [4, 8]) (by kernel_rfl) (by simp) ?_
          refine AllReadyH.cons (o := ⟨some 73, .load 69 (.tmp 72), 69, "law.go:130", #[⟨3, .data⟩], none⟩) rfl (fun KK hK => ?_) (AllReadyH.cons (o := ⟨some 77, .call ⟨.value (.func 47), #[.tmp 76, .const (.int .i64 1)], #[66, 3]⟩, 5, "law.go:130", #[⟨7, .data⟩], none⟩) rfl (fun KK hK => ?_) (AllReadyH.nil))
          · go_simp
            refine hK.out _ _ hHeld (fun hHeld => ?_)
            clear hK KK
            try simp only [Act.put, List.setIfInBounds_toArray, List.set_cons_zero, List.set_cons_succ]
            refine wpAnyH_ready (rs := [8]) (by kernel_rfl) (by simp) ?_
            refine AllReadyH.cons (o := ⟨some 77, .call ⟨.value (.func 47), #[.tmp 76, .const (.int .i64 1)], #[66, 3]⟩, 5, "law.go:130", #[⟨7, .data⟩], none⟩) rfl (fun KK hK => ?_) (AllReadyH.nil)
            go_simp
            refine hmk.mono ?_
            rintro e wm ⟨mm, rfl, rfl⟩
            go_wp2_with fail
            refine hK.out _ _ hHeld (fun hHeld => ?_)
            clear hK KK
            try simp only [Act.put, List.setIfInBounds_toArray, List.set_cons_zero, List.set_cons_succ]
            refine wpAnyH_ready (rs := [9]) (by kernel_rfl) (by simp) ?_
            refine AllReadyH.cons (o := ⟨some 78, .call ⟨.value (.func 46), #[.tmp 73, .tmp 75, .tmp 77], #[69, 22, 5]⟩, 69, "law.go:130", #[⟨4, .data⟩, ⟨6, .data⟩, ⟨8, .data⟩, ⟨8, .chain⟩], none⟩) rfl (fun KK hK => ?_) (AllReadyH.nil)
            go_simp
            refine (hkp mm).mono ?_
            rintro e wk ⟨bv', rfl, K3⟩
            have HK3 : Hid (Kept3 _ _ _ _ _ _ _) := K3
            obtain ⟨fs, _, hB, hT⟩ := K3
            obtain ⟨ba', bc', hbv'⟩ := tl_slice hB.row
            generalize (es ++ fs).length = E' at hbv'
            clear hB
            subst hbv'
            have nb : ¬ ((Value.slice ba es.length bc).ownBlock = some pb ∨ (Value.slice ao1 n1 cc1).ownBlock = some pb) := fun q => q.elim (fun r => by have h1 : _ = k + 4 := HM10.out.pl.bk.kb pb r; have h2 := HM10.out.pl.lb; omega) (fun r => by have h1 := HP10.out.da.lb pb r; have h2 := HM10.out.pl.lb; omega)
            have nx : ¬ ((Value.slice ba es.length bc).ownBlock = some b1 ∨ (Value.slice ao1 n1 cc1).ownBlock = some b1) := fun q => q.elim (fun r => by have h1 : _ = k + 4 := HM10.out.pl.bk.kb b1 r; have h2 := HP10.out.hx; omega) (fun r => own_typ HP10.out.da.own HP10.out.hb (by decide) r)
            have zk := (hT.block pb (heap_lt HM10.out.pl.box) nb).trans HM10.out.pl.box
            have zx := (hT.block b1 (heap_lt HP10.out.hb) nx).trans HP10.out.hb
            have fk : wk.frozen? ⟨pb, 4, none⟩ = false := by simp [World.frozen?, zk]
            have ck : wk.cell? ⟨pb, 4, none⟩ = some (.slice ba es.length bc) := by simp [World.cell?, zk]
            have kx : wk.cell? ⟨b1, 1, none⟩ = some (.slice ao1 n1 cc1) := by simp [World.cell?, zx]
            have kx2 : ∀ u, (wk.setCell ⟨pb, 4, none⟩ u).cell? ⟨b1, 1, none⟩ = some (.slice ao1 n1 cc1) := fun u => (World.cell?_setCell_far wk ⟨pb, 4, none⟩ ⟨b1, 1, none⟩ u HNB.out).trans kx
            have HZk : Hid (wk.heap[pb]? = _) := zk
            clear zk zx hT nb nx
            go_wp2_with fail
            refine hK.out _ _ kx (fun hHeld => ?_)
            clear hK KK
            try simp only [Act.put, List.setIfInBounds_toArray, List.set_cons_zero, List.set_cons_succ]
            refine wpAnyH_take (i := 10) (oi := ⟨some 79, .nilCheck (.tmp 69), 0, "law.go:130", #[⟨0, .data⟩, ⟨0, .phase⟩, ⟨1, .phase⟩, ⟨2, .phase⟩, ⟨3, .phase⟩, ⟨4, .phase⟩, ⟨5, .phase⟩, ⟨6, .phase⟩, ⟨7, .phase⟩, ⟨8, .phase⟩, ⟨9, .phase⟩], none⟩) (v := (.pointer (some ⟨pb, 0, none⟩))) rfl (by kernel_rfl) (by kernel_rfl) (by kernel_rfl) (fun _ _ _ h => h) (Or.inl ⟨by rfl, fun _ _ => by rfl⟩) hHeld ?_
            simp only [Act.put, List.setIfInBounds_toArray, List.set_cons_zero, List.set_cons_succ]
            refine wpAnyH_take (i := 11) (oi := ⟨some 80, .fieldAddr 71 (.tmp 79) 2, 0, "law.go:130", #[⟨10, .data⟩, ⟨0, .phase⟩, ⟨1, .phase⟩, ⟨2, .phase⟩, ⟨3, .phase⟩, ⟨4, .phase⟩, ⟨5, .phase⟩, ⟨6, .phase⟩, ⟨7, .phase⟩, ⟨8, .phase⟩, ⟨9, .phase⟩], none⟩) (v := (.pointer (some ⟨pb, 4, none⟩))) rfl (by kernel_rfl) (by kernel_rfl) (by kernel_rfl) (fun _ _ _ h => h) (Or.inl ⟨by rfl, fun _ _ => by rfl⟩) hHeld ?_
            simp only [Act.put, List.setIfInBounds_toArray, List.set_cons_zero, List.set_cons_succ]
            refine wpAnyH_ready (rs := [12]) (by kernel_rfl) (by simp) ?_
            refine AllReadyH.cons (o := ⟨none, .store 69 (.tmp 80) (.tmp 78), 0, "law.go:130", #[⟨11, .data⟩, ⟨9, .data⟩, ⟨9, .chain⟩, ⟨0, .phase⟩, ⟨1, .phase⟩, ⟨2, .phase⟩, ⟨3, .phase⟩, ⟨4, .phase⟩, ⟨5, .phase⟩, ⟨6, .phase⟩, ⟨7, .phase⟩, ⟨8, .phase⟩, ⟨9, .phase⟩], none⟩) rfl (fun KK hK => ?_) (AllReadyH.nil)
            go_simp
            refine hK.out _ _ (kx2 _) (fun hHeld => ?_)
            clear hK KK
            try simp only [Act.put, List.setIfInBounds_toArray, List.set_cons_zero, List.set_cons_succ]
            refine wpAnyH_done (by kernel_rfl) ?_ _
            obtain ⟨wl, hwl⟩ : ∃ x, wk.setCell ⟨pb, 4, none⟩ (.slice ba' E' bc') = x := ⟨_, rfl⟩
            rw [hwl]
            have ul : Turns (fun i => i = pb) wk wl := by rw [← hwl]; exact Turns.cell wk pb 4 _
            have zl : wl.heap[pb]? = some (.cells (plC a b (.slice ba' E' bc') st false) 71 (0, 0)) := by rw [← hwl]; exact heap_setCell_same _ _ _ _ _ _ HZk.out
            have hB := HM10.out.booked hk HK3.out HP10.out.da.own HP10.out.da.lb HP10.out.us ul zl (by omega)
            have HB : Hid _ := hB
            clear hB ul zl HK3 HM10 hkp hmk HZk fk ck kx kx2 hwl hHeld
            go_wp2_with fail
            go_ret
            obtain ⟨L', es', he', M11, _⟩ := HB.out
            exact ⟨rfl, L', _, _, es', M11.pl, M11.fr, fun q => by omega⟩
          · go_simp
            refine hmk.mono ?_
            rintro e wm ⟨mm, rfl, rfl⟩
            go_wp2_with fail
            refine hK.out _ _ hHeld (fun hHeld => ?_)
            clear hK KK
            try simp only [Act.put, List.setIfInBounds_toArray, List.set_cons_zero, List.set_cons_succ]
            refine wpAnyH_ready (rs := [4]) (by kernel_rfl) (by simp) ?_
            refine AllReadyH.cons (o := ⟨some 73, .load 69 (.tmp 72), 69, "law.go:130", #[⟨3, .data⟩], none⟩) rfl (fun KK hK => ?_) (AllReadyH.nil)
            go_simp
            refine hK.out _ _ hHeld (fun hHeld => ?_)
            clear hK KK
            try simp only [Act.put, List.setIfInBounds_toArray, List.set_cons_zero, List.set_cons_succ]
            refine wpAnyH_ready (rs := [9]) (by kernel_rfl) (by simp) ?_
            refine AllReadyH.cons (o := ⟨some 78, .call ⟨.value (.func 46), #[.tmp 73, .tmp 75, .tmp 77], #[69, 22, 5]⟩, 69, "law.go:130", #[⟨4, .data⟩, ⟨6, .data⟩, ⟨8, .data⟩, ⟨8, .chain⟩], none⟩) rfl (fun KK hK => ?_) (AllReadyH.nil)
            go_simp
            refine (hkp mm).mono ?_
            rintro e wk ⟨bv', rfl, K3⟩
            have HK3 : Hid (Kept3 _ _ _ _ _ _ _) := K3
            obtain ⟨fs, _, hB, hT⟩ := K3
            obtain ⟨ba', bc', hbv'⟩ := tl_slice hB.row
            generalize (es ++ fs).length = E' at hbv'
            clear hB
            subst hbv'
            have nb : ¬ ((Value.slice ba es.length bc).ownBlock = some pb ∨ (Value.slice ao1 n1 cc1).ownBlock = some pb) := fun q => q.elim (fun r => by have h1 : _ = k + 4 := HM10.out.pl.bk.kb pb r; have h2 := HM10.out.pl.lb; omega) (fun r => by have h1 := HP10.out.da.lb pb r; have h2 := HM10.out.pl.lb; omega)
            have nx : ¬ ((Value.slice ba es.length bc).ownBlock = some b1 ∨ (Value.slice ao1 n1 cc1).ownBlock = some b1) := fun q => q.elim (fun r => by have h1 : _ = k + 4 := HM10.out.pl.bk.kb b1 r; have h2 := HP10.out.hx; omega) (fun r => own_typ HP10.out.da.own HP10.out.hb (by decide) r)
            have zk := (hT.block pb (heap_lt HM10.out.pl.box) nb).trans HM10.out.pl.box
            have zx := (hT.block b1 (heap_lt HP10.out.hb) nx).trans HP10.out.hb
            have fk : wk.frozen? ⟨pb, 4, none⟩ = false := by simp [World.frozen?, zk]
            have ck : wk.cell? ⟨pb, 4, none⟩ = some (.slice ba es.length bc) := by simp [World.cell?, zk]
            have kx : wk.cell? ⟨b1, 1, none⟩ = some (.slice ao1 n1 cc1) := by simp [World.cell?, zx]
            have kx2 : ∀ u, (wk.setCell ⟨pb, 4, none⟩ u).cell? ⟨b1, 1, none⟩ = some (.slice ao1 n1 cc1) := fun u => (World.cell?_setCell_far wk ⟨pb, 4, none⟩ ⟨b1, 1, none⟩ u HNB.out).trans kx
            have HZk : Hid (wk.heap[pb]? = _) := zk
            clear zk zx hT nb nx
            go_wp2_with fail
            refine hK.out _ _ kx (fun hHeld => ?_)
            clear hK KK
            try simp only [Act.put, List.setIfInBounds_toArray, List.set_cons_zero, List.set_cons_succ]
            refine wpAnyH_take (i := 10) (oi := ⟨some 79, .nilCheck (.tmp 69), 0, "law.go:130", #[⟨0, .data⟩, ⟨0, .phase⟩, ⟨1, .phase⟩, ⟨2, .phase⟩, ⟨3, .phase⟩, ⟨4, .phase⟩, ⟨5, .phase⟩, ⟨6, .phase⟩, ⟨7, .phase⟩, ⟨8, .phase⟩, ⟨9, .phase⟩], none⟩) (v := (.pointer (some ⟨pb, 0, none⟩))) rfl (by kernel_rfl) (by kernel_rfl) (by kernel_rfl) (fun _ _ _ h => h) (Or.inl ⟨by rfl, fun _ _ => by rfl⟩) hHeld ?_
            simp only [Act.put, List.setIfInBounds_toArray, List.set_cons_zero, List.set_cons_succ]
            refine wpAnyH_take (i := 11) (oi := ⟨some 80, .fieldAddr 71 (.tmp 79) 2, 0, "law.go:130", #[⟨10, .data⟩, ⟨0, .phase⟩, ⟨1, .phase⟩, ⟨2, .phase⟩, ⟨3, .phase⟩, ⟨4, .phase⟩, ⟨5, .phase⟩, ⟨6, .phase⟩, ⟨7, .phase⟩, ⟨8, .phase⟩, ⟨9, .phase⟩], none⟩) (v := (.pointer (some ⟨pb, 4, none⟩))) rfl (by kernel_rfl) (by kernel_rfl) (by kernel_rfl) (fun _ _ _ h => h) (Or.inl ⟨by rfl, fun _ _ => by rfl⟩) hHeld ?_
            simp only [Act.put, List.setIfInBounds_toArray, List.set_cons_zero, List.set_cons_succ]
            refine wpAnyH_ready (rs := [12]) (by kernel_rfl) (by simp) ?_
            refine AllReadyH.cons (o := ⟨none, .store 69 (.tmp 80) (.tmp 78), 0, "law.go:130", #[⟨11, .data⟩, ⟨9, .data⟩, ⟨9, .chain⟩, ⟨0, .phase⟩, ⟨1, .phase⟩, ⟨2, .phase⟩, ⟨3, .phase⟩, ⟨4, .phase⟩, ⟨5, .phase⟩, ⟨6, .phase⟩, ⟨7, .phase⟩, ⟨8, .phase⟩, ⟨9, .phase⟩], none⟩) rfl (fun KK hK => ?_) (AllReadyH.nil)
            go_simp
            refine hK.out _ _ (kx2 _) (fun hHeld => ?_)
            clear hK KK
            try simp only [Act.put, List.setIfInBounds_toArray, List.set_cons_zero, List.set_cons_succ]
            refine wpAnyH_done (by kernel_rfl) ?_ _
            obtain ⟨wl, hwl⟩ : ∃ x, wk.setCell ⟨pb, 4, none⟩ (.slice ba' E' bc') = x := ⟨_, rfl⟩
            rw [hwl]
            have ul : Turns (fun i => i = pb) wk wl := by rw [← hwl]; exact Turns.cell wk pb 4 _
            have zl : wl.heap[pb]? = some (.cells (plC a b (.slice ba' E' bc') st false) 71 (0, 0)) := by rw [← hwl]; exact heap_setCell_same _ _ _ _ _ _ HZk.out
            have hB := HM10.out.booked hk HK3.out HP10.out.da.own HP10.out.da.lb HP10.out.us ul zl (by omega)
            have HB : Hid _ := hB
            clear hB ul zl HK3 HM10 hkp hmk HZk fk ck kx kx2 hwl hHeld
            go_wp2_with fail
            go_ret
            obtain ⟨L', es', he', M11, _⟩ := HB.out
            exact ⟨rfl, L', _, _, es', M11.pl, M11.fr, fun q => by omega⟩
      · go_simp
        obtain ⟨Wb2, hWb⟩ : ∃ x, (We1.alloc (.cells #[.int .i64 0, .slice none 0 0] 28)).drew = x := ⟨_, rfl⟩
        obtain ⟨Mb, Bb, Fb⟩ := HM6.out.box hk _ hWb.symm
        rw [hWb]
        have x0 := Mb.pl.cell 2 _ rfl
        have x5 := Mb.at 2 (.int .i64 o.no) rfl
        have HNE : Hid (b1 ≠ We1.heap.size) := Nat.ne_of_lt (heap_lt HP1.out.hb)
        have HP1n := Fb.pk HP1.out
        clear HP1
        have HP1 : Hid (Pk w lab _ _ k _ _ _ _) := HP1n
        clear HP1n
        have HMb : Hid (Md w0 w Wb2 lab _ k pb a b _ st lg _ _ es o w.heap.size) := Mb
        have HBb : Hid (Bx w Wb2 _ k We1.heap.size _) := Bb
        clear Mb Bb Fb hWb HM6
        refine hK.out _ _ ⟨x0, x5⟩ (fun hHeld => ?_)
        clear hK KK
        try simp only [Act.put, List.setIfInBounds_toArray, List.set_cons_zero, List.set_cons_succ]
        refine wpAnyH_ready (rs := [8]) (by kernel_rfl) (by simp) ?_
        refine AllReadyH.cons (o := ⟨some 41, .call ⟨.value (.func 22), #[.tmp 38, .tmp 40], #[52, 3]⟩, 60, "law.go:124", #[⟨5, .data⟩, ⟨7, .data⟩], none⟩) rfl (fun KK hK => ?_) (AllReadyH.nil)
        go_simp
        refine (HMb.out.dtake hk hc).mono ?_
        rintro e Wc2 ⟨ao2, n2, cc2, Lc, rfl, Mc, Dc, Fc, Uc⟩
        clear x0 x5
        have x0 := Mc.pl.cell 2 _ rfl
        have x5 := Mc.at 2 (.int .i64 o.no) rfl
        have HBc : Hid (Bx w Wc2 Lc k _ _) := Fc.bx HBb.out
        have HMc : Hid (Md w0 w Wc2 lab Lc k pb a b _ st lg _ _ es o w.heap.size) := Mc
        have HDc : Hid (Da Wc2 Lc (k + 6) _ (.slice ao2 n2 cc2)) := Dc
        have HUc : Hid (Ours w lab k (.slice ao2 n2 cc2)) := Uc
        have HP1n := Fc.pk HP1.out
        clear HP1
        have HP1 : Hid (Pk w lab _ _ k _ _ _ _) := HP1n
        clear HP1n
        clear Mc Dc Fc Uc HMb HBb
        go_wp2_with fail
        refine hK.out _ _ ⟨x0, x5⟩ (fun hHeld => ?_)
        clear hK KK
        try simp only [Act.put, List.setIfInBounds_toArray, List.set_cons_zero, List.set_cons_succ]
        refine wpAnyH_take (i := 9) (oi := ⟨some 32, .move (.tmp 41), 60, "law.go:124", #[⟨8, .data⟩], none⟩) (v := (.tuple #[.agg #[.int .i64 (takeT (S 0) o.no), (.slice ao2 n2 cc2)], .int .i64 (takeE (S 0) o.no)])) rfl (by kernel_rfl) (by kernel_rfl) (by kernel_rfl) (fun _ _ _ h => h) (Or.inl ⟨by rfl, fun _ _ => by rfl⟩) hHeld ?_
        simp only [Act.put, List.setIfInBounds_toArray, List.set_cons_zero, List.set_cons_succ]
        refine wpAnyH_take (i := 10) (oi := ⟨some 42, .extract (.tmp 32) 0, 28, "law.go:124", #[⟨9, .data⟩], none⟩) (v := (.agg #[.int .i64 (takeT (S 0) o.no), (.slice ao2 n2 cc2)])) rfl (by kernel_rfl) (by kernel_rfl) (by kernel_rfl) (fun _ _ _ h => h) (Or.inl ⟨by rfl, fun _ _ => by rfl⟩) hHeld ?_
        simp only [Act.put, List.setIfInBounds_toArray, List.set_cons_zero, List.set_cons_succ]
        refine wpAnyH_take (i := 11) (oi := ⟨some 43, .extract (.tmp 32) 1, 3, "law.go:124", #[⟨9, .data⟩, ⟨13, .gcOnly .lateStores⟩], none⟩) (v := (.int .i64 (takeE (S 0) o.no))) rfl (by kernel_rfl) (by kernel_rfl) (by kernel_rfl) (fun _ _ _ h => h) (Or.inl ⟨by rfl, fun _ _ => by rfl⟩) hHeld ?_
        simp only [Act.put, List.setIfInBounds_toArray, List.set_cons_zero, List.set_cons_succ]
        refine wpAnyH_ready (rs := [13]) (by kernel_rfl) (by simp) ?_
        refine AllReadyH.cons (o := ⟨none, .store 28 (.tmp 9) (.tmp 42), 0, "law.go:124", #[⟨12, .data⟩, ⟨10, .data⟩, ⟨8, .chain⟩, ⟨0, .phase⟩, ⟨1, .phase⟩, ⟨2, .phase⟩, ⟨3, .phase⟩, ⟨4, .phase⟩, ⟨5, .phase⟩, ⟨6, .phase⟩, ⟨7, .phase⟩, ⟨8, .phase⟩, ⟨9, .phase⟩, ⟨10, .phase⟩, ⟨11, .textOnly .lateStores⟩, ⟨12, .phase⟩], none⟩) rfl (fun KK hK => ?_) (AllReadyH.nil)
        clear x0 x5
        have gb := HBc.out.hb
        have g0 : Wc2.cell? ⟨We1.heap.size, 0, none⟩ = some (.int .i64 0) := by simp [World.cell?, gb]
        have g1 : Wc2.cell? ⟨We1.heap.size, 1, none⟩ = some (.slice none 0 0) := by simp [World.cell?, gb]
        have z0 : Wc2.frozen? ⟨We1.heap.size, 0, none⟩ = false := by simp [World.frozen?, gb]
        have z1 : Wc2.frozen? ⟨We1.heap.size, 1, none⟩ = false := by simp [World.frozen?, gb]
        have hS1 := heap_setCell_same Wc2 (We1.heap.size) 0 _ _ (.int .i64 (takeT (S 0) o.no)) gb
        have g1n : (Wc2.setCell ⟨We1.heap.size, 0, none⟩ (.int .i64 (takeT (S 0) o.no))).cell? ⟨We1.heap.size, 1, none⟩ = some (.slice none 0 0) := by simp [World.cell?, hS1]
        have z1n : (Wc2.setCell ⟨We1.heap.size, 0, none⟩ (.int .i64 (takeT (S 0) o.no))).frozen? ⟨We1.heap.size, 1, none⟩ = false := by simp [World.frozen?, hS1]
        clear hS1
        have Hgb : Hid (Wc2.heap[We1.heap.size]? = some (.cells #[.int .i64 0, .slice none 0 0] 28)) := gb
        clear gb
        go_simp
        obtain ⟨We2, hWe⟩ : ∃ y, (Wc2.setCell ⟨We1.heap.size, 0, none⟩ (.int .i64 (takeT (S 0) o.no))).setCell ⟨We1.heap.size, 1, none⟩ (.slice ao2 n2 cc2) = y := ⟨_, rfl⟩
        rw [hWe]
        have tE : Turns (fun i => i = We1.heap.size) Wc2 We2 := by rw [← hWe]; exact (Turns.cell Wc2 (We1.heap.size) 0 _).trans (Turns.cell _ (We1.heap.size) 1 _) (fun _ _ q => q)
        have hE : We2.heap[We1.heap.size]? = some (.cells #[.int .i64 (takeT (S 0) o.no), (.slice ao2 n2 cc2)] 28) := by rw [← hWe]; exact heap_setCell_same _ _ _ _ _ _ (heap_setCell_same _ _ _ _ _ _ Hgb.out)
        obtain ⟨Me, Pe⟩ := HMc.out.stored hk HDc.out HUc.out HBc.out tE hE
        have HP1n := HP1.out.stays HBc.out HNE.out tE
        clear HP1
        have HP1 : Hid (Pk w lab _ _ k _ _ _ _) := HP1n
        clear HP1n
        clear g0 g1 z0 z1 g1n z1n Hgb tE hE hWe HMc HDc HUc HBc HNE
        have x0 := Me.pl.cell 2 _ rfl
        have x5 := Me.at 2 (.int .i64 o.no) rfl
        have HMe : Hid (Md w0 w We2 lab _ k pb a b _ st lg _ _ es o w.heap.size) := Me
        have HPe : Hid (Pk w lab We2 _ k (We1.heap.size) _ _ (.slice ao2 n2 cc2)) := Pe
        clear Me Pe
        refine hK.out _ _ ⟨x0, x5⟩ (fun hHeld => ?_)
        clear hK KK
        try simp only [Act.put, List.setIfInBounds_toArray, List.set_cons_zero, List.set_cons_succ]
        refine wpAnyH_take (i := 14) (oi := ⟨some 10, .assign (.tmp 43), 3, "law.go:124", #[⟨11, .data⟩, ⟨13, .chain⟩, ⟨0, .phase⟩, ⟨1, .phase⟩, ⟨2, .phase⟩, ⟨3, .phase⟩, ⟨4, .phase⟩, ⟨5, .phase⟩, ⟨6, .phase⟩, ⟨7, .phase⟩, ⟨8, .phase⟩, ⟨9, .phase⟩, ⟨10, .phase⟩, ⟨11, .phase⟩, ⟨12, .phase⟩, ⟨13, .phase⟩], none⟩) (v := (.int .i64 (takeE (S 0) o.no))) rfl (by kernel_rfl) (by kernel_rfl) (by kernel_rfl) (fun _ _ _ h => h) (Or.inl ⟨by rfl, fun _ _ => by rfl⟩) hHeld ?_
        simp only [Act.put, List.setIfInBounds_toArray, List.set_cons_zero, List.set_cons_succ]
        refine wpAnyH_done (by kernel_rfl) ?_ _
        clear x0 x5
        have HP2 := HPe
        clear HPe
        generalize We1.heap.size = b2 at HP2 ⊢
        have k1 := HP1.out.c1
        have m1 := HP2.out.c1
        have hs := same_any ao1 ao2 n1 n2 cc1 cc2 (takeD (S 0) o.no) (takeD (S 0) o.no) We2 (by have := HP1.out.da.len; have := HP1.out.da.len_eq; omega) (HP1.out.da.lies HP1.out.da.len_eq) (HP2.out.da.lies HP2.out.da.len_eq)
        go_wp2_with fail
        refine hs.mono ?_
        rintro e w9 ⟨rfl, m9, hw9⟩
        have b9 : Below We2.heap.size We2 w9 := by rw [hw9]; exact below_drewN We2 m9
        have M9 := HMe.out.below hk b9
        have P9 := (Fr.below (k := k) b9 (k + 6)).pk HP1.out
        have Q9 := (Fr.below (k := k) b9 (k + 6)).pk HP2.out
        clear k1 m1 hs hw9 HP1 HP2 HMe
        have k0 := P9.c0
        have k1 := P9.c1
        have m0 := Q9.c0
        have p6 := M9.pl.cell 6 _ rfl
        have p4 := M9.pl.cell 4 _ rfl
        have HM9 : Hid (Md w0 w w9 lab _ k pb a b (.slice ba es.length bc) st lg _ _ es o w.heap.size) := M9
        have HP9 : Hid (Pk w lab w9 _ k b1 _ _ _) := P9
        have hdd : decide (takeD (S 0) o.no = takeD (S 0) o.no) = true := decide_eq_true rfl
        have hbb : (takeE (S 0) o.no == takeE (S 0) o.no) = true := by simp
        have htt : (takeT (S 0) o.no == takeT (S 0) o.no) = true := by simp
        clear M9 P9 Q9 b9
        cases lg with
        | true =>
          go_wp2_with (first | (go_at_call 13; refine (num_any _ _).mono ?_; rintro e w8 ⟨rfl, rfl⟩) | fail)
          go_ret
          exact ⟨rfl, _, _, _, _, HM9.out.pl, HM9.out.fr, fun q => by omega⟩
        | false =>
          go_wp2_with (first | (go_at_call 13; refine (num_any _ _).mono ?_; rintro e w8 ⟨rfl, rfl⟩) | fail)
          have M10 := HM9.out.below hk (below_drewN w8 1)
          have P10 := (Fr.below (k := k) (below_drewN w8 1) (k + 6)).pk HP9.out
          have hnb : pb ≠ b1 := fun q => by have h1 := M10.pl.lb; have h2 := P10.hx; rw [← q] at h2; omega
          have HNB : Hid (pb ≠ b1) := hnb
          have hmk := mark_any M10.pl 1
          have hln : n1 ≤ 4096 := by have h1 := P10.da.len_eq; have h2 := HSh.out (by first | rfl | trivial); omega
          have hkp := fun m => keep_any M10.pl.bk (.slice ao1 n1 cc1) _ _ P10.da.own (fun i q r => by have h1 := P10.da.lb i q; have h2 : _ = k + 4 := r; omega) (by have h1 := P10.da.len_eq; omega) (by omega) m
          have HM10 : Hid (Md w0 w (w8.drewN 1) lab _ k pb a b (.slice ba es.length bc) st false _ _ es o w.heap.size) := M10
          have HP10 : Hid (Pk w lab (w8.drewN 1) _ k b1 _ _ (.slice ao1 n1 cc1)) := P10
          clear M10 P10 hnb HM9 HP9 k0 m0 p6
          refine wp_region_held_drew (S := fun w' => w'.cell? ⟨b1, 1, none⟩ = some (.slice ao1 n1 cc1)) (by kernel_rfl) k1 (fun hHeld => ?_)
          refine wpAnyH_take (i := 0) (oi := ⟨some 69, .move (.tmp 0), 66, "law.go:130", #[], none⟩) (v := (.pointer (some ⟨pb, 0, none⟩))) rfl (by kernel_rfl) (by kernel_rfl) (by kernel_rfl) (fun _ _ _ h => h) (Or.inl ⟨by rfl, fun _ _ => by rfl⟩) hHeld ?_
          simp only [Act.put, List.setIfInBounds_toArray, List.set_cons_zero, List.set_cons_succ]
          refine wpAnyH_take (i := 1) (oi := ⟨some 70, .move (.tmp 0), 66, "law.go:130", #[], none⟩) (v := (.pointer (some ⟨pb, 0, none⟩))) rfl (by kernel_rfl) (by kernel_rfl) (by kernel_rfl) (fun _ _ _ h => h) (Or.inl ⟨by rfl, fun _ _ => by rfl⟩) hHeld ?_
          simp only [Act.put, List.setIfInBounds_toArray, List.set_cons_zero, List.set_cons_succ]
          refine wpAnyH_take (i := 2) (oi := ⟨some 71, .nilCheck (.tmp 70), 0, "law.go:130", #[⟨1, .data⟩], none⟩) (v := (.pointer (some ⟨pb, 0, none⟩))) rfl (by kernel_rfl) (by kernel_rfl) (by kernel_rfl) (fun _ _ _ h => h) (Or.inl ⟨by rfl, fun _ _ => by rfl⟩) hHeld ?_
          simp only [Act.put, List.setIfInBounds_toArray, List.set_cons_zero, List.set_cons_succ]
          refine wpAnyH_take (i := 3) (oi := ⟨some 72, .fieldAddr 71 (.tmp 71) 2, 0, "law.go:130", #[⟨2, .data⟩], none⟩) (v := (.pointer (some ⟨pb, 4, none⟩))) rfl (by kernel_rfl) (by kernel_rfl) (by kernel_rfl) (fun _ _ _ h => h) (Or.inl ⟨by rfl, fun _ _ => by rfl⟩) hHeld ?_
          simp only [Act.put, List.setIfInBounds_toArray, List.set_cons_zero, List.set_cons_succ]
          refine wpAnyH_take (i := 5) (oi := ⟨some 74, .fieldAddr 28 (.tmp 7) 1, 0, "law.go:130", #[], none⟩) (v := (.pointer (some ⟨b1, 1, none⟩))) rfl (by kernel_rfl) (by kernel_rfl) (by kernel_rfl) (fun _ _ _ h => h) (Or.inl ⟨by rfl, fun _ _ => by rfl⟩) hHeld ?_
          simp only [Act.put, List.setIfInBounds_toArray, List.set_cons_zero, List.set_cons_succ]
          refine wpAnyH_take (i := 6) (oi := ⟨some 75, .load 22 (.tmp 74), 22, "law.go:130", #[⟨5, .data⟩], none⟩) (v := (.slice ao1 n1 cc1)) rfl (by kernel_rfl) (by kernel_rfl) (by kernel_rfl) (fun _ _ _ h => h) (Or.inl ⟨by rfl, fun w' h' => by unfold execOp; go_simp⟩) hHeld ?_
          simp only [Act.put, List.setIfInBounds_toArray, List.set_cons_zero, List.set_cons_succ]
          refine wpAnyH_take (i := 7) (oi := ⟨some 76, .move (.tmp 0), 66, "law.go:130", #[], none⟩) (v := (.pointer (some ⟨pb, 0, none⟩))) rfl (by kernel_rfl) (by kernel_rfl) (by kernel_rfl) (fun _ _ _ h => h) (Or.inl ⟨by rfl, fun _ _ => by rfl⟩) hHeld ?_
          simp only [Act.put, List.setIfInBounds_toArray, List.set_cons_zero, List.set_cons_succ]
          refine wpAnyH_ready (rs := [4, 8]) (by kernel_rfl) (by simp) ?_
          refine AllReadyH.cons (o := ⟨some 73, .load 69 (.tmp 72), 69, "law.go:130", #[⟨3, .data⟩], none⟩) rfl (fun KK hK => ?_) (AllReadyH.cons (o := ⟨some 77, .call ⟨.value (.func 47), #[.tmp 76, .const (.int .i64 1)], #[66, 3]⟩, 5, "law.go:130", #[⟨7, .data⟩], none⟩) rfl (fun KK hK => ?_) (AllReadyH.nil))
          · go_simp
            refine hK.out _ _ hHeld (fun hHeld => ?_)
            clear hK KK
            try simp only [Act.put, List.setIfInBounds_toArray, List.set_cons_zero, List.set_cons_succ]
            refine wpAnyH_ready (rs := [8]) (by kernel_rfl) (by simp) ?_
            refine AllReadyH.cons (o := ⟨some 77, .call ⟨.value (.func 47), #[.tmp 76, .const (.int .i64 1)], #[66, 3]⟩, 5, "law.go:130", #[⟨7, .data⟩], none⟩) rfl (fun KK hK => ?_) (AllReadyH.nil)
            go_simp
            refine hmk.mono ?_
            rintro e wm ⟨mm, rfl, rfl⟩
            go_wp2_with fail
            refine hK.out _ _ hHeld (fun hHeld => ?_)
            clear hK KK
            try simp only [Act.put, List.setIfInBounds_toArray, List.set_cons_zero, List.set_cons_succ]
            refine wpAnyH_ready (rs := [9]) (by kernel_rfl) (by simp) ?_
            refine AllReadyH.cons (o := ⟨some 78, .call ⟨.value (.func 46), #[.tmp 73, .tmp 75, .tmp 77], #[69, 22, 5]⟩, 69, "law.go:130", #[⟨4, .data⟩, ⟨6, .data⟩, ⟨8, .data⟩, ⟨8, .chain⟩], none⟩) rfl (fun KK hK => ?_) (AllReadyH.nil)
            go_simp
            refine (hkp mm).mono ?_
            rintro e wk ⟨bv', rfl, K3⟩
            have HK3 : Hid (Kept3 _ _ _ _ _ _ _) := K3
            obtain ⟨fs, _, hB, hT⟩ := K3
            obtain ⟨ba', bc', hbv'⟩ := tl_slice hB.row
            generalize (es ++ fs).length = E' at hbv'
            clear hB
            subst hbv'
            have nb : ¬ ((Value.slice ba es.length bc).ownBlock = some pb ∨ (Value.slice ao1 n1 cc1).ownBlock = some pb) := fun q => q.elim (fun r => by have h1 : _ = k + 4 := HM10.out.pl.bk.kb pb r; have h2 := HM10.out.pl.lb; omega) (fun r => by have h1 := HP10.out.da.lb pb r; have h2 := HM10.out.pl.lb; omega)
            have nx : ¬ ((Value.slice ba es.length bc).ownBlock = some b1 ∨ (Value.slice ao1 n1 cc1).ownBlock = some b1) := fun q => q.elim (fun r => by have h1 : _ = k + 4 := HM10.out.pl.bk.kb b1 r; have h2 := HP10.out.hx; omega) (fun r => own_typ HP10.out.da.own HP10.out.hb (by decide) r)
            have zk := (hT.block pb (heap_lt HM10.out.pl.box) nb).trans HM10.out.pl.box
            have zx := (hT.block b1 (heap_lt HP10.out.hb) nx).trans HP10.out.hb
            have fk : wk.frozen? ⟨pb, 4, none⟩ = false := by simp [World.frozen?, zk]
            have ck : wk.cell? ⟨pb, 4, none⟩ = some (.slice ba es.length bc) := by simp [World.cell?, zk]
            have kx : wk.cell? ⟨b1, 1, none⟩ = some (.slice ao1 n1 cc1) := by simp [World.cell?, zx]
            have kx2 : ∀ u, (wk.setCell ⟨pb, 4, none⟩ u).cell? ⟨b1, 1, none⟩ = some (.slice ao1 n1 cc1) := fun u => (World.cell?_setCell_far wk ⟨pb, 4, none⟩ ⟨b1, 1, none⟩ u HNB.out).trans kx
            have HZk : Hid (wk.heap[pb]? = _) := zk
            clear zk zx hT nb nx
            go_wp2_with fail
            refine hK.out _ _ kx (fun hHeld => ?_)
            clear hK KK
            try simp only [Act.put, List.setIfInBounds_toArray, List.set_cons_zero, List.set_cons_succ]
            refine wpAnyH_take (i := 10) (oi := ⟨some 79, .nilCheck (.tmp 69), 0, "law.go:130", #[⟨0, .data⟩, ⟨0, .phase⟩, ⟨1, .phase⟩, ⟨2, .phase⟩, ⟨3, .phase⟩, ⟨4, .phase⟩, ⟨5, .phase⟩, ⟨6, .phase⟩, ⟨7, .phase⟩, ⟨8, .phase⟩, ⟨9, .phase⟩], none⟩) (v := (.pointer (some ⟨pb, 0, none⟩))) rfl (by kernel_rfl) (by kernel_rfl) (by kernel_rfl) (fun _ _ _ h => h) (Or.inl ⟨by rfl, fun _ _ => by rfl⟩) hHeld ?_
            simp only [Act.put, List.setIfInBounds_toArray, List.set_cons_zero, List.set_cons_succ]
            refine wpAnyH_take (i := 11) (oi := ⟨some 80, .fieldAddr 71 (.tmp 79) 2, 0, "law.go:130", #[⟨10, .data⟩, ⟨0, .phase⟩, ⟨1, .phase⟩, ⟨2, .phase⟩, ⟨3, .phase⟩, ⟨4, .phase⟩, ⟨5, .phase⟩, ⟨6, .phase⟩, ⟨7, .phase⟩, ⟨8, .phase⟩, ⟨9, .phase⟩], none⟩) (v := (.pointer (some ⟨pb, 4, none⟩))) rfl (by kernel_rfl) (by kernel_rfl) (by kernel_rfl) (fun _ _ _ h => h) (Or.inl ⟨by rfl, fun _ _ => by rfl⟩) hHeld ?_
            simp only [Act.put, List.setIfInBounds_toArray, List.set_cons_zero, List.set_cons_succ]
            refine wpAnyH_ready (rs := [12]) (by kernel_rfl) (by simp) ?_
            refine AllReadyH.cons (o := ⟨none, .store 69 (.tmp 80) (.tmp 78), 0, "law.go:130", #[⟨11, .data⟩, ⟨9, .data⟩, ⟨9, .chain⟩, ⟨0, .phase⟩, ⟨1, .phase⟩, ⟨2, .phase⟩, ⟨3, .phase⟩, ⟨4, .phase⟩, ⟨5, .phase⟩, ⟨6, .phase⟩, ⟨7, .phase⟩, ⟨8, .phase⟩, ⟨9, .phase⟩], none⟩) rfl (fun KK hK => ?_) (AllReadyH.nil)
            go_simp
            refine hK.out _ _ (kx2 _) (fun hHeld => ?_)
            clear hK KK
            try simp only [Act.put, List.setIfInBounds_toArray, List.set_cons_zero, List.set_cons_succ]
            refine wpAnyH_done (by kernel_rfl) ?_ _
            obtain ⟨wl, hwl⟩ : ∃ x, wk.setCell ⟨pb, 4, none⟩ (.slice ba' E' bc') = x := ⟨_, rfl⟩
            rw [hwl]
            have ul : Turns (fun i => i = pb) wk wl := by rw [← hwl]; exact Turns.cell wk pb 4 _
            have zl : wl.heap[pb]? = some (.cells (plC a b (.slice ba' E' bc') st false) 71 (0, 0)) := by rw [← hwl]; exact heap_setCell_same _ _ _ _ _ _ HZk.out
            have hB := HM10.out.booked hk HK3.out HP10.out.da.own HP10.out.da.lb HP10.out.us ul zl (by omega)
            have HB : Hid _ := hB
            clear hB ul zl HK3 HM10 hkp hmk HZk fk ck kx kx2 hwl hHeld
            go_wp2_with fail
            go_ret
            obtain ⟨L', es', he', M11, _⟩ := HB.out
            exact ⟨rfl, L', _, _, es', M11.pl, M11.fr, fun q => by omega⟩
          · go_simp
            refine hmk.mono ?_
            rintro e wm ⟨mm, rfl, rfl⟩
            go_wp2_with fail
            refine hK.out _ _ hHeld (fun hHeld => ?_)
            clear hK KK
            try simp only [Act.put, List.setIfInBounds_toArray, List.set_cons_zero, List.set_cons_succ]
            refine wpAnyH_ready (rs := [4]) (by kernel_rfl) (by simp) ?_
            refine AllReadyH.cons (o := ⟨some 73, .load 69 (.tmp 72), 69, "law.go:130", #[⟨3, .data⟩], none⟩) rfl (fun KK hK => ?_) (AllReadyH.nil)
            go_simp
            refine hK.out _ _ hHeld (fun hHeld => ?_)
            clear hK KK
            try simp only [Act.put, List.setIfInBounds_toArray, List.set_cons_zero, List.set_cons_succ]
            refine wpAnyH_ready (rs := [9]) (by kernel_rfl) (by simp) ?_
            refine AllReadyH.cons (o := ⟨some 78, .call ⟨.value (.func 46), #[.tmp 73, .tmp 75, .tmp 77], #[69, 22, 5]⟩, 69, "law.go:130", #[⟨4, .data⟩, ⟨6, .data⟩, ⟨8, .data⟩, ⟨8, .chain⟩], none⟩) rfl (fun KK hK => ?_) (AllReadyH.nil)
            go_simp
            refine (hkp mm).mono ?_
            rintro e wk ⟨bv', rfl, K3⟩
            have HK3 : Hid (Kept3 _ _ _ _ _ _ _) := K3
            obtain ⟨fs, _, hB, hT⟩ := K3
            obtain ⟨ba', bc', hbv'⟩ := tl_slice hB.row
            generalize (es ++ fs).length = E' at hbv'
            clear hB
            subst hbv'
            have nb : ¬ ((Value.slice ba es.length bc).ownBlock = some pb ∨ (Value.slice ao1 n1 cc1).ownBlock = some pb) := fun q => q.elim (fun r => by have h1 : _ = k + 4 := HM10.out.pl.bk.kb pb r; have h2 := HM10.out.pl.lb; omega) (fun r => by have h1 := HP10.out.da.lb pb r; have h2 := HM10.out.pl.lb; omega)
            have nx : ¬ ((Value.slice ba es.length bc).ownBlock = some b1 ∨ (Value.slice ao1 n1 cc1).ownBlock = some b1) := fun q => q.elim (fun r => by have h1 : _ = k + 4 := HM10.out.pl.bk.kb b1 r; have h2 := HP10.out.hx; omega) (fun r => own_typ HP10.out.da.own HP10.out.hb (by decide) r)
            have zk := (hT.block pb (heap_lt HM10.out.pl.box) nb).trans HM10.out.pl.box
            have zx := (hT.block b1 (heap_lt HP10.out.hb) nx).trans HP10.out.hb
            have fk : wk.frozen? ⟨pb, 4, none⟩ = false := by simp [World.frozen?, zk]
            have ck : wk.cell? ⟨pb, 4, none⟩ = some (.slice ba es.length bc) := by simp [World.cell?, zk]
            have kx : wk.cell? ⟨b1, 1, none⟩ = some (.slice ao1 n1 cc1) := by simp [World.cell?, zx]
            have kx2 : ∀ u, (wk.setCell ⟨pb, 4, none⟩ u).cell? ⟨b1, 1, none⟩ = some (.slice ao1 n1 cc1) := fun u => (World.cell?_setCell_far wk ⟨pb, 4, none⟩ ⟨b1, 1, none⟩ u HNB.out).trans kx
            have HZk : Hid (wk.heap[pb]? = _) := zk
            clear zk zx hT nb nx
            go_wp2_with fail
            refine hK.out _ _ kx (fun hHeld => ?_)
            clear hK KK
            try simp only [Act.put, List.setIfInBounds_toArray, List.set_cons_zero, List.set_cons_succ]
            refine wpAnyH_take (i := 10) (oi := ⟨some 79, .nilCheck (.tmp 69), 0, "law.go:130", #[⟨0, .data⟩, ⟨0, .phase⟩, ⟨1, .phase⟩, ⟨2, .phase⟩, ⟨3, .phase⟩, ⟨4, .phase⟩, ⟨5, .phase⟩, ⟨6, .phase⟩, ⟨7, .phase⟩, ⟨8, .phase⟩, ⟨9, .phase⟩], none⟩) (v := (.pointer (some ⟨pb, 0, none⟩))) rfl (by kernel_rfl) (by kernel_rfl) (by kernel_rfl) (fun _ _ _ h => h) (Or.inl ⟨by rfl, fun _ _ => by rfl⟩) hHeld ?_
            simp only [Act.put, List.setIfInBounds_toArray, List.set_cons_zero, List.set_cons_succ]
            refine wpAnyH_take (i := 11) (oi := ⟨some 80, .fieldAddr 71 (.tmp 79) 2, 0, "law.go:130", #[⟨10, .data⟩, ⟨0, .phase⟩, ⟨1, .phase⟩, ⟨2, .phase⟩, ⟨3, .phase⟩, ⟨4, .phase⟩, ⟨5, .phase⟩, ⟨6, .phase⟩, ⟨7, .phase⟩, ⟨8, .phase⟩, ⟨9, .phase⟩], none⟩) (v := (.pointer (some ⟨pb, 4, none⟩))) rfl (by kernel_rfl) (by kernel_rfl) (by kernel_rfl) (fun _ _ _ h => h) (Or.inl ⟨by rfl, fun _ _ => by rfl⟩) hHeld ?_
            simp only [Act.put, List.setIfInBounds_toArray, List.set_cons_zero, List.set_cons_succ]
            refine wpAnyH_ready (rs := [12]) (by kernel_rfl) (by simp) ?_
            refine AllReadyH.cons (o := ⟨none, .store 69 (.tmp 80) (.tmp 78), 0, "law.go:130", #[⟨11, .data⟩, ⟨9, .data⟩, ⟨9, .chain⟩, ⟨0, .phase⟩, ⟨1, .phase⟩, ⟨2, .phase⟩, ⟨3, .phase⟩, ⟨4, .phase⟩, ⟨5, .phase⟩, ⟨6, .phase⟩, ⟨7, .phase⟩, ⟨8, .phase⟩, ⟨9, .phase⟩], none⟩) rfl (fun KK hK => ?_) (AllReadyH.nil)
            go_simp
            refine hK.out _ _ (kx2 _) (fun hHeld => ?_)
            clear hK KK
            try simp only [Act.put, List.setIfInBounds_toArray, List.set_cons_zero, List.set_cons_succ]
            refine wpAnyH_done (by kernel_rfl) ?_ _
            obtain ⟨wl, hwl⟩ : ∃ x, wk.setCell ⟨pb, 4, none⟩ (.slice ba' E' bc') = x := ⟨_, rfl⟩
            rw [hwl]
            have ul : Turns (fun i => i = pb) wk wl := by rw [← hwl]; exact Turns.cell wk pb 4 _
            have zl : wl.heap[pb]? = some (.cells (plC a b (.slice ba' E' bc') st false) 71 (0, 0)) := by rw [← hwl]; exact heap_setCell_same _ _ _ _ _ _ HZk.out
            have hB := HM10.out.booked hk HK3.out HP10.out.da.own HP10.out.da.lb HP10.out.us ul zl (by omega)
            have HB : Hid _ := hB
            clear hB ul zl HK3 HM10 hkp hmk HZk fk ck kx kx2 hwl hHeld
            go_wp2_with fail
            go_ret
            obtain ⟨L', es', he', M11, _⟩ := HB.out
            exact ⟨rfl, L', _, _, es', M11.pl, M11.fr, fun q => by omega⟩
  · rw [show ((1 : Nat) : Int) = 1 from rfl]
    go_enter Try.func38, Try.ntmps38
    go_wp2_with fail
    refine wp_region_held_drew (S := fun w' => w'.cell? ⟨pb, 1, none⟩ = some (.pointer (some ⟨a 1, 0, none⟩)) ∧ w'.cell? ⟨w.heap.size, 2, none⟩ = some (.int .i64 o.no)) (by kernel_rfl) ⟨p1, o2⟩ (fun hHeld => ?_)
    refine wpAnyH_take (i := 0) (oi := ⟨some 21, .move (.tmp 0), 66, "law.go:123", #[], none⟩) (v := (.pointer (some ⟨pb, 0, none⟩))) rfl (by kernel_rfl) (by kernel_rfl) (by kernel_rfl) (fun _ _ _ h => h) (Or.inl ⟨by rfl, fun _ _ => by rfl⟩) hHeld ?_
    simp only [Act.put, List.setIfInBounds_toArray, List.set_cons_zero, List.set_cons_succ]
    refine wpAnyH_take (i := 1) (oi := ⟨some 22, .move (.tmp 1), 3, "law.go:123", #[], none⟩) (v := (.int .i64 1)) rfl (by kernel_rfl) (by kernel_rfl) (by kernel_rfl) (fun _ _ _ h => h) (Or.inl ⟨by rfl, fun _ _ => by rfl⟩) hHeld ?_
    simp only [Act.put, List.setIfInBounds_toArray, List.set_cons_zero, List.set_cons_succ]
    refine wpAnyH_take (i := 2) (oi := ⟨some 23, .nilCheck (.tmp 21), 0, "law.go:123", #[⟨0, .data⟩], none⟩) (v := (.pointer (some ⟨pb, 0, none⟩))) rfl (by kernel_rfl) (by kernel_rfl) (by kernel_rfl) (fun _ _ _ h => h) (Or.inl ⟨by rfl, fun _ _ => by rfl⟩) hHeld ?_
    simp only [Act.put, List.setIfInBounds_toArray, List.set_cons_zero, List.set_cons_succ]
    refine wpAnyH_take (i := 3) (oi := ⟨some 24, .fieldAddr 71 (.tmp 23) 0, 0, "law.go:123", #[⟨2, .data⟩], none⟩) (v := (.pointer (some ⟨pb, 0, none⟩))) rfl (by kernel_rfl) (by kernel_rfl) (by kernel_rfl) (fun _ _ _ h => h) (Or.inl ⟨by rfl, fun _ _ => by rfl⟩) hHeld ?_
    simp only [Act.put, List.setIfInBounds_toArray, List.set_cons_zero, List.set_cons_succ]
    refine wpAnyH_take (i := 4) (oi := ⟨some 25, .indexAddr 67 (.tmp 24) (.tmp 22), 0, "law.go:123", #[⟨3, .data⟩, ⟨1, .data⟩], none⟩) (v := (.pointer (some ⟨pb, 1, none⟩))) rfl (by kernel_rfl) (by kernel_rfl) (by kernel_rfl) (fun _ _ _ h => h) (Or.inl ⟨by rfl, fun w' h' => by unfold execOp; go_simp⟩) hHeld ?_
    simp only [Act.put, List.setIfInBounds_toArray, List.set_cons_zero, List.set_cons_succ]
    refine wpAnyH_take (i := 5) (oi := ⟨some 26, .load 24 (.tmp 25), 24, "law.go:123", #[⟨4, .data⟩], none⟩) (v := (.pointer (some ⟨a 1, 0, none⟩))) rfl (by kernel_rfl) (by kernel_rfl) (by kernel_rfl) (fun _ _ _ h => h) (Or.inl ⟨by rfl, fun w' h' => by have e1 := h'.1; have e2 := h'.2; unfold execOp; go_simp⟩) hHeld ?_
    simp only [Act.put, List.setIfInBounds_toArray, List.set_cons_zero, List.set_cons_succ]
    refine wpAnyH_take (i := 6) (oi := ⟨some 27, .fieldAddr 59 (.tmp 5) 2, 0, "law.go:123", #[], none⟩) (v := (.pointer (some ⟨w.heap.size, 2, none⟩))) rfl (by kernel_rfl) (by kernel_rfl) (by kernel_rfl) (fun _ _ _ h => h) (Or.inl ⟨by rfl, fun _ _ => by rfl⟩) hHeld ?_
    simp only [Act.put, List.setIfInBounds_toArray, List.set_cons_zero, List.set_cons_succ]
    refine wpAnyH_take (i := 7) (oi := ⟨some 28, .load 3 (.tmp 27), 3, "law.go:123", #[⟨6, .data⟩], none⟩) (v := (.int .i64 o.no)) rfl (by kernel_rfl) (by kernel_rfl) (by kernel_rfl) (fun _ _ _ h => h) (Or.inl ⟨by rfl, fun w' h' => by have e1 := h'.1; have e2 := h'.2; unfold execOp; go_simp⟩) hHeld ?_
    simp only [Act.put, List.setIfInBounds_toArray, List.set_cons_zero, List.set_cons_succ]
    refine wpAnyH_ready (rs := [8, 12]) (by kernel_rfl) (by simp) ?_
    refine AllReadyH.cons (o := ⟨some 29, .call ⟨.value (.func 16), #[.tmp 26, .tmp 28], #[24, 3]⟩, 38, "law.go:123", #[⟨5, .data⟩, ⟨7, .data⟩], none⟩) rfl (fun KK hK => ?_) (AllReadyH.cons (o := ⟨some 7, .alloc 28, 0, "law.go:123", #[], none⟩) rfl (fun KK hK => ?_) (AllReadyH.nil))
    · go_simp
      refine (HM2.out.take hk hc hno).mono ?_
      rintro e Wc1 ⟨ao1, n1, cc1, Lc, rfl, Mc, Dc, Fc, Uc⟩
      have x0 := Mc.pl.cell 1 _ rfl
      have x5 := Mc.at 2 (.int .i64 o.no) rfl
      have HMc : Hid (Md w0 w Wc1 lab Lc k pb a b _ st lg _ _ es o w.heap.size) := Mc
      have HDc : Hid (Da Wc1 Lc (k + 6) _ (.slice ao1 n1 cc1)) := Dc
      have HUc : Hid (Ours w lab k (.slice ao1 n1 cc1)) := Uc
      clear Mc Dc Fc Uc HM2
      go_wp2_with fail
      refine hK.out _ _ ⟨x0, x5⟩ (fun hHeld => ?_)
      clear hK KK
      try simp only [Act.put, List.setIfInBounds_toArray, List.set_cons_zero, List.set_cons_succ]
      refine wpAnyH_take (i := 9) (oi := ⟨some 20, .move (.tmp 29), 38, "law.go:123", #[⟨8, .data⟩], none⟩) (v := (.tuple #[.agg #[.int .i64 (takeT (S 1) o.no), (.slice ao1 n1 cc1)], .int .i64 (takeE (S 1) o.no)])) rfl (by kernel_rfl) (by kernel_rfl) (by kernel_rfl) (fun _ _ _ h => h) (Or.inl ⟨by rfl, fun _ _ => by rfl⟩) hHeld ?_
      simp only [Act.put, List.setIfInBounds_toArray, List.set_cons_zero, List.set_cons_succ]
      refine wpAnyH_take (i := 10) (oi := ⟨some 30, .extract (.tmp 20) 0, 28, "law.go:123", #[⟨9, .data⟩], none⟩) (v := (.agg #[.int .i64 (takeT (S 1) o.no), (.slice ao1 n1 cc1)])) rfl (by kernel_rfl) (by kernel_rfl) (by kernel_rfl) (fun _ _ _ h => h) (Or.inl ⟨by rfl, fun _ _ => by rfl⟩) hHeld ?_
      simp only [Act.put, List.setIfInBounds_toArray, List.set_cons_zero, List.set_cons_succ]
      refine wpAnyH_take (i := 11) (oi := ⟨some 31, .extract (.tmp 20) 1, 29, "law.go:123", #[⟨9, .data⟩, ⟨13, .gcOnly .lateStores⟩], none⟩) (v := (.int .i64 (takeE (S 1) o.no))) rfl (by kernel_rfl) (by kernel_rfl) (by kernel_rfl) (fun _ _ _ h => h) (Or.inl ⟨by rfl, fun _ _ => by rfl⟩) hHeld ?_
      simp only [Act.put, List.setIfInBounds_toArray, List.set_cons_zero, List.set_cons_succ]
      refine wpAnyH_ready (rs := [12]) (by kernel_rfl) (by simp) ?_
      refine AllReadyH.cons (o := ⟨some 7, .alloc 28, 0, "law.go:123", #[], none⟩) rfl (fun KK hK => ?_) (AllReadyH.nil)
      go_simp
      obtain ⟨Wb1, hWb⟩ : ∃ x, Wc1.alloc (.cells #[.int .i64 0, .slice none 0 0] 28) = x := ⟨_, rfl⟩
      obtain ⟨Mb, Bb, Fb⟩ := HMc.out.box hk _ hWb.symm
      rw [hWb]
      clear x0 x5
      have x0 := Mb.pl.cell 1 _ rfl
      have x5 := Mb.at 2 (.int .i64 o.no) rfl
      have HDd := HDc.out
      clear HDc
      have HDc : Hid (Da Wb1 _ (k + 6) _ (.slice ao1 n1 cc1)) := Fb.da HDd
      clear HDd
      have HMb : Hid (Md w0 w Wb1 lab _ k pb a b _ st lg _ _ es o w.heap.size) := Mb
      have HBb : Hid (Bx w Wb1 _ k Wc1.heap.size _) := Bb
      clear Mb Bb Fb hWb HMc
      refine hK.out _ _ ⟨x0, x5⟩ (fun hHeld => ?_)
      clear hK KK
      try simp only [Act.put, List.setIfInBounds_toArray, List.set_cons_zero, List.set_cons_succ]
      refine wpAnyH_ready (rs := [13]) (by kernel_rfl) (by simp) ?_
      refine AllReadyH.cons (o := ⟨none, .store 28 (.tmp 7) (.tmp 30), 0, "law.go:123", #[⟨12, .data⟩, ⟨10, .data⟩, ⟨8, .chain⟩, ⟨0, .phase⟩, ⟨1, .phase⟩, ⟨2, .phase⟩, ⟨3, .phase⟩, ⟨4, .phase⟩, ⟨5, .phase⟩, ⟨6, .phase⟩, ⟨7, .phase⟩, ⟨8, .phase⟩, ⟨9, .phase⟩, ⟨10, .phase⟩, ⟨11, .textOnly .lateStores⟩, ⟨12, .phase⟩], none⟩) rfl (fun KK hK => ?_) (AllReadyH.nil)
      clear x0 x5
      have gb := HBb.out.hb
      have g0 : Wb1.cell? ⟨Wc1.heap.size, 0, none⟩ = some (.int .i64 0) := by simp [World.cell?, gb]
      have g1 : Wb1.cell? ⟨Wc1.heap.size, 1, none⟩ = some (.slice none 0 0) := by simp [World.cell?, gb]
      have z0 : Wb1.frozen? ⟨Wc1.heap.size, 0, none⟩ = false := by simp [World.frozen?, gb]
      have z1 : Wb1.frozen? ⟨Wc1.heap.size, 1, none⟩ = false := by simp [World.frozen?, gb]
      have hS1 := heap_setCell_same Wb1 (Wc1.heap.size) 0 _ _ (.int .i64 (takeT (S 1) o.no)) gb
      have g1n : (Wb1.setCell ⟨Wc1.heap.size, 0, none⟩ (.int .i64 (takeT (S 1) o.no))).cell? ⟨Wc1.heap.size, 1, none⟩ = some (.slice none 0 0) := by simp [World.cell?, hS1]
      have z1n : (Wb1.setCell ⟨Wc1.heap.size, 0, none⟩ (.int .i64 (takeT (S 1) o.no))).frozen? ⟨Wc1.heap.size, 1, none⟩ = false := by simp [World.frozen?, hS1]
      clear hS1
      have Hgb : Hid (Wb1.heap[Wc1.heap.size]? = some (.cells #[.int .i64 0, .slice none 0 0] 28)) := gb
      clear gb
      go_simp
      obtain ⟨We1, hWe⟩ : ∃ y, (Wb1.setCell ⟨Wc1.heap.size, 0, none⟩ (.int .i64 (takeT (S 1) o.no))).setCell ⟨Wc1.heap.size, 1, none⟩ (.slice ao1 n1 cc1) = y := ⟨_, rfl⟩
      rw [hWe]
      have tE : Turns (fun i => i = Wc1.heap.size) Wb1 We1 := by rw [← hWe]; exact (Turns.cell Wb1 (Wc1.heap.size) 0 _).trans (Turns.cell _ (Wc1.heap.size) 1 _) (fun _ _ q => q)
      have hE : We1.heap[Wc1.heap.size]? = some (.cells #[.int .i64 (takeT (S 1) o.no), (.slice ao1 n1 cc1)] 28) := by rw [← hWe]; exact heap_setCell_same _ _ _ _ _ _ (heap_setCell_same _ _ _ _ _ _ Hgb.out)
      obtain ⟨Me, Pe⟩ := HMb.out.stored hk HDc.out HUc.out HBb.out tE hE
      clear g0 g1 z0 z1 g1n z1n Hgb tE hE hWe HMb HDc HUc HBb
      have x0 := Me.pl.cell 1 _ rfl
      have x5 := Me.at 2 (.int .i64 o.no) rfl
      have HMe : Hid (Md w0 w We1 lab _ k pb a b _ st lg _ _ es o w.heap.size) := Me
      have HPe : Hid (Pk w lab We1 _ k (Wc1.heap.size) _ _ (.slice ao1 n1 cc1)) := Pe
      clear Me Pe
      refine hK.out _ _ ⟨x0, x5⟩ (fun hHeld => ?_)
      clear hK KK
      try simp only [Act.put, List.setIfInBounds_toArray, List.set_cons_zero, List.set_cons_succ]
      refine wpAnyH_take (i := 14) (oi := ⟨some 8, .assign (.tmp 31), 29, "law.go:123", #[⟨11, .data⟩, ⟨13, .chain⟩, ⟨0, .phase⟩, ⟨1, .phase⟩, ⟨2, .phase⟩, ⟨3, .phase⟩, ⟨4, .phase⟩, ⟨5, .phase⟩, ⟨6, .phase⟩, ⟨7, .phase⟩, ⟨8, .phase⟩, ⟨9, .phase⟩, ⟨10, .phase⟩, ⟨11, .phase⟩, ⟨12, .phase⟩, ⟨13, .phase⟩], none⟩) (v := (.int .i64 (takeE (S 1) o.no))) rfl (by kernel_rfl) (by kernel_rfl) (by kernel_rfl) (fun _ _ _ h => h) (Or.inl ⟨by rfl, fun _ _ => by rfl⟩) hHeld ?_
      simp only [Act.put, List.setIfInBounds_toArray, List.set_cons_zero, List.set_cons_succ]
      refine wpAnyH_done (by kernel_rfl) ?_ _
      clear x0 x5
      have HP1 := HPe
      clear HPe
      generalize Wc1.heap.size = b1 at HP1 ⊢
      have M6 := HMe.out.below hk (below_drewN We1 1)
      have HP1n := (Fr.below (k := k) (below_drewN We1 1) (k + 6)).pk HP1.out
      clear HP1
      have HP1 : Hid (Pk w lab _ _ k b1 _ _ _) := HP1n
      have y2 := HMe.out.pl.cell 3 _ rfl
      have y5 := HMe.out.at 2 (.int .i64 o.no) rfl
      have HM6 : Hid (Md w0 w (We1.drewN 1) lab _ k pb a b _ st lg _ _ es o w.heap.size) := M6
      clear M6 HMe HP1n
      go_wp2_with fail
      refine wp_region_held_drew (S := fun w' => w'.cell? ⟨pb, 3, none⟩ = some (.pointer (some ⟨b 1, 0, none⟩)) ∧ w'.cell? ⟨w.heap.size, 2, none⟩ = some (.int .i64 o.no)) (by kernel_rfl) ⟨y2, y5⟩ (fun hHeld => ?_)
      refine wpAnyH_take (i := 0) (oi := ⟨some 33, .move (.tmp 0), 66, "law.go:124", #[], none⟩) (v := (.pointer (some ⟨pb, 0, none⟩))) rfl (by kernel_rfl) (by kernel_rfl) (by kernel_rfl) (fun _ _ _ h => h) (Or.inl ⟨by rfl, fun _ _ => by rfl⟩) hHeld ?_
      simp only [Act.put, List.setIfInBounds_toArray, List.set_cons_zero, List.set_cons_succ]
      refine wpAnyH_take (i := 1) (oi := ⟨some 34, .move (.tmp 1), 3, "law.go:124", #[], none⟩) (v := (.int .i64 1)) rfl (by kernel_rfl) (by kernel_rfl) (by kernel_rfl) (fun _ _ _ h => h) (Or.inl ⟨by rfl, fun _ _ => by rfl⟩) hHeld ?_
      simp only [Act.put, List.setIfInBounds_toArray, List.set_cons_zero, List.set_cons_succ]
      refine wpAnyH_take (i := 2) (oi := ⟨some 35, .nilCheck (.tmp 33), 0, "law.go:124", #[⟨0, .data⟩], none⟩) (v := (.pointer (some ⟨pb, 0, none⟩))) rfl (by kernel_rfl) (by kernel_rfl) (by kernel_rfl) (fun _ _ _ h => h) (Or.inl ⟨by rfl, fun _ _ => by rfl⟩) hHeld ?_
      simp only [Act.put, List.setIfInBounds_toArray, List.set_cons_zero, List.set_cons_succ]
      refine wpAnyH_take (i := 3) (oi := ⟨some 36, .fieldAddr 71 (.tmp 35) 1, 0, "law.go:124", #[⟨2, .data⟩], none⟩) (v := (.pointer (some ⟨pb, 2, none⟩))) rfl (by kernel_rfl) (by kernel_rfl) (by kernel_rfl) (fun _ _ _ h => h) (Or.inl ⟨by rfl, fun _ _ => by rfl⟩) hHeld ?_
      simp only [Act.put, List.setIfInBounds_toArray, List.set_cons_zero, List.set_cons_succ]
      refine wpAnyH_take (i := 4) (oi := ⟨some 37, .indexAddr 68 (.tmp 36) (.tmp 34), 0, "law.go:124", #[⟨3, .data⟩, ⟨1, .data⟩], none⟩) (v := (.pointer (some ⟨pb, 3, none⟩))) rfl (by kernel_rfl) (by kernel_rfl) (by kernel_rfl) (fun _ _ _ h => h) (Or.inl ⟨by rfl, fun w' h' => by unfold execOp; go_simp⟩) hHeld ?_
      simp only [Act.put, List.setIfInBounds_toArray, List.set_cons_zero, List.set_cons_succ]
      refine wpAnyH_take (i := 5) (oi := ⟨some 38, .load 52 (.tmp 37), 52, "law.go:124", #[⟨4, .data⟩], none⟩) (v := (.pointer (some ⟨b 1, 0, none⟩))) rfl (by kernel_rfl) (by kernel_rfl) (by kernel_rfl) (fun _ _ _ h => h) (Or.inl ⟨by rfl, fun w' h' => by have e1 := h'.1; have e2 := h'.2; unfold execOp; go_simp⟩) hHeld ?_
      simp only [Act.put, List.setIfInBounds_toArray, List.set_cons_zero, List.set_cons_succ]
      refine wpAnyH_take (i := 6) (oi := ⟨some 39, .fieldAddr 59 (.tmp 5) 2, 0, "law.go:124", #[], none⟩) (v := (.pointer (some ⟨w.heap.size, 2, none⟩))) rfl (by kernel_rfl) (by kernel_rfl) (by kernel_rfl) (fun _ _ _ h => h) (Or.inl ⟨by rfl, fun _ _ => by rfl⟩) hHeld ?_
      simp only [Act.put, List.setIfInBounds_toArray, List.set_cons_zero, List.set_cons_succ]
      refine wpAnyH_take (i := 7) (oi := ⟨some 40, .load 3 (.tmp 39), 3, "law.go:124", #[⟨6, .data⟩], none⟩) (v := (.int .i64 o.no)) rfl (by kernel_rfl) (by kernel_rfl) (by kernel_rfl) (fun _ _ _ h => h) (Or.inl ⟨by rfl, fun w' h' => by have e1 := h'.1; have e2 := h'.2; unfold execOp; go_simp⟩) hHeld ?_
      simp only [Act.put, List.setIfInBounds_toArray, List.set_cons_zero, List.set_cons_succ]
      refine wpAnyH_ready (rs := [8, 12]) (by kernel_rfl) (by simp) ?_
      refine AllReadyH.cons (o := ⟨some 41, .call ⟨.value (.func 22), #[.tmp 38, .tmp 40], #[52, 3]⟩, 60, "law.go:124", #[⟨5, .data⟩, ⟨7, .data⟩], none⟩) rfl (fun KK hK => ?_) (AllReadyH.cons (o := ⟨some 9, .alloc 28, 0, "law.go:124", #[], none⟩) rfl (fun KK hK => ?_) (AllReadyH.nil))
      · go_simp
        refine (HM6.out.dtake hk hc).mono ?_
        rintro e Wc2 ⟨ao2, n2, cc2, Lc, rfl, Mc, Dc, Fc, Uc⟩
        have x0 := Mc.pl.cell 3 _ rfl
        have x5 := Mc.at 2 (.int .i64 o.no) rfl
        have HMc : Hid (Md w0 w Wc2 lab Lc k pb a b _ st lg _ _ es o w.heap.size) := Mc
        have HDc : Hid (Da Wc2 Lc (k + 6) _ (.slice ao2 n2 cc2)) := Dc
        have HUc : Hid (Ours w lab k (.slice ao2 n2 cc2)) := Uc
        have HP1n := Fc.pk HP1.out
        clear HP1
        have HP1 : Hid (Pk w lab _ _ k _ _ _ _) := HP1n
        clear HP1n
        clear Mc Dc Fc Uc HM6
        go_wp2_with fail
        refine hK.out _ _ ⟨x0, x5⟩ (fun hHeld => ?_)
        clear hK KK
        try simp only [Act.put, List.setIfInBounds_toArray, List.set_cons_zero, List.set_cons_succ]
        refine wpAnyH_take (i := 9) (oi := ⟨some 32, .move (.tmp 41), 60, "law.go:124", #[⟨8, .data⟩], none⟩) (v := (.tuple #[.agg #[.int .i64 (takeT (S 1) o.no), (.slice ao2 n2 cc2)], .int .i64 (takeE (S 1) o.no)])) rfl (by kernel_rfl) (by kernel_rfl) (by kernel_rfl) (fun _ _ _ h => h) (Or.inl ⟨by rfl, fun _ _ => by rfl⟩) hHeld ?_
        simp only [Act.put, List.setIfInBounds_toArray, List.set_cons_zero, List.set_cons_succ]
        refine wpAnyH_take (i := 10) (oi := ⟨some 42, .extract (.tmp 32) 0, 28, "law.go:124", #[⟨9, .data⟩], none⟩) (v := (.agg #[.int .i64 (takeT (S 1) o.no), (.slice ao2 n2 cc2)])) rfl (by kernel_rfl) (by kernel_rfl) (by kernel_rfl) (fun _ _ _ h => h) (Or.inl ⟨by rfl, fun _ _ => by rfl⟩) hHeld ?_
        simp only [Act.put, List.setIfInBounds_toArray, List.set_cons_zero, List.set_cons_succ]
        refine wpAnyH_take (i := 11) (oi := ⟨some 43, .extract (.tmp 32) 1, 3, "law.go:124", #[⟨9, .data⟩, ⟨13, .gcOnly .lateStores⟩], none⟩) (v := (.int .i64 (takeE (S 1) o.no))) rfl (by kernel_rfl) (by kernel_rfl) (by kernel_rfl) (fun _ _ _ h => h) (Or.inl ⟨by rfl, fun _ _ => by rfl⟩) hHeld ?_
        simp only [Act.put, List.setIfInBounds_toArray, List.set_cons_zero, List.set_cons_succ]
        refine wpAnyH_ready (rs := [12]) (by kernel_rfl) (by simp) ?_
        refine AllReadyH.cons (o := ⟨some 9, .alloc 28, 0, "law.go:124", #[], none⟩) rfl (fun KK hK => ?_) (AllReadyH.nil)
        go_simp
        obtain ⟨Wb2, hWb⟩ : ∃ x, Wc2.alloc (.cells #[.int .i64 0, .slice none 0 0] 28) = x := ⟨_, rfl⟩
        obtain ⟨Mb, Bb, Fb⟩ := HMc.out.box hk _ hWb.symm
        rw [hWb]
        clear x0 x5
        have x0 := Mb.pl.cell 3 _ rfl
        have x5 := Mb.at 2 (.int .i64 o.no) rfl
        have HDd := HDc.out
        clear HDc
        have HDc : Hid (Da Wb2 _ (k + 6) _ (.slice ao2 n2 cc2)) := Fb.da HDd
        clear HDd
        have HNE : Hid (b1 ≠ Wc2.heap.size) := Nat.ne_of_lt (heap_lt HP1.out.hb)
        have HP1n := Fb.pk HP1.out
        clear HP1
        have HP1 : Hid (Pk w lab _ _ k _ _ _ _) := HP1n
        clear HP1n
        have HMb : Hid (Md w0 w Wb2 lab _ k pb a b _ st lg _ _ es o w.heap.size) := Mb
        have HBb : Hid (Bx w Wb2 _ k Wc2.heap.size _) := Bb
        clear Mb Bb Fb hWb HMc
        refine hK.out _ _ ⟨x0, x5⟩ (fun hHeld => ?_)
        clear hK KK
        try simp only [Act.put, List.setIfInBounds_toArray, List.set_cons_zero, List.set_cons_succ]
        refine wpAnyH_ready (rs := [13]) (by kernel_rfl) (by simp) ?_
        refine AllReadyH.cons (o := ⟨none, .store 28 (.tmp 9) (.tmp 42), 0, "law.go:124", #[⟨12, .data⟩, ⟨10, .data⟩, ⟨8, .chain⟩, ⟨0, .phase⟩, ⟨1, .phase⟩, ⟨2, .phase⟩, ⟨3, .phase⟩, ⟨4, .phase⟩, ⟨5, .phase⟩, ⟨6, .phase⟩, ⟨7, .phase⟩, ⟨8, .phase⟩, ⟨9, .phase⟩, ⟨10, .phase⟩, ⟨11, .textOnly .lateStores⟩, ⟨12, .phase⟩], none⟩) rfl (fun KK hK => ?_) (AllReadyH.nil)
        clear x0 x5
        have gb := HBb.out.hb
        have g0 : Wb2.cell? ⟨Wc2.heap.size, 0, none⟩ = some (.int .i64 0) := by simp [World.cell?, gb]
        have g1 : Wb2.cell? ⟨Wc2.heap.size, 1, none⟩ = some (.slice none 0 0) := by simp [World.cell?, gb]
        have z0 : Wb2.frozen? ⟨Wc2.heap.size, 0, none⟩ = false := by simp [World.frozen?, gb]
        have z1 : Wb2.frozen? ⟨Wc2.heap.size, 1, none⟩ = false := by simp [World.frozen?, gb]
        have hS1 := heap_setCell_same Wb2 (Wc2.heap.size) 0 _ _ (.int .i64 (takeT (S 1) o.no)) gb
        have g1n : (Wb2.setCell ⟨Wc2.heap.size, 0, none⟩ (.int .i64 (takeT (S 1) o.no))).cell? ⟨Wc2.heap.size, 1, none⟩ = some (.slice none 0 0) := by simp [World.cell?, hS1]
        have z1n : (Wb2.setCell ⟨Wc2.heap.size, 0, none⟩ (.int .i64 (takeT (S 1) o.no))).frozen? ⟨Wc2.heap.size, 1, none⟩ = false := by simp [World.frozen?, hS1]
        clear hS1
        have Hgb : Hid (Wb2.heap[Wc2.heap.size]? = some (.cells #[.int .i64 0, .slice none 0 0] 28)) := gb
        clear gb
        go_simp
        obtain ⟨We2, hWe⟩ : ∃ y, (Wb2.setCell ⟨Wc2.heap.size, 0, none⟩ (.int .i64 (takeT (S 1) o.no))).setCell ⟨Wc2.heap.size, 1, none⟩ (.slice ao2 n2 cc2) = y := ⟨_, rfl⟩
        rw [hWe]
        have tE : Turns (fun i => i = Wc2.heap.size) Wb2 We2 := by rw [← hWe]; exact (Turns.cell Wb2 (Wc2.heap.size) 0 _).trans (Turns.cell _ (Wc2.heap.size) 1 _) (fun _ _ q => q)
        have hE : We2.heap[Wc2.heap.size]? = some (.cells #[.int .i64 (takeT (S 1) o.no), (.slice ao2 n2 cc2)] 28) := by rw [← hWe]; exact heap_setCell_same _ _ _ _ _ _ (heap_setCell_same _ _ _ _ _ _ Hgb.out)
        obtain ⟨Me, Pe⟩ := HMb.out.stored hk HDc.out HUc.out HBb.out tE hE
        have HP1n := HP1.out.stays HBb.out HNE.out tE
        clear HP1
        have HP1 : Hid (Pk w lab _ _ k _ _ _ _) := HP1n
        clear HP1n
        clear g0 g1 z0 z1 g1n z1n Hgb tE hE hWe HMb HDc HUc HBb HNE
        have x0 := Me.pl.cell 3 _ rfl
        have x5 := Me.at 2 (.int .i64 o.no) rfl
        have HMe : Hid (Md w0 w We2 lab _ k pb a b _ st lg _ _ es o w.heap.size) := Me
        have HPe : Hid (Pk w lab We2 _ k (Wc2.heap.size) _ _ (.slice ao2 n2 cc2)) := Pe
        clear Me Pe
        refine hK.out _ _ ⟨x0, x5⟩ (fun hHeld => ?_)
        clear hK KK
        try simp only [Act.put, List.setIfInBounds_toArray, List.set_cons_zero, List.set_cons_succ]
        refine wpAnyH_take (i := 14) (oi := ⟨some 10, .assign (.tmp 43), 3, "law.go:124", #[⟨11, .data⟩, ⟨13, .chain⟩, ⟨0, .phase⟩, ⟨1, .phase⟩, ⟨2, .phase⟩, ⟨3, .phase⟩, ⟨4, .phase⟩, ⟨5, .phase⟩, ⟨6, .phase⟩, ⟨7, .phase⟩, ⟨8, .phase⟩, ⟨9, .phase⟩, ⟨10, .phase⟩, ⟨11, .phase⟩, ⟨12, .phase⟩, ⟨13, .phase⟩], none⟩) (v := (.int .i64 (takeE (S 1) o.no))) rfl (by kernel_rfl) (by kernel_rfl) (by kernel_rfl) (fun _ _ _ h => h) (Or.inl ⟨by rfl, fun _ _ => by rfl⟩) hHeld ?_
        simp only [Act.put, List.setIfInBounds_toArray, List.set_cons_zero, List.set_cons_succ]
        refine wpAnyH_done (by kernel_rfl) ?_ _
        clear x0 x5
        have HP2 := HPe
        clear HPe
        generalize Wc2.heap.size = b2 at HP2 ⊢
        have k1 := HP1.out.c1
        have m1 := HP2.out.c1
        have hs := same_any ao1 ao2 n1 n2 cc1 cc2 (takeD (S 1) o.no) (takeD (S 1) o.no) We2 (by have := HP1.out.da.len; have := HP1.out.da.len_eq; omega) (HP1.out.da.lies HP1.out.da.len_eq) (HP2.out.da.lies HP2.out.da.len_eq)
        go_wp2_with fail
        refine hs.mono ?_
        rintro e w9 ⟨rfl, m9, hw9⟩
        have b9 : Below We2.heap.size We2 w9 := by rw [hw9]; exact below_drewN We2 m9
        have M9 := HMe.out.below hk b9
        have P9 := (Fr.below (k := k) b9 (k + 6)).pk HP1.out
        have Q9 := (Fr.below (k := k) b9 (k + 6)).pk HP2.out
        clear k1 m1 hs hw9 HP1 HP2 HMe
        have k0 := P9.c0
        have k1 := P9.c1
        have m0 := Q9.c0
        have p6 := M9.pl.cell 6 _ rfl
        have p4 := M9.pl.cell 4 _ rfl
        have HM9 : Hid (Md w0 w w9 lab _ k pb a b (.slice ba es.length bc) st lg _ _ es o w.heap.size) := M9
        have HP9 : Hid (Pk w lab w9 _ k b1 _ _ _) := P9
        have hdd : decide (takeD (S 1) o.no = takeD (S 1) o.no) = true := decide_eq_true rfl
        have hbb : (takeE (S 1) o.no == takeE (S 1) o.no) = true := by simp
        have htt : (takeT (S 1) o.no == takeT (S 1) o.no) = true := by simp
        clear M9 P9 Q9 b9
        cases lg with
        | true =>
          go_wp2_with (first | (go_at_call 13; refine (num_any _ _).mono ?_; rintro e w8 ⟨rfl, rfl⟩) | fail)
          go_ret
          exact ⟨rfl, _, _, _, _, HM9.out.pl, HM9.out.fr, fun q => by omega⟩
        | false =>
          go_wp2_with (first | (go_at_call 13; refine (num_any _ _).mono ?_; rintro e w8 ⟨rfl, rfl⟩) | fail)
          have M10 := HM9.out.below hk (below_drewN w8 1)
          have P10 := (Fr.below (k := k) (below_drewN w8 1) (k + 6)).pk HP9.out
          have hnb : pb ≠ b1 := fun q => by have h1 := M10.pl.lb; have h2 := P10.hx; rw [← q] at h2; omega
          have HNB : Hid (pb ≠ b1) := hnb
          have hmk := mark_any M10.pl 1
          have hln : n1 ≤ 4096 := by have h1 := P10.da.len_eq; have h2 := HSh.out (by first | rfl | trivial); omega
          have hkp := fun m => keep_any M10.pl.bk (.slice ao1 n1 cc1) _ _ P10.da.own (fun i q r => by have h1 := P10.da.lb i q; have h2 : _ = k + 4 := r; omega) (by have h1 := P10.da.len_eq; omega) (by omega) m
          have HM10 : Hid (Md w0 w (w8.drewN 1) lab _ k pb a b (.slice ba es.length bc) st false _ _ es o w.heap.size) := M10
          have HP10 : Hid (Pk w lab (w8.drewN 1) _ k b1 _ _ (.slice ao1 n1 cc1)) := P10
          clear M10 P10 hnb HM9 HP9 k0 m0 p6
          refine wp_region_held_drew (S := fun w' => w'.cell? ⟨b1, 1, none⟩ = some (.slice ao1 n1 cc1)) (by kernel_rfl) k1 (fun hHeld => ?_)
          refine wpAnyH_take (i := 0) (oi := ⟨some 69, .move (.tmp 0), 66, "law.go:130", #[], none⟩) (v := (.pointer (some ⟨pb, 0, none⟩))) rfl (by kernel_rfl) (by kernel_rfl) (by kernel_rfl) (fun _ _ _ h => h) (Or.inl ⟨by rfl, fun _ _ => by rfl⟩) hHeld ?_
          simp only [Act.put, List.setIfInBounds_toArray, List.set_cons_zero, List.set_cons_succ]
          refine wpAnyH_take (i := 1) (oi := ⟨some 70, .move (.tmp 0), 66, "law.go:130", #[], none⟩) (v := (.pointer (some ⟨pb, 0, none⟩))) rfl (by kernel_rfl) (by kernel_rfl) (by kernel_rfl) (fun _ _ _ h => h) (Or.inl ⟨by rfl, fun _ _ => by rfl⟩) hHeld ?_
          simp only [Act.put, List.setIfInBounds_toArray, List.set_cons_zero, List.set_cons_succ]
          refine wpAnyH_take (i := 2) (oi := ⟨some 71, .nilCheck (.tmp 70), 0, "law.go:130", #[⟨1, .data⟩], none⟩) (v := (.pointer (some ⟨pb, 0, none⟩))) rfl (by kernel_rfl) (by kernel_rfl) (by kernel_rfl) (fun _ _ _ h => h) (Or.inl ⟨by rfl, fun _ _ => by rfl⟩) hHeld ?_
          simp only [Act.put, List.setIfInBounds_toArray, List.set_cons_zero, List.set_cons_succ]
          refine wpAnyH_take (i := 3) (oi := ⟨some 72, .fieldAddr 71 (.tmp 71) 2, 0, "law.go:130", #[⟨2, .data⟩], none⟩) (v := (.pointer (some ⟨pb, 4, none⟩))) rfl (by kernel_rfl) (by kernel_rfl) (by kernel_rfl) (fun _ _ _ h => h) (Or.inl ⟨by rfl, fun _ _ => by rfl⟩) hHeld ?_
          simp only [Act.put, List.setIfInBounds_toArray, List.set_cons_zero, List.set_cons_succ]
          refine wpAnyH_take (i := 5) (oi := ⟨some 74, .fieldAddr 28 (.tmp 7) 1, 0, "law.go:130", #[], none⟩) (v := (.pointer (some ⟨b1, 1, none⟩))) rfl (by kernel_rfl) (by kernel_rfl) (by kernel_rfl) (fun _ _ _ h => h) (Or.inl ⟨by rfl, fun _ _ => by rfl⟩) hHeld ?_
          simp only [Act.put, List.setIfInBounds_toArray, List.set_cons_zero, List.set_cons_succ]
          refine wpAnyH_take (i := 6) (oi := ⟨some 75, .load 22 (.tmp 74), 22, "law.go:130", #[⟨5, .data⟩], none⟩) (v := (.slice ao1 n1 cc1)) rfl (by kernel_rfl) (by kernel_rfl) (by kernel_rfl) (fun _ _ _ h => h) (Or.inl ⟨by rfl, fun w' h' => by unfold execOp; go_simp⟩) hHeld ?_
          simp only [Act.put, List.setIfInBounds_toArray, List.set_cons_zero, List.set_cons_succ]
          refine wpAnyH_take (i := 7) (oi := ⟨some 76, .move (.tmp 0), 66, "law.go:130", #[], none⟩) (v := (.pointer (some ⟨pb, 0, none⟩))) rfl (by kernel_rfl) (by kernel_rfl) (by kernel_rfl) (fun _ _ _ h => h) (Or.inl ⟨by rfl, fun _ _ => by rfl⟩) hHeld ?_
          simp only [Act.put, List.setIfInBounds_toArray, List.set_cons_zero, List.set_cons_succ]
          refine wpAnyH_ready (rs := [4, 8]) (by kernel_rfl) (by simp) ?_
          refine AllReadyH.cons (o := ⟨some 73, .load 69 (.tmp 72), 69, "law.go:130", #[⟨3, .data⟩], none⟩) rfl (fun KK hK => ?_) (AllReadyH.cons (o := ⟨some 77, .call ⟨.value (.func 47), #[.tmp 76, .const (.int .i64 1)], #[66, 3]⟩, 5, "law.go:130", #[⟨7, .data⟩], none⟩) rfl (fun KK hK => ?_) (AllReadyH.nil))
          · go_simp
            refine hK.out _ _ hHeld (fun hHeld => ?_)
            clear hK KK
            try simp only [Act.put, List.setIfInBounds_toArray, List.set_cons_zero, List.set_cons_succ]
            refine wpAnyH_ready (rs := [8]) (by kernel_rfl) (by simp) ?_
            refine AllReadyH.cons (o := ⟨some 77, .call ⟨.value (.func 47), #[.tmp 76, .const (.int .i64 1)], #[66, 3]⟩, 5, "law.go:130", #[⟨7, .data⟩], none⟩) rfl (fun KK hK => ?_) (AllReadyH.nil)
            go_simp
            refine hmk.mono ?_
            rintro e wm ⟨mm, rfl, rfl⟩
            go_wp2_with fail
            refine hK.out _ _ hHeld (fun hHeld => ?_)
            clear hK KK
            try simp only [Act.put, List.setIfInBounds_toArray, List.set_cons_zero, List.set_cons_succ]
            refine wpAnyH_ready (rs := [9]) (by kernel_rfl) (by simp) ?_
            refine AllReadyH.cons (o := ⟨some 78, .call ⟨.value (.func 46), #[.tmp 73, .tmp 75, .tmp 77], #[69, 22, 5]⟩, 69, "law.go:130", #[⟨4, .data⟩, ⟨6, .data⟩, ⟨8, .data⟩, ⟨8, .chain⟩], none⟩) rfl (fun KK hK => ?_) (AllReadyH.nil)
            go_simp
            refine (hkp mm).mono ?_
            rintro e wk ⟨bv', rfl, K3⟩
            have HK3 : Hid (Kept3 _ _ _ _ _ _ _) := K3
            obtain ⟨fs, _, hB, hT⟩ := K3
            obtain ⟨ba', bc', hbv'⟩ := tl_slice hB.row
            generalize (es ++ fs).length = E' at hbv'
            clear hB
            subst hbv'
            have nb : ¬ ((Value.slice ba es.length bc).ownBlock = some pb ∨ (Value.slice ao1 n1 cc1).ownBlock = some pb) := fun q => q.elim (fun r => by have h1 : _ = k + 4 := HM10.out.pl.bk.kb pb r; have h2 := HM10.out.pl.lb; omega) (fun r => by have h1 := HP10.out.da.lb pb r; have h2 := HM10.out.pl.lb; omega)
            have nx : ¬ ((Value.slice ba es.length bc).ownBlock = some b1 ∨ (Value.slice ao1 n1 cc1).ownBlock = some b1) := fun q => q.elim (fun r => by have h1 : _ = k + 4 := HM10.out.pl.bk.kb b1 r; have h2 := HP10.out.hx; omega) (fun r => own_typ HP10.out.da.own HP10.out.hb (by decide) r)
            have zk := (hT.block pb (heap_lt HM10.out.pl.box) nb).trans HM10.out.pl.box
            have zx := (hT.block b1 (heap_lt HP10.out.hb) nx).trans HP10.out.hb
            have fk : wk.frozen? ⟨pb, 4, none⟩ = false := by simp [World.frozen?, zk]
            have ck : wk.cell? ⟨pb, 4, none⟩ = some (.slice ba es.length bc) := by simp [World.cell?, zk]
            have kx : wk.cell? ⟨b1, 1, none⟩ = some (.slice ao1 n1 cc1) := by simp [World.cell?, zx]
            have kx2 : ∀ u, (wk.setCell ⟨pb, 4, none⟩ u).cell? ⟨b1, 1, none⟩ = some (.slice ao1 n1 cc1) := fun u => (World.cell?_setCell_far wk ⟨pb, 4, none⟩ ⟨b1, 1, none⟩ u HNB.out).trans kx
            have HZk : Hid (wk.heap[pb]? = _) := zk
            clear zk zx hT nb nx
            go_wp2_with fail
            refine hK.out _ _ kx (fun hHeld => ?_)
            clear hK KK
            try simp only [Act.put, List.setIfInBounds_toArray, List.set_cons_zero, List.set_cons_succ]
            refine wpAnyH_take (i := 10) (oi := ⟨some 79, .nilCheck (.tmp 69), 0, "law.go:130", #[⟨0, .data⟩, ⟨0, .phase⟩, ⟨1, .phase⟩, ⟨2, .phase⟩, ⟨3, .phase⟩, ⟨4, .phase⟩, ⟨5, .phase⟩, ⟨6, .phase⟩, ⟨7, .phase⟩, ⟨8, .phase⟩, ⟨9, .phase⟩], none⟩) (v := (.pointer (some ⟨pb, 0, none⟩))) rfl (by kernel_rfl) (by kernel_rfl) (by kernel_rfl) (fun _ _ _ h => h) (Or.inl ⟨by rfl, fun _ _ => by rfl⟩) hHeld ?_
            simp only [Act.put, List.setIfInBounds_toArray, List.set_cons_zero, List.set_cons_succ]
            refine wpAnyH_take (i := 11) (oi := ⟨some 80, .fieldAddr 71 (.tmp 79) 2, 0, "law.go:130", #[⟨10, .data⟩, ⟨0, .phase⟩, ⟨1, .phase⟩, ⟨2, .phase⟩, ⟨3, .phase⟩, ⟨4, .phase⟩, ⟨5, .phase⟩, ⟨6, .phase⟩, ⟨7, .phase⟩, ⟨8, .phase⟩, ⟨9, .phase⟩], none⟩) (v := (.pointer (some ⟨pb, 4, none⟩))) rfl (by kernel_rfl) (by kernel_rfl) (by kernel_rfl) (fun _ _ _ h => h) (Or.inl ⟨by rfl, fun _ _ => by rfl⟩) hHeld ?_
            simp only [Act.put, List.setIfInBounds_toArray, List.set_cons_zero, List.set_cons_succ]
            refine wpAnyH_ready (rs := [12]) (by kernel_rfl) (by simp) ?_
            refine AllReadyH.cons (o := ⟨none, .store 69 (.tmp 80) (.tmp 78), 0, "law.go:130", #[⟨11, .data⟩, ⟨9, .data⟩, ⟨9, .chain⟩, ⟨0, .phase⟩, ⟨1, .phase⟩, ⟨2, .phase⟩, ⟨3, .phase⟩, ⟨4, .phase⟩, ⟨5, .phase⟩, ⟨6, .phase⟩, ⟨7, .phase⟩, ⟨8, .phase⟩, ⟨9, .phase⟩], none⟩) rfl (fun KK hK => ?_) (AllReadyH.nil)
            go_simp
            refine hK.out _ _ (kx2 _) (fun hHeld => ?_)
            clear hK KK
            try simp only [Act.put, List.setIfInBounds_toArray, List.set_cons_zero, List.set_cons_succ]
            refine wpAnyH_done (by kernel_rfl) ?_ _
            obtain ⟨wl, hwl⟩ : ∃ x, wk.setCell ⟨pb, 4, none⟩ (.slice ba' E' bc') = x := ⟨_, rfl⟩
            rw [hwl]
            have ul : Turns (fun i => i = pb) wk wl := by rw [← hwl]; exact Turns.cell wk pb 4 _
            have zl : wl.heap[pb]? = some (.cells (plC a b (.slice ba' E' bc') st false) 71 (0, 0)) := by rw [← hwl]; exact heap_setCell_same _ _ _ _ _ _ HZk.out
            have hB := HM10.out.booked hk HK3.out HP10.out.da.own HP10.out.da.lb HP10.out.us ul zl (by omega)
            have HB : Hid _ := hB
            clear hB ul zl HK3 HM10 hkp hmk HZk fk ck kx kx2 hwl hHeld
            go_wp2_with fail
            go_ret
            obtain ⟨L', es', he', M11, _⟩ := HB.out
            exact ⟨rfl, L', _, _, es', M11.pl, M11.fr, fun q => by omega⟩
          · go_simp
            refine hmk.mono ?_
            rintro e wm ⟨mm, rfl, rfl⟩
            go_wp2_with fail
            refine hK.out _ _ hHeld (fun hHeld => ?_)
            clear hK KK
            try simp only [Act.put, List.setIfInBounds_toArray, List.set_cons_zero, List.set_cons_succ]
            refine wpAnyH_ready (rs := [4]) (by kernel_rfl) (by simp) ?_
            refine AllReadyH.cons (o := ⟨some 73, .load 69 (.tmp 72), 69, "law.go:130", #[⟨3, .data⟩], none⟩) rfl (fun KK hK => ?_) (AllReadyH.nil)
            go_simp
            refine hK.out _ _ hHeld (fun hHeld => ?_)
            clear hK KK
            try simp only [Act.put, List.setIfInBounds_toArray, List.set_cons_zero, List.set_cons_succ]
            refine wpAnyH_ready (rs := [9]) (by kernel_rfl) (by simp) ?_
            refine AllReadyH.cons (o := ⟨some 78, .call ⟨.value (.func 46), #[.tmp 73, .tmp 75, .tmp 77], #[69, 22, 5]⟩, 69, "law.go:130", #[⟨4, .data⟩, ⟨6, .data⟩, ⟨8, .data⟩, ⟨8, .chain⟩], none⟩) rfl (fun KK hK => ?_) (AllReadyH.nil)
            go_simp
            refine (hkp mm).mono ?_
            rintro e wk ⟨bv', rfl, K3⟩
            have HK3 : Hid (Kept3 _ _ _ _ _ _ _) := K3
            obtain ⟨fs, _, hB, hT⟩ := K3
            obtain ⟨ba', bc', hbv'⟩ := tl_slice hB.row
            generalize (es ++ fs).length = E' at hbv'
            clear hB
            subst hbv'
            have nb : ¬ ((Value.slice ba es.length bc).ownBlock = some pb ∨ (Value.slice ao1 n1 cc1).ownBlock = some pb) := fun q => q.elim (fun r => by have h1 : _ = k + 4 := HM10.out.pl.bk.kb pb r; have h2 := HM10.out.pl.lb; omega) (fun r => by have h1 := HP10.out.da.lb pb r; have h2 := HM10.out.pl.lb; omega)
            have nx : ¬ ((Value.slice ba es.length bc).ownBlock = some b1 ∨ (Value.slice ao1 n1 cc1).ownBlock = some b1) := fun q => q.elim (fun r => by have h1 : _ = k + 4 := HM10.out.pl.bk.kb b1 r; have h2 := HP10.out.hx; omega) (fun r => own_typ HP10.out.da.own HP10.out.hb (by decide) r)
            have zk := (hT.block pb (heap_lt HM10.out.pl.box) nb).trans HM10.out.pl.box
            have zx := (hT.block b1 (heap_lt HP10.out.hb) nx).trans HP10.out.hb
            have fk : wk.frozen? ⟨pb, 4, none⟩ = false := by simp [World.frozen?, zk]
            have ck : wk.cell? ⟨pb, 4, none⟩ = some (.slice ba es.length bc) := by simp [World.cell?, zk]
            have kx : wk.cell? ⟨b1, 1, none⟩ = some (.slice ao1 n1 cc1) := by simp [World.cell?, zx]
            have kx2 : ∀ u, (wk.setCell ⟨pb, 4, none⟩ u).cell? ⟨b1, 1, none⟩ = some (.slice ao1 n1 cc1) := fun u => (World.cell?_setCell_far wk ⟨pb, 4, none⟩ ⟨b1, 1, none⟩ u HNB.out).trans kx
            have HZk : Hid (wk.heap[pb]? = _) := zk
            clear zk zx hT nb nx
            go_wp2_with fail
            refine hK.out _ _ kx (fun hHeld => ?_)
            clear hK KK
            try simp only [Act.put, List.setIfInBounds_toArray, List.set_cons_zero, List.set_cons_succ]
            refine wpAnyH_take (i := 10) (oi := ⟨some 79, .nilCheck (.tmp 69), 0, "law.go:130", #[⟨0, .data⟩, ⟨0, .phase⟩, ⟨1, .phase⟩, ⟨2, .phase⟩, ⟨3, .phase⟩, ⟨4, .phase⟩, ⟨5, .phase⟩, ⟨6, .phase⟩, ⟨7, .phase⟩, ⟨8, .phase⟩, ⟨9, .phase⟩], none⟩) (v := (.pointer (some ⟨pb, 0, none⟩))) rfl (by kernel_rfl) (by kernel_rfl) (by kernel_rfl) (fun _ _ _ h => h) (Or.inl ⟨by rfl, fun _ _ => by rfl⟩) hHeld ?_
            simp only [Act.put, List.setIfInBounds_toArray, List.set_cons_zero, List.set_cons_succ]
            refine wpAnyH_take (i := 11) (oi := ⟨some 80, .fieldAddr 71 (.tmp 79) 2, 0, "law.go:130", #[⟨10, .data⟩, ⟨0, .phase⟩, ⟨1, .phase⟩, ⟨2, .phase⟩, ⟨3, .phase⟩, ⟨4, .phase⟩, ⟨5, .phase⟩, ⟨6, .phase⟩, ⟨7, .phase⟩, ⟨8, .phase⟩, ⟨9, .phase⟩], none⟩) (v := (.pointer (some ⟨pb, 4, none⟩))) rfl (by kernel_rfl) (by kernel_rfl) (by kernel_rfl) (fun _ _ _ h => h) (Or.inl ⟨by rfl, fun _ _ => by rfl⟩) hHeld ?_
            simp only [Act.put, List.setIfInBounds_toArray, List.set_cons_zero, List.set_cons_succ]
            refine wpAnyH_ready (rs := [12]) (by kernel_rfl) (by simp) ?_
            refine AllReadyH.cons (o := ⟨none, .store 69 (.tmp 80) (.tmp 78), 0, "law.go:130", #[⟨11, .data⟩, ⟨9, .data⟩, ⟨9, .chain⟩, ⟨0, .phase⟩, ⟨1, .phase⟩, ⟨2, .phase⟩, ⟨3, .phase⟩, ⟨4, .phase⟩, ⟨5, .phase⟩, ⟨6, .phase⟩, ⟨7, .phase⟩, ⟨8, .phase⟩, ⟨9, .phase⟩], none⟩) rfl (fun KK hK => ?_) (AllReadyH.nil)
            go_simp
            refine hK.out _ _ (kx2 _) (fun hHeld => ?_)
            clear hK KK
            try simp only [Act.put, List.setIfInBounds_toArray, List.set_cons_zero, List.set_cons_succ]
            refine wpAnyH_done (by kernel_rfl) ?_ _
            obtain ⟨wl, hwl⟩ : ∃ x, wk.setCell ⟨pb, 4, none⟩ (.slice ba' E' bc') = x := ⟨_, rfl⟩
            rw [hwl]
            have ul : Turns (fun i => i = pb) wk wl := by rw [← hwl]; exact Turns.cell wk pb 4 _
            have zl : wl.heap[pb]? = some (.cells (plC a b (.slice ba' E' bc') st false) 71 (0, 0)) := by rw [← hwl]; exact heap_setCell_same _ _ _ _ _ _ HZk.out
            have hB := HM10.out.booked hk HK3.out HP10.out.da.own HP10.out.da.lb HP10.out.us ul zl (by omega)
            have HB : Hid _ := hB
            clear hB ul zl HK3 HM10 hkp hmk HZk fk ck kx kx2 hwl hHeld
            go_wp2_with fail
            go_ret
            obtain ⟨L', es', he', M11, _⟩ := HB.out
            exact ⟨rfl, L', _, _, es', M11.pl, M11.fr, fun q => by omega⟩
      · go_simp
        obtain ⟨Wb2, hWb⟩ : ∃ x, (We1.alloc (.cells #[.int .i64 0, .slice none 0 0] 28)).drew = x := ⟨_, rfl⟩
        obtain ⟨Mb, Bb, Fb⟩ := HM6.out.box hk _ hWb.symm
        rw [hWb]
        have x0 := Mb.pl.cell 3 _ rfl
        have x5 := Mb.at 2 (.int .i64 o.no) rfl
        have HNE : Hid (b1 ≠ We1.heap.size) := Nat.ne_of_lt (heap_lt HP1.out.hb)
        have HP1n := Fb.pk HP1.out
        clear HP1
        have HP1 : Hid (Pk w lab _ _ k _ _ _ _) := HP1n
        clear HP1n
        have HMb : Hid (Md w0 w Wb2 lab _ k pb a b _ st lg _ _ es o w.heap.size) := Mb
        have HBb : Hid (Bx w Wb2 _ k We1.heap.size _) := Bb
        clear Mb Bb Fb hWb HM6
        refine hK.out _ _ ⟨x0, x5⟩ (fun hHeld => ?_)
        clear hK KK
        try simp only [Act.put, List.setIfInBounds_toArray, List.set_cons_zero, List.set_cons_succ]
        refine wpAnyH_ready (rs := [8]) (by kernel_rfl) (by simp) ?_
        refine AllReadyH.cons (o := ⟨some 41, .call ⟨.value (.func 22), #[.tmp 38, .tmp 40], #[52, 3]⟩, 60, "law.go:124", #[⟨5, .data⟩, ⟨7, .data⟩], none⟩) rfl (fun KK hK => ?_) (AllReadyH.nil)
        go_simp
        refine (HMb.out.dtake hk hc).mono ?_
        rintro e Wc2 ⟨ao2, n2, cc2, Lc, rfl, Mc, Dc, Fc, Uc⟩
        clear x0 x5
        have x0 := Mc.pl.cell 3 _ rfl
        have x5 := Mc.at 2 (.int .i64 o.no) rfl
        have HBc : Hid (Bx w Wc2 Lc k _ _) := Fc.bx HBb.out
        have HMc : Hid (Md w0 w Wc2 lab Lc k pb a b _ st lg _ _ es o w.heap.size) := Mc
        have HDc : Hid (Da Wc2 Lc (k + 6) _ (.slice ao2 n2 cc2)) := Dc
        have HUc : Hid (Ours w lab k (.slice ao2 n2 cc2)) := Uc
        have HP1n := Fc.pk HP1.out
        clear HP1
        have HP1 : Hid (Pk w lab _ _ k _ _ _ _) := HP1n
        clear HP1n
        clear Mc Dc Fc Uc HMb HBb
        go_wp2_with fail
        refine hK.out _ _ ⟨x0, x5⟩ (fun hHeld => ?_)
        clear hK KK
        try simp only [Act.put, List.setIfInBounds_toArray, List.set_cons_zero, List.set_cons_succ]
        refine wpAnyH_take (i := 9) (oi := ⟨some 32, .move (.tmp 41), 60, "law.go:124", #[⟨8, .data⟩], none⟩) (v := (.tuple #[.agg #[.int .i64 (takeT (S 1) o.no), (.slice ao2 n2 cc2)], .int .i64 (takeE (S 1) o.no)])) rfl (by kernel_rfl) (by kernel_rfl) (by kernel_rfl) (fun _ _ _ h => h) (Or.inl ⟨by rfl, fun _ _ => by rfl⟩) hHeld ?_
        simp only [Act.put, List.setIfInBounds_toArray, List.set_cons_zero, List.set_cons_succ]
        refine wpAnyH_take (i := 10) (oi := ⟨some 42, .extract (.tmp 32) 0, 28, "law.go:124", #[⟨9, .data⟩], none⟩) (v := (.agg #[.int .i64 (takeT (S 1) o.no), (.slice ao2 n2 cc2)])) rfl (by kernel_rfl) (by kernel_rfl) (by kernel_rfl) (fun _ _ _ h => h) (Or.inl ⟨by rfl, fun _ _ => by rfl⟩) hHeld ?_
        simp only [Act.put, List.setIfInBounds_toArray, List.set_cons_zero, List.set_cons_succ]
        refine wpAnyH_take (i := 11) (oi := ⟨some 43, .extract (.tmp 32) 1, 3, "law.go:124", #[⟨9, .data⟩, ⟨13, .gcOnly .lateStores⟩], none⟩) (v := (.int .i64 (takeE (S 1) o.no))) rfl (by kernel_rfl) (by kernel_rfl) (by kernel_rfl) (fun _ _ _ h => h) (Or.inl ⟨by rfl, fun _ _ => by rfl⟩) hHeld ?_
        simp only [Act.put, List.setIfInBounds_toArray, List.set_cons_zero, List.set_cons_succ]
        refine wpAnyH_ready (rs := [13]) (by kernel_rfl) (by simp) ?_
        refine AllReadyH.cons (o := ⟨none, .store 28 (.tmp 9) (.tmp 42), 0, "law.go:124", #[⟨12, .data⟩, ⟨10, .data⟩, ⟨8, .chain⟩, ⟨0, .phase⟩, ⟨1, .phase⟩, ⟨2, .phase⟩, ⟨3, .phase⟩, ⟨4, .phase⟩, ⟨5, .phase⟩, ⟨6, .phase⟩, ⟨7, .phase⟩, ⟨8, .phase⟩, ⟨9, .phase⟩, ⟨10, .phase⟩, ⟨11, .textOnly .lateStores⟩, ⟨12, .phase⟩], none⟩) rfl (fun KK hK => ?_) (AllReadyH.nil)
        clear x0 x5
        have gb := HBc.out.hb
        have g0 : Wc2.cell? ⟨We1.heap.size, 0, none⟩ = some (.int .i64 0) := by simp [World.cell?, gb]
        have g1 : Wc2.cell? ⟨We1.heap.size, 1, none⟩ = some (.slice none 0 0) := by simp [World.cell?, gb]
        have z0 : Wc2.frozen? ⟨We1.heap.size, 0, none⟩ = false := by simp [World.frozen?, gb]
        have z1 : Wc2.frozen? ⟨We1.heap.size, 1, none⟩ = false := by simp [World.frozen?, gb]
        have hS1 := heap_setCell_same Wc2 (We1.heap.size) 0 _ _ (.int .i64 (takeT (S 1) o.no)) gb
        have g1n : (Wc2.setCell ⟨We1.heap.size, 0, none⟩ (.int .i64 (takeT (S 1) o.no))).cell? ⟨We1.heap.size, 1, none⟩ = some (.slice none 0 0) := by simp [World.cell?, hS1]
        have z1n : (Wc2.setCell ⟨We1.heap.size, 0, none⟩ (.int .i64 (takeT (S 1) o.no))).frozen? ⟨We1.heap.size, 1, none⟩ = false := by simp [World.frozen?, hS1]
        clear hS1
        have Hgb : Hid (Wc2.heap[We1.heap.size]? = some (.cells #[.int .i64 0, .slice none 0 0] 28)) := gb
        clear gb
        go_simp
        obtain ⟨We2, hWe⟩ : ∃ y, (Wc2.setCell ⟨We1.heap.size, 0, none⟩ (.int .i64 (takeT (S 1) o.no))).setCell ⟨We1.heap.size, 1, none⟩ (.slice ao2 n2 cc2) = y := ⟨_, rfl⟩
        rw [hWe]
        have tE : Turns (fun i => i = We1.heap.size) Wc2 We2 := by rw [← hWe]; exact (Turns.cell Wc2 (We1.heap.size) 0 _).trans (Turns.cell _ (We1.heap.size) 1 _) (fun _ _ q => q)
        have hE : We2.heap[We1.heap.size]? = some (.cells #[.int .i64 (takeT (S 1) o.no), (.slice ao2 n2 cc2)] 28) := by rw [← hWe]; exact heap_setCell_same _ _ _ _ _ _ (heap_setCell_same _ _ _ _ _ _ Hgb.out)
        obtain ⟨Me, Pe⟩ := HMc.out.stored hk HDc.out HUc.out HBc.out tE hE
        have HP1n := HP1.out.stays HBc.out HNE.out tE
        clear HP1
        have HP1 : Hid (Pk w lab _ _ k _ _ _ _) := HP1n
        clear HP1n
        clear g0 g1 z0 z1 g1n z1n Hgb tE hE hWe HMc HDc HUc HBc HNE
        have x0 := Me.pl.cell 3 _ rfl
        have x5 := Me.at 2 (.int .i64 o.no) rfl
        have HMe : Hid (Md w0 w We2 lab _ k pb a b _ st lg _ _ es o w.heap.size) := Me
        have HPe : Hid (Pk w lab We2 _ k (We1.heap.size) _ _ (.slice ao2 n2 cc2)) := Pe
        clear Me Pe
        refine hK.out _ _ ⟨x0, x5⟩ (fun hHeld => ?_)
        clear hK KK
        try simp only [Act.put, List.setIfInBounds_toArray, List.set_cons_zero, List.set_cons_succ]
        refine wpAnyH_take (i := 14) (oi := ⟨some 10, .assign (.tmp 43), 3, "law.go:124", #[⟨11, .data⟩, ⟨13, .chain⟩, ⟨0, .phase⟩, ⟨1, .phase⟩, ⟨2, .phase⟩, ⟨3, .phase⟩, ⟨4, .phase⟩, ⟨5, .phase⟩, ⟨6, .phase⟩, ⟨7, .phase⟩, ⟨8, .phase⟩, ⟨9, .phase⟩, ⟨10, .phase⟩, ⟨11, .phase⟩, ⟨12, .phase⟩, ⟨13, .phase⟩], none⟩) (v := (.int .i64 (takeE (S 1) o.no))) rfl (by kernel_rfl) (by kernel_rfl) (by kernel_rfl) (fun _ _ _ h => h) (Or.inl ⟨by rfl, fun _ _ => by rfl⟩) hHeld ?_
        simp only [Act.put, List.setIfInBounds_toArray, List.set_cons_zero, List.set_cons_succ]
        refine wpAnyH_done (by kernel_rfl) ?_ _
        clear x0 x5
        have HP2 := HPe
        clear HPe
        generalize We1.heap.size = b2 at HP2 ⊢
        have k1 := HP1.out.c1
        have m1 := HP2.out.c1
        have hs := same_any ao1 ao2 n1 n2 cc1 cc2 (takeD (S 1) o.no) (takeD (S 1) o.no) We2 (by have := HP1.out.da.len; have := HP1.out.da.len_eq; omega) (HP1.out.da.lies HP1.out.da.len_eq) (HP2.out.da.lies HP2.out.da.len_eq)
        go_wp2_with fail
        refine hs.mono ?_
        rintro e w9 ⟨rfl, m9, hw9⟩
        have b9 : Below We2.heap.size We2 w9 := by rw [hw9]; exact below_drewN We2 m9
        have M9 := HMe.out.below hk b9
        have P9 := (Fr.below (k := k) b9 (k + 6)).pk HP1.out
        have Q9 := (Fr.below (k := k) b9 (k + 6)).pk HP2.out
        clear k1 m1 hs hw9 HP1 HP2 HMe
        have k0 := P9.c0
        have k1 := P9.c1
        have m0 := Q9.c0
        have p6 := M9.pl.cell 6 _ rfl
        have p4 := M9.pl.cell 4 _ rfl
        have HM9 : Hid (Md w0 w w9 lab _ k pb a b (.slice ba es.length bc) st lg _ _ es o w.heap.size) := M9
        have HP9 : Hid (Pk w lab w9 _ k b1 _ _ _) := P9
        have hdd : decide (takeD (S 1) o.no = takeD (S 1) o.no) = true := decide_eq_true rfl
        have hbb : (takeE (S 1) o.no == takeE (S 1) o.no) = true := by simp
        have htt : (takeT (S 1) o.no == takeT (S 1) o.no) = true := by simp
        clear M9 P9 Q9 b9
        cases lg with
        | true =>
          go_wp2_with (first | (go_at_call 13; refine (num_any _ _).mono ?_; rintro e w8 ⟨rfl, rfl⟩) | fail)
          go_ret
          exact ⟨rfl, _, _, _, _, HM9.out.pl, HM9.out.fr, fun q => by omega⟩
        | false =>
          go_wp2_with (first | (go_at_call 13; refine (num_any _ _).mono ?_; rintro e w8 ⟨rfl, rfl⟩) | fail)
          have M10 := HM9.out.below hk (below_drewN w8 1)
          have P10 := (Fr.below (k := k) (below_drewN w8 1) (k + 6)).pk HP9.out
          have hnb : pb ≠ b1 := fun q => by have h1 := M10.pl.lb; have h2 := P10.hx; rw [← q] at h2; omega
          have HNB : Hid (pb ≠ b1) := hnb
          have hmk := mark_any M10.pl 1
          have hln : n1 ≤ 4096 := by have h1 := P10.da.len_eq; have h2 := HSh.out (by first | rfl | trivial); omega
          have hkp := fun m => keep_any M10.pl.bk (.slice ao1 n1 cc1) _ _ P10.da.own (fun i q r => by have h1 := P10.da.lb i q; have h2 : _ = k + 4 := r; omega) (by have h1 := P10.da.len_eq; omega) (by omega) m
          have HM10 : Hid (Md w0 w (w8.drewN 1) lab _ k pb a b (.slice ba es.length bc) st false _ _ es o w.heap.size) := M10
          have HP10 : Hid (Pk w lab (w8.drewN 1) _ k b1 _ _ (.slice ao1 n1 cc1)) := P10
          clear M10 P10 hnb HM9 HP9 k0 m0 p6
          refine wp_region_held_drew (S := fun w' => w'.cell? ⟨b1, 1, none⟩ = some (.slice ao1 n1 cc1)) (by kernel_rfl) k1 (fun hHeld => ?_)
          refine wpAnyH_take (i := 0) (oi := ⟨some 69, .move (.tmp 0), 66, "law.go:130", #[], none⟩) (v := (.pointer (some ⟨pb, 0, none⟩))) rfl (by kernel_rfl) (by kernel_rfl) (by kernel_rfl) (fun _ _ _ h => h) (Or.inl ⟨by rfl, fun _ _ => by rfl⟩) hHeld ?_
          simp only [Act.put, List.setIfInBounds_toArray, List.set_cons_zero, List.set_cons_succ]
          refine wpAnyH_take (i := 1) (oi := ⟨some 70, .move (.tmp 0), 66, "law.go:130", #[], none⟩) (v := (.pointer (some ⟨pb, 0, none⟩))) rfl (by kernel_rfl) (by kernel_rfl) (by kernel_rfl) (fun _ _ _ h => h) (Or.inl ⟨by rfl, fun _ _ => by rfl⟩) hHeld ?_
          simp only [Act.put, List.setIfInBounds_toArray, List.set_cons_zero, List.set_cons_succ]
          refine wpAnyH_take (i := 2) (oi := ⟨some 71, .nilCheck (.tmp 70), 0, "law.go:130", #[⟨1, .data⟩], none⟩) (v := (.pointer (some ⟨pb, 0, none⟩))) rfl (by kernel_rfl) (by kernel_rfl) (by kernel_rfl) (fun _ _ _ h => h) (Or.inl ⟨by rfl, fun _ _ => by rfl⟩) hHeld ?_
          simp only [Act.put, List.setIfInBounds_toArray, List.set_cons_zero, List.set_cons_succ]
          refine wpAnyH_take (i := 3) (oi := ⟨some 72, .fieldAddr 71 (.tmp 71) 2, 0, "law.go:130", #[⟨2, .data⟩], none⟩) (v := (.pointer (some ⟨pb, 4, none⟩))) rfl (by kernel_rfl) (by kernel_rfl) (by kernel_rfl) (fun _ _ _ h => h) (Or.inl ⟨by rfl, fun _ _ => by rfl⟩) hHeld ?_
          simp only [Act.put, List.setIfInBounds_toArray, List.set_cons_zero, List.set_cons_succ]
          refine wpAnyH_take (i := 5) (oi := ⟨some 74, .fieldAddr 28 (.tmp 7) 1, 0, "law.go:130", #[], none⟩) (v := (.pointer (some ⟨b1, 1, none⟩))) rfl (by kernel_rfl) (by kernel_rfl) (by kernel_rfl) (fun _ _ _ h => h) (Or.inl ⟨by rfl, fun _ _ => by rfl⟩) hHeld ?_
          simp only [Act.put, List.setIfInBounds_toArray, List.set_cons_zero, List.set_cons_succ]
          refine wpAnyH_take (i := 6) (oi := ⟨some 75, .load 22 (.tmp 74), 22, "law.go:130", #[⟨5, .data⟩], none⟩) (v := (.slice ao1 n1 cc1)) rfl (by kernel_rfl) (by kernel_rfl) (by kernel_rfl) (fun _ _ _ h => h) (Or.inl ⟨by rfl, fun w' h' => by unfold execOp; go_simp⟩) hHeld ?_
          simp only [Act.put, List.setIfInBounds_toArray, List.set_cons_zero, List.set_cons_succ]
          refine wpAnyH_take (i := 7) (oi := ⟨some 76, .move (.tmp 0), 66, "law.go:130", #[], none⟩) (v := (.pointer (some ⟨pb, 0, none⟩))) rfl (by kernel_rfl) (by kernel_rfl) (by kernel_rfl) (fun _ _ _ h => h) (Or.inl ⟨by rfl, fun _ _ => by rfl⟩) hHeld ?_
          simp only [Act.put, List.setIfInBounds_toArray, List.set_cons_zero, List.set_cons_succ]
          refine wpAnyH_ready (rs := [4, 8]) (by kernel_rfl) (by simp) ?_
          refine AllReadyH.cons (o := ⟨some 73, .load 69 (.tmp 72), 69, "law.go:130", #[⟨3, .data⟩], none⟩) rfl (fun KK hK => ?_) (AllReadyH.cons (o := ⟨some 77, .call ⟨.value (.func 47), #[.tmp 76, .const (.int .i64 1)], #[66, 3]⟩, 5, "law.go:130", #[⟨7, .data⟩], none⟩) rfl (fun KK hK => ?_) (AllReadyH.nil))
          · go_simp
            refine hK.out _ _ hHeld (fun hHeld => ?_)
            clear hK KK
            try simp only [Act.put, List.setIfInBounds_toArray, List.set_cons_zero, List.set_cons_succ]
            refine wpAnyH_ready (rs := [8]) (by kernel_rfl) (by simp) ?_
            refine AllReadyH.cons (o := ⟨some 77, .call ⟨.value (.func 47), #[.tmp 76, .const (.int .i64 1)], #[66, 3]⟩, 5, "law.go:130", #[⟨7, .data⟩], none⟩) rfl (fun KK hK => ?_) (AllReadyH.nil)
            go_simp
            refine hmk.mono ?_
            rintro e wm ⟨mm, rfl, rfl⟩
            go_wp2_with fail
            refine hK.out _ _ hHeld (fun hHeld => ?_)
            clear hK KK
            try simp only [Act.put, List.setIfInBounds_toArray, List.set_cons_zero, List.set_cons_succ]
            refine wpAnyH_ready (rs := [9]) (by kernel_rfl) (by simp) ?_
            refine AllReadyH.cons (o := ⟨some 78, .call ⟨.value (.func 46), #[.tmp 73, .tmp 75, .tmp 77], #[69, 22, 5]⟩, 69, "law.go:130", #[⟨4, .data⟩, ⟨6, .data⟩, ⟨8, .data⟩, ⟨8, .chain⟩], none⟩) rfl (fun KK hK => ?_) (AllReadyH.nil)
            go_simp
            refine (hkp mm).mono ?_
            rintro e wk ⟨bv', rfl, K3⟩
            have HK3 : Hid (Kept3 _ _ _ _ _ _ _) := K3
            obtain ⟨fs, _, hB, hT⟩ := K3
            obtain ⟨ba', bc', hbv'⟩ := tl_slice hB.row
            generalize (es ++ fs).length = E' at hbv'
            clear hB
            subst hbv'
            have nb : ¬ ((Value.slice ba es.length bc).ownBlock = some pb ∨ (Value.slice ao1 n1 cc1).ownBlock = some pb) := fun q => q.elim (fun r => by have h1 : _ = k + 4 := HM10.out.pl.bk.kb pb r; have h2 := HM10.out.pl.lb; omega) (fun r => by have h1 := HP10.out.da.lb pb r; have h2 := HM10.out.pl.lb; omega)
            have nx : ¬ ((Value.slice ba es.length bc).ownBlock = some b1 ∨ (Value.slice ao1 n1 cc1).ownBlock = some b1) := fun q => q.elim (fun r => by have h1 : _ = k + 4 := HM10.out.pl.bk.kb b1 r; have h2 := HP10.out.hx; omega) (fun r => own_typ HP10.out.da.own HP10.out.hb (by decide) r)
            have zk := (hT.block pb (heap_lt HM10.out.pl.box) nb).trans HM10.out.pl.box
            have zx := (hT.block b1 (heap_lt HP10.out.hb) nx).trans HP10.out.hb
            have fk : wk.frozen? ⟨pb, 4, none⟩ = false := by simp [World.frozen?, zk]
            have ck : wk.cell? ⟨pb, 4, none⟩ = some (.slice ba es.length bc) := by simp [World.cell?, zk]
            have kx : wk.cell? ⟨b1, 1, none⟩ = some (.slice ao1 n1 cc1) := by simp [World.cell?, zx]
            have kx2 : ∀ u, (wk.setCell ⟨pb, 4, none⟩ u).cell? ⟨b1, 1, none⟩ = some (.slice ao1 n1 cc1) := fun u => (World.cell?_setCell_far wk ⟨pb, 4, none⟩ ⟨b1, 1, none⟩ u HNB.out).trans kx
            have HZk : Hid (wk.heap[pb]? = _) := zk
            clear zk zx hT nb nx
            go_wp2_with fail
            refine hK.out _ _ kx (fun hHeld => ?_)
            clear hK KK
            try simp only [Act.put, List.setIfInBounds_toArray, List.set_cons_zero, List.set_cons_succ]
            refine wpAnyH_take (i := 10) (oi := ⟨some 79, .nilCheck (.tmp 69), 0, "law.go:130", #[⟨0, .data⟩, ⟨0, .phase⟩, ⟨1, .phase⟩, ⟨2, .phase⟩, ⟨3, .phase⟩, ⟨4, .phase⟩, ⟨5, .phase⟩, ⟨6, .phase⟩, ⟨7, .phase⟩, ⟨8, .phase⟩, ⟨9, .phase⟩], none⟩) (v := (.pointer (some ⟨pb, 0, none⟩))) rfl (by kernel_rfl) (by kernel_rfl) (by kernel_rfl) (fun _ _ _ h => h) (Or.inl ⟨by rfl, fun _ _ => by rfl⟩) hHeld ?_
            simp only [Act.put, List.setIfInBounds_toArray, List.set_cons_zero, List.set_cons_succ]
            refine wpAnyH_take (i := 11) (oi := ⟨some 80, .fieldAddr 71 (.tmp 79) 2, 0, "law.go:130", #[⟨10, .data⟩, ⟨0, .phase⟩, ⟨1, .phase⟩, ⟨2, .phase⟩, ⟨3, .phase⟩, ⟨4, .phase⟩, ⟨5, .phase⟩, ⟨6, .phase⟩, ⟨7, .phase⟩, ⟨8, .phase⟩, ⟨9, .phase⟩], none⟩) (v := (.pointer (some ⟨pb, 4, none⟩))) rfl (by kernel_rfl) (by kernel_rfl) (by kernel_rfl) (fun _ _ _ h => h) (Or.inl ⟨by rfl, fun _ _ => by rfl⟩) hHeld ?_
            simp only [Act.put, List.setIfInBounds_toArray, List.set_cons_zero, List.set_cons_succ]
            refine wpAnyH_ready (rs := [12]) (by kernel_rfl) (by simp) ?_
            refine AllReadyH.cons (o := ⟨none, .store 69 (.tmp 80) (.tmp 78), 0, "law.go:130", #[⟨11, .data⟩, ⟨9, .data⟩, ⟨9, .chain⟩, ⟨0, .phase⟩, ⟨1, .phase⟩, ⟨2, .phase⟩, ⟨3, .phase⟩, ⟨4, .phase⟩, ⟨5, .phase⟩, ⟨6, .phase⟩, ⟨7, .phase⟩, ⟨8, .phase⟩, ⟨9, .phase⟩], none⟩) rfl (fun KK hK => ?_) (AllReadyH.nil)
            go_simp
            refine hK.out _ _ (kx2 _) (fun hHeld => ?_)
            clear hK KK
            try simp only [Act.put, List.setIfInBounds_toArray, List.set_cons_zero, List.set_cons_succ]
            refine wpAnyH_done (by kernel_rfl) ?_ _
            obtain ⟨wl, hwl⟩ : ∃ x, wk.setCell ⟨pb, 4, none⟩ (.slice ba' E' bc') = x := ⟨_, rfl⟩
            rw [hwl]
            have ul : Turns (fun i => i = pb) wk wl := by rw [← hwl]; exact Turns.cell wk pb 4 _
            have zl : wl.heap[pb]? = some (.cells (plC a b (.slice ba' E' bc') st false) 71 (0, 0)) := by rw [← hwl]; exact heap_setCell_same _ _ _ _ _ _ HZk.out
            have hB := HM10.out.booked hk HK3.out HP10.out.da.own HP10.out.da.lb HP10.out.us ul zl (by omega)
            have HB : Hid _ := hB
            clear hB ul zl HK3 HM10 hkp hmk HZk fk ck kx kx2 hwl hHeld
            go_wp2_with fail
            go_ret
            obtain ⟨L', es', he', M11, _⟩ := HB.out
            exact ⟨rfl, L', _, _, es', M11.pl, M11.fr, fun q => by omega⟩
          · go_simp
            refine hmk.mono ?_
            rintro e wm ⟨mm, rfl, rfl⟩
            go_wp2_with fail
            refine hK.out _ _ hHeld (fun hHeld => ?_)
            clear hK KK
            try simp only [Act.put, List.setIfInBounds_toArray, List.set_cons_zero, List.set_cons_succ]
            refine wpAnyH_ready (rs := [4]) (by kernel_rfl) (by simp) ?_
            refine AllReadyH.cons (o := ⟨some 73, .load 69 (.tmp 72), 69, "law.go:130", #[⟨3, .data⟩], none⟩) rfl (fun KK hK => ?_) (AllReadyH.nil)
            go_simp
            refine hK.out _ _ hHeld (fun hHeld => ?_)
            clear hK KK
            try simp only [Act.put, List.setIfInBounds_toArray, List.set_cons_zero, List.set_cons_succ]
            refine wpAnyH_ready (rs := [9]) (by kernel_rfl) (by simp) ?_
            refine AllReadyH.cons (o := ⟨some 78, .call ⟨.value (.func 46), #[.tmp 73, .tmp 75, .tmp 77], #[69, 22, 5]⟩, 69, "law.go:130", #[⟨4, .data⟩, ⟨6, .data⟩, ⟨8, .data⟩, ⟨8, .chain⟩], none⟩) rfl (fun KK hK => ?_) (AllReadyH.nil)
            go_simp
            refine (hkp mm).mono ?_
            rintro e wk ⟨bv', rfl, K3⟩
            have HK3 : Hid (Kept3 _ _ _ _ _ _ _) := K3
            obtain ⟨fs, _, hB, hT⟩ := K3
            obtain ⟨ba', bc', hbv'⟩ := tl_slice hB.row
            generalize (es ++ fs).length = E' at hbv'
            clear hB
            subst hbv'
            have nb : ¬ ((Value.slice ba es.length bc).ownBlock = some pb ∨ (Value.slice ao1 n1 cc1).ownBlock = some pb) := fun q => q.elim (fun r => by have h1 : _ = k + 4 := HM10.out.pl.bk.kb pb r; have h2 := HM10.out.pl.lb; omega) (fun r => by have h1 := HP10.out.da.lb pb r; have h2 := HM10.out.pl.lb; omega)
            have nx : ¬ ((Value.slice ba es.length bc).ownBlock = some b1 ∨ (Value.slice ao1 n1 cc1).ownBlock = some b1) := fun q => q.elim (fun r => by have h1 : _ = k + 4 := HM10.out.pl.bk.kb b1 r; have h2 := HP10.out.hx; omega) (fun r => own_typ HP10.out.da.own HP10.out.hb (by decide) r)
            have zk := (hT.block pb (heap_lt HM10.out.pl.box) nb).trans HM10.out.pl.box
            have zx := (hT.block b1 (heap_lt HP10.out.hb) nx).trans HP10.out.hb
            have fk : wk.frozen? ⟨pb, 4, none⟩ = false := by simp [World.frozen?, zk]
            have ck : wk.cell? ⟨pb, 4, none⟩ = some (.slice ba es.length bc) := by simp [World.cell?, zk]
            have kx : wk.cell? ⟨b1, 1, none⟩ = some (.slice ao1 n1 cc1) := by simp [World.cell?, zx]
            have kx2 : ∀ u, (wk.setCell ⟨pb, 4, none⟩ u).cell? ⟨b1, 1, none⟩ = some (.slice ao1 n1 cc1) := fun u => (World.cell?_setCell_far wk ⟨pb, 4, none⟩ ⟨b1, 1, none⟩ u HNB.out).trans kx
            have HZk : Hid (wk.heap[pb]? = _) := zk
            clear zk zx hT nb nx
            go_wp2_with fail
            refine hK.out _ _ kx (fun hHeld => ?_)
            clear hK KK
            try simp only [Act.put, List.setIfInBounds_toArray, List.set_cons_zero, List.set_cons_succ]
            refine wpAnyH_take (i := 10) (oi := ⟨some 79, .nilCheck (.tmp 69), 0, "law.go:130", #[⟨0, .data⟩, ⟨0, .phase⟩, ⟨1, .phase⟩, ⟨2, .phase⟩, ⟨3, .phase⟩, ⟨4, .phase⟩, ⟨5, .phase⟩, ⟨6, .phase⟩, ⟨7, .phase⟩, ⟨8, .phase⟩, ⟨9, .phase⟩], none⟩) (v := (.pointer (some ⟨pb, 0, none⟩))) rfl (by kernel_rfl) (by kernel_rfl) (by kernel_rfl) (fun _ _ _ h => h) (Or.inl ⟨by rfl, fun _ _ => by rfl⟩) hHeld ?_
            simp only [Act.put, List.setIfInBounds_toArray, List.set_cons_zero, List.set_cons_succ]
            refine wpAnyH_take (i := 11) (oi := ⟨some 80, .fieldAddr 71 (.tmp 79) 2, 0, "law.go:130", #[⟨10, .data⟩, ⟨0, .phase⟩, ⟨1, .phase⟩, ⟨2, .phase⟩, ⟨3, .phase⟩, ⟨4, .phase⟩, ⟨5, .phase⟩, ⟨6, .phase⟩, ⟨7, .phase⟩, ⟨8, .phase⟩, ⟨9, .phase⟩], none⟩) (v := (.pointer (some ⟨pb, 4, none⟩))) rfl (by kernel_rfl) (by kernel_rfl) (by kernel_rfl) (fun _ _ _ h => h) (Or.inl ⟨by rfl, fun _ _ => by rfl⟩) hHeld ?_
            simp only [Act.put, List.setIfInBounds_toArray, List.set_cons_zero, List.set_cons_succ]
            refine wpAnyH_ready (rs := [12]) (by kernel_rfl) (by simp) ?_
            refine AllReadyH.cons (o := ⟨none, .store 69 (.tmp 80) (.tmp 78), 0, "law.go:130", #[⟨11, .data⟩, ⟨9, .data⟩, ⟨9, .chain⟩, ⟨0, .phase⟩, ⟨1, .phase⟩, ⟨2, .phase⟩, ⟨3, .phase⟩, ⟨4, .phase⟩, ⟨5, .phase⟩, ⟨6, .phase⟩, ⟨7, .phase⟩, ⟨8, .phase⟩, ⟨9, .phase⟩], none⟩) rfl (fun KK hK => ?_) (AllReadyH.nil)
            go_simp
            refine hK.out _ _ (kx2 _) (fun hHeld => ?_)
            clear hK KK
            try simp only [Act.put, List.setIfInBounds_toArray, List.set_cons_zero, List.set_cons_succ]
            refine wpAnyH_done (by kernel_rfl) ?_ _
            obtain ⟨wl, hwl⟩ : ∃ x, wk.setCell ⟨pb, 4, none⟩ (.slice ba' E' bc') = x := ⟨_, rfl⟩
            rw [hwl]
            have ul : Turns (fun i => i = pb) wk wl := by rw [← hwl]; exact Turns.cell wk pb 4 _
            have zl : wl.heap[pb]? = some (.cells (plC a b (.slice ba' E' bc') st false) 71 (0, 0)) := by rw [← hwl]; exact heap_setCell_same _ _ _ _ _ _ HZk.out
            have hB := HM10.out.booked hk HK3.out HP10.out.da.own HP10.out.da.lb HP10.out.us ul zl (by omega)
            have HB : Hid _ := hB
            clear hB ul zl HK3 HM10 hkp hmk HZk fk ck kx kx2 hwl hHeld
            go_wp2_with fail
            go_ret
            obtain ⟨L', es', he', M11, _⟩ := HB.out
            exact ⟨rfl, L', _, _, es', M11.pl, M11.fr, fun q => by omega⟩
    · go_simp
      obtain ⟨Wb1, hWb⟩ : ∃ x, (W1.alloc (.cells #[.int .i64 0, .slice none 0 0] 28)).drew = x := ⟨_, rfl⟩
      obtain ⟨Mb, Bb, Fb⟩ := HM2.out.box hk _ hWb.symm
      rw [hWb]
      have x0 := Mb.pl.cell 1 _ rfl
      have x5 := Mb.at 2 (.int .i64 o.no) rfl
      have HMb : Hid (Md w0 w Wb1 lab _ k pb a b _ st lg _ _ es o w.heap.size) := Mb
      have HBb : Hid (Bx w Wb1 _ k W1.heap.size _) := Bb
      clear Mb Bb Fb hWb HM2
      refine hK.out _ _ ⟨x0, x5⟩ (fun hHeld => ?_)
      clear hK KK
      try simp only [Act.put, List.setIfInBounds_toArray, List.set_cons_zero, List.set_cons_succ]
      refine wpAnyH_ready (rs := [8]) (by kernel_rfl) (by simp) ?_
      refine AllReadyH.cons (o := ⟨some 29, .call ⟨.value (.func 16), #[.tmp 26, .tmp 28], #[24, 3]⟩, 38, "law.go:123", #[⟨5, .data⟩, ⟨7, .data⟩], none⟩) rfl (fun KK hK => ?_) (AllReadyH.nil)
      go_simp
      refine (HMb.out.take hk hc hno).mono ?_
      rintro e Wc1 ⟨ao1, n1, cc1, Lc, rfl, Mc, Dc, Fc, Uc⟩
      clear x0 x5
      have x0 := Mc.pl.cell 1 _ rfl
      have x5 := Mc.at 2 (.int .i64 o.no) rfl
      have HBc : Hid (Bx w Wc1 Lc k _ _) := Fc.bx HBb.out
      have HMc : Hid (Md w0 w Wc1 lab Lc k pb a b _ st lg _ _ es o w.heap.size) := Mc
      have HDc : Hid (Da Wc1 Lc (k + 6) _ (.slice ao1 n1 cc1)) := Dc
      have HUc : Hid (Ours w lab k (.slice ao1 n1 cc1)) := Uc
      clear Mc Dc Fc Uc HMb HBb
      go_wp2_with fail
      refine hK.out _ _ ⟨x0, x5⟩ (fun hHeld => ?_)
      clear hK KK
      try simp only [Act.put, List.setIfInBounds_toArray, List.set_cons_zero, List.set_cons_succ]
      refine wpAnyH_take (i := 9) (oi := ⟨some 20, .move (.tmp 29), 38, "law.go:123", #[⟨8, .data⟩], none⟩) (v := (.tuple #[.agg #[.int .i64 (takeT (S 1) o.no), (.slice ao1 n1 cc1)], .int .i64 (takeE (S 1) o.no)])) rfl (by kernel_rfl) (by kernel_rfl) (by kernel_rfl) (fun _ _ _ h => h) (Or.inl ⟨by rfl, fun _ _ => by rfl⟩) hHeld ?_
      simp only [Act.put, List.setIfInBounds_toArray, List.set_cons_zero, List.set_cons_succ]
      refine wpAnyH_take (i := 10) (oi := ⟨some 30, .extract (.tmp 20) 0, 28, "law.go:123", #[⟨9, .data⟩], none⟩) (v := (.agg #[.int .i64 (takeT (S 1) o.no), (.slice ao1 n1 cc1)])) rfl (by kernel_rfl) (by kernel_rfl) (by kernel_rfl) (fun _ _ _ h => h) (Or.inl ⟨by rfl, fun _ _ => by rfl⟩) hHeld ?_
      simp only [Act.put, List.setIfInBounds_toArray, List.set_cons_zero, List.set_cons_succ]
      refine wpAnyH_take (i := 11) (oi := ⟨some 31, .extract (.tmp 20) 1, 29, "law.go:123", #[⟨9, .data⟩, ⟨13, .gcOnly .lateStores⟩], none⟩) (v := (.int .i64 (takeE (S 1) o.no))) rfl (by kernel_rfl) (by kernel_rfl) (by kernel_rfl) (fun _ _ _ h => h) (Or.inl ⟨by rfl, fun _ _ => by rfl⟩) hHeld ?_
      simp only [Act.put, List.setIfInBounds_toArray, List.set_cons_zero, List.set_cons_succ]
      refine wpAnyH_ready (rs := [13]) (by kernel_rfl) (by simp) ?_
      refine AllReadyH.cons (o := ⟨none, .store 28 (.tmp 7) (.tmp 30), 0, "law.go:123", #[⟨12, .data⟩, ⟨10, .data⟩, ⟨8, .chain⟩, ⟨0, .phase⟩, ⟨1, .phase⟩, ⟨2, .phase⟩, ⟨3, .phase⟩, ⟨4, .phase⟩, ⟨5, .phase⟩, ⟨6, .phase⟩, ⟨7, .phase⟩, ⟨8, .phase⟩, ⟨9, .phase⟩, ⟨10, .phase⟩, ⟨11, .textOnly .lateStores⟩, ⟨12, .phase⟩], none⟩) rfl (fun KK hK => ?_) (AllReadyH.nil)
      clear x0 x5
      have gb := HBc.out.hb
      have g0 : Wc1.cell? ⟨W1.heap.size, 0, none⟩ = some (.int .i64 0) := by simp [World.cell?, gb]
      have g1 : Wc1.cell? ⟨W1.heap.size, 1, none⟩ = some (.slice none 0 0) := by simp [World.cell?, gb]
      have z0 : Wc1.frozen? ⟨W1.heap.size, 0, none⟩ = false := by simp [World.frozen?, gb]
      have z1 : Wc1.frozen? ⟨W1.heap.size, 1, none⟩ = false := by simp [World.frozen?, gb]
      have hS1 := heap_setCell_same Wc1 (W1.heap.size) 0 _ _ (.int .i64 (takeT (S 1) o.no)) gb
      have g1n : (Wc1.setCell ⟨W1.heap.size, 0, none⟩ (.int .i64 (takeT (S 1) o.no))).cell? ⟨W1.heap.size, 1, none⟩ = some (.slice none 0 0) := by simp [World.cell?, hS1]
      have z1n : (Wc1.setCell ⟨W1.heap.size, 0, none⟩ (.int .i64 (takeT (S 1) o.no))).frozen? ⟨W1.heap.size, 1, none⟩ = false := by simp [World.frozen?, hS1]
      clear hS1
      have Hgb : Hid (Wc1.heap[W1.heap.size]? = some (.cells #[.int .i64 0, .slice none 0 0] 28)) := gb
      clear gb
      go_simp
      obtain ⟨We1, hWe⟩ : ∃ y, (Wc1.setCell ⟨W1.heap.size, 0, none⟩ (.int .i64 (takeT (S 1) o.no))).setCell ⟨W1.heap.size, 1, none⟩ (.slice ao1 n1 cc1) = y := ⟨_, rfl⟩
      rw [hWe]
      have tE : Turns (fun i => i = W1.heap.size) Wc1 We1 := by rw [← hWe]; exact (Turns.cell Wc1 (W1.heap.size) 0 _).trans (Turns.cell _ (W1.heap.size) 1 _) (fun _ _ q => q)
      have hE : We1.heap[W1.heap.size]? = some (.cells #[.int .i64 (takeT (S 1) o.no), (.slice ao1 n1 cc1)] 28) := by rw [← hWe]; exact heap_setCell_same _ _ _ _ _ _ (heap_setCell_same _ _ _ _ _ _ Hgb.out)
      obtain ⟨Me, Pe⟩ := HMc.out.stored hk HDc.out HUc.out HBc.out tE hE
      clear g0 g1 z0 z1 g1n z1n Hgb tE hE hWe HMc HDc HUc HBc
      have x0 := Me.pl.cell 1 _ rfl
      have x5 := Me.at 2 (.int .i64 o.no) rfl
      have HMe : Hid (Md w0 w We1 lab _ k pb a b _ st lg _ _ es o w.heap.size) := Me
      have HPe : Hid (Pk w lab We1 _ k (W1.heap.size) _ _ (.slice ao1 n1 cc1)) := Pe
      clear Me Pe
      refine hK.out _ _ ⟨x0, x5⟩ (fun hHeld => ?_)
      clear hK KK
      try simp only [Act.put, List.setIfInBounds_toArray, List.set_cons_zero, List.set_cons_succ]
      refine wpAnyH_take (i := 14) (oi := ⟨some 8, .assign (.tmp 31), 29, "law.go:123", #[⟨11, .data⟩, ⟨13, .chain⟩, ⟨0, .phase⟩, ⟨1, .phase⟩, ⟨2, .phase⟩, ⟨3, .phase⟩, ⟨4, .phase⟩, ⟨5, .phase⟩, ⟨6, .phase⟩, ⟨7, .phase⟩, ⟨8, .phase⟩, ⟨9, .phase⟩, ⟨10, .phase⟩, ⟨11, .phase⟩, ⟨12, .phase⟩, ⟨13, .phase⟩], none⟩) (v := (.int .i64 (takeE (S 1) o.no))) rfl (by kernel_rfl) (by kernel_rfl) (by kernel_rfl) (fun _ _ _ h => h) (Or.inl ⟨by rfl, fun _ _ => by rfl⟩) hHeld ?_
      simp only [Act.put, List.setIfInBounds_toArray, List.set_cons_zero, List.set_cons_succ]
      refine wpAnyH_done (by kernel_rfl) ?_ _
      clear x0 x5
      have HP1 := HPe
      clear HPe
      generalize W1.heap.size = b1 at HP1 ⊢
      have M6 := HMe.out.below hk (below_drewN We1 1)
      have HP1n := (Fr.below (k := k) (below_drewN We1 1) (k + 6)).pk HP1.out
      clear HP1
      have HP1 : Hid (Pk w lab _ _ k b1 _ _ _) := HP1n
      have y2 := HMe.out.pl.cell 3 _ rfl
      have y5 := HMe.out.at 2 (.int .i64 o.no) rfl
      have HM6 : Hid (Md w0 w (We1.drewN 1) lab _ k pb a b _ st lg _ _ es o w.heap.size) := M6
      clear M6 HMe HP1n
      go_wp2_with fail
      refine wp_region_held_drew (S := fun w' => w'.cell? ⟨pb, 3, none⟩ = some (.pointer (some ⟨b 1, 0, none⟩)) ∧ w'.cell? ⟨w.heap.size, 2, none⟩ = some (.int .i64 o.no)) (by kernel_rfl) ⟨y2, y5⟩ (fun hHeld => ?_)
      refine wpAnyH_take (i := 0) (oi := ⟨some 33, .move (.tmp 0), 66, "law.go:124", #[], none⟩) (v := (.pointer (some ⟨pb, 0, none⟩))) rfl (by kernel_rfl) (by kernel_rfl) (by kernel_rfl) (fun _ _ _ h => h) (Or.inl ⟨by rfl, fun _ _ => by rfl⟩) hHeld ?_
      simp only [Act.put, List.setIfInBounds_toArray, List.set_cons_zero, List.set_cons_succ]
      refine wpAnyH_take (i := 1) (oi := ⟨some 34, .move (.tmp 1), 3, "law.go:124", #[], none⟩) (v := (.int .i64 1)) rfl (by kernel_rfl) (by kernel_rfl) (by kernel_rfl) (fun _ _ _ h => h) (Or.inl ⟨by rfl, fun _ _ => by rfl⟩) hHeld ?_
      simp only [Act.put, List.setIfInBounds_toArray, List.set_cons_zero, List.set_cons_succ]
      refine wpAnyH_take (i := 2) (oi := ⟨some 35, .nilCheck (.tmp 33), 0, "law.go:124", #[⟨0, .data⟩], none⟩) (v := (.pointer (some ⟨pb, 0, none⟩))) rfl (by kernel_rfl) (by kernel_rfl) (by kernel_rfl) (fun _ _ _ h => h) (Or.inl ⟨by rfl, fun _ _ => by rfl⟩) hHeld ?_
      simp only [Act.put, List.setIfInBounds_toArray, List.set_cons_zero, List.set_cons_succ]
      refine wpAnyH_take (i := 3) (oi := ⟨some 36, .fieldAddr 71 (.tmp 35) 1, 0, "law.go:124", #[⟨2, .data⟩], none⟩) (v := (.pointer (some ⟨pb, 2, none⟩))) rfl (by kernel_rfl) (by kernel_rfl) (by kernel_rfl) (fun _ _ _ h => h) (Or.inl ⟨by rfl, fun _ _ => by rfl⟩) hHeld ?_
      simp only [Act.put, List.setIfInBounds_toArray, List.set_cons_zero, List.set_cons_succ]
      refine wpAnyH_take (i := 4) (oi := ⟨some 37, .indexAddr 68 (.tmp 36) (.tmp 34), 0, "law.go:124", #[⟨3, .data⟩, ⟨1, .data⟩], none⟩) (v := (.pointer (some ⟨pb, 3, none⟩))) rfl (by kernel_rfl) (by kernel_rfl) (by kernel_rfl) (fun _ _ _ h => h) (Or.inl ⟨by rfl, fun w' h' => by unfold execOp; go_simp⟩) hHeld ?_
      simp only [Act.put, List.setIfInBounds_toArray, List.set_cons_zero, List.set_cons_succ]
      refine wpAnyH_take (i := 5) (oi := ⟨some 38, .load 52 (.tmp 37), 52, "law.go:124", #[⟨4, .data⟩], none⟩) (v := (.pointer (some ⟨b 1, 0, none⟩))) rfl (by kernel_rfl) (by kernel_rfl) (by kernel_rfl) (fun _ _ _ h => h) (Or.inl ⟨by rfl, fun w' h' => by have e1 := h'.1; have e2 := h'.2; unfold execOp; go_simp⟩) hHeld ?_
      simp only [Act.put, List.setIfInBounds_toArray, List.set_cons_zero, List.set_cons_succ]
      refine wpAnyH_take (i := 6) (oi := ⟨some 39, .fieldAddr 59 (.tmp 5) 2, 0, "law.go:124", #[], none⟩) (v := (.pointer (some ⟨w.heap.size, 2, none⟩))) rfl (by kernel_rfl) (by kernel_rfl) (by kernel_rfl) (fun _ _ _ h => h) (Or.inl ⟨by rfl, fun _ _ => by rfl⟩) hHeld ?_
      simp only [Act.put, List.setIfInBounds_toArray, List.set_cons_zero, List.set_cons_succ]
      refine wpAnyH_take (i := 7) (oi := ⟨some 40, .load 3 (.tmp 39), 3, "law.go:124", #[⟨6, .data⟩], none⟩) (v := (.int .i64 o.no)) rfl (by kernel_rfl) (by kernel_rfl) (by kernel_rfl) (fun _ _ _ h => h) (Or.inl ⟨by rfl, fun w' h' => by have e1 := h'.1; have e2 := h'.2; unfold execOp; go_simp⟩) hHeld ?_
      simp only [Act.put, List.setIfInBounds_toArray, List.set_cons_zero, List.set_cons_succ]
      refine wpAnyH_ready (rs := [8, 12]) (by kernel_rfl) (by simp) ?_
      refine AllReadyH.cons (o := ⟨some 41, .call ⟨.value (.func 22), #[.tmp 38, .tmp 40], #[52, 3]⟩, 60, "law.go:124", #[⟨5, .data⟩, ⟨7, .data⟩], none⟩) rfl (fun KK hK => ?_) (AllReadyH.cons (o := ⟨some 9, .alloc 28, 0, "law.go:124", #[], none⟩) rfl (fun KK hK => ?_) (AllReadyH.nil))
      · go_simp
        refine (HM6.out.dtake hk hc).mono ?_
        rintro e Wc2 ⟨ao2, n2, cc2, Lc, rfl, Mc, Dc, Fc, Uc⟩
        have x0 := Mc.pl.cell 3 _ rfl
        have x5 := Mc.at 2 (.int .i64 o.no) rfl
        have HMc : Hid (Md w0 w Wc2 lab Lc k pb a b _ st lg _ _ es o w.heap.size) := Mc
        have HDc : Hid (Da Wc2 Lc (k + 6) _ (.slice ao2 n2 cc2)) := Dc
        have HUc : Hid (Ours w lab k (.slice ao2 n2 cc2)) := Uc
        have HP1n := Fc.pk HP1.out
        clear HP1
        have HP1 : Hid (Pk w lab _ _ k _ _ _ _) := HP1n
        clear HP1n
        clear Mc Dc Fc Uc HM6
        go_wp2_with fail
        refine hK.out _ _ ⟨x0, x5⟩ (fun hHeld => ?_)
        clear hK KK
        try simp only [Act.put, List.setIfInBounds_toArray, List.set_cons_zero, List.set_cons_succ]
        refine wpAnyH_take (i := 9) (oi := ⟨some 32, .move (.tmp 41), 60, "law.go:124", #[⟨8, .data⟩], none⟩) (v := (.tuple #[.agg #[.int .i64 (takeT (S 1) o.no), (.slice ao2 n2 cc2)], .int .i64 (takeE (S 1) o.no)])) rfl (by kernel_rfl) (by kernel_rfl) (by kernel_rfl) (fun _ _ _ h => h) (Or.inl ⟨by rfl, fun _ _ => by rfl⟩) hHeld ?_
        simp only [Act.put, List.setIfInBounds_toArray, List.set_cons_zero, List.set_cons_succ]
        refine wpAnyH_take (i := 10) (oi := ⟨some 42, .extract (.tmp 32) 0, 28, "law.go:124", #[⟨9, .data⟩], none⟩) (v := (.agg #[.int .i64 (takeT (S 1) o.no), (.slice ao2 n2 cc2)])) rfl (by kernel_rfl) (by kernel_rfl) (by kernel_rfl) (fun _ _ _ h => h) (Or.inl ⟨by rfl, fun _ _ => by rfl⟩) hHeld ?_
        simp only [Act.put, List.setIfInBounds_toArray, List.set_cons_zero, List.set_cons_succ]
        refine wpAnyH_take (i := 11) (oi := ⟨some 43, .extract (.tmp 32) 1, 3, "law.go:124", #[⟨9, .data⟩, ⟨13, .gcOnly .lateStores⟩], none⟩) (v := (.int .i64 (takeE (S 1) o.no))) rfl (by kernel_rfl) (by kernel_rfl) (by kernel_rfl) (fun _ _ _ h => h) (Or.inl ⟨by rfl, fun _ _ => by rfl⟩) hHeld ?_
        simp only [Act.put, List.setIfInBounds_toArray, List.set_cons_zero, List.set_cons_succ]
        refine wpAnyH_ready (rs := [12]) (by kernel_rfl) (by simp) ?_
        refine AllReadyH.cons (o := ⟨some 9, .alloc 28, 0, "law.go:124", #[], none⟩) rfl (fun KK hK => ?_) (AllReadyH.nil)
        go_simp
        obtain ⟨Wb2, hWb⟩ : ∃ x, Wc2.alloc (.cells #[.int .i64 0, .slice none 0 0] 28) = x := ⟨_, rfl⟩
        obtain ⟨Mb, Bb, Fb⟩ := HMc.out.box hk _ hWb.symm
        rw [hWb]
        clear x0 x5
        have x0 := Mb.pl.cell 3 _ rfl
        have x5 := Mb.at 2 (.int .i64 o.no) rfl
        have HDd := HDc.out
        clear HDc
        have HDc : Hid (Da Wb2 _ (k + 6) _ (.slice ao2 n2 cc2)) := Fb.da HDd
        clear HDd
        have HNE : Hid (b1 ≠ Wc2.heap.size) := Nat.ne_of_lt (heap_lt HP1.out.hb)
        have HP1n := Fb.pk HP1.out
        clear HP1
        have HP1 : Hid (Pk w lab _ _ k _ _ _ _) := HP1n
        clear HP1n
        have HMb : Hid (Md w0 w Wb2 lab _ k pb a b _ st lg _ _ es o w.heap.size) := Mb
        have HBb : Hid (Bx w Wb2 _ k Wc2.heap.size _) := Bb
        clear Mb Bb Fb hWb HMc
        refine hK.out _ _ ⟨x0, x5⟩ (fun hHeld => ?_)
        clear hK KK
        try simp only [Act.put, List.setIfInBounds_toArray, List.set_cons_zero, List.set_cons_succ]
        refine wpAnyH_ready (rs := [13]) (by kernel_rfl) (by simp) ?_
        refine AllReadyH.cons (o := ⟨none, .store 28 (.tmp 9) (.tmp 42), 0, "law.go:124", #[⟨12, .data⟩, ⟨10, .data⟩, ⟨8, .chain⟩, ⟨0, .phase⟩, ⟨1, .phase⟩, ⟨2, .phase⟩, ⟨3, .phase⟩, ⟨4, .phase⟩, ⟨5, .phase⟩, ⟨6, .phase⟩, ⟨7, .phase⟩, ⟨8, .phase⟩, ⟨9, .phase⟩, ⟨10, .phase⟩, ⟨11, .textOnly .lateStores⟩, ⟨12, .phase⟩], none⟩) rfl (fun KK hK => ?_) (AllReadyH.nil)
        clear x0 x5
        have gb := HBb.out.hb
        have g0 : Wb2.cell? ⟨Wc2.heap.size, 0, none⟩ = some (.int .i64 0) := by simp [World.cell?, gb]
        have g1 : Wb2.cell? ⟨Wc2.heap.size, 1, none⟩ = some (.slice none 0 0) := by simp [World.cell?, gb]
        have z0 : Wb2.frozen? ⟨Wc2.heap.size, 0, none⟩ = false := by simp [World.frozen?, gb]
        have z1 : Wb2.frozen? ⟨Wc2.heap.size, 1, none⟩ = false := by simp [World.frozen?, gb]
        have hS1 := heap_setCell_same Wb2 (Wc2.heap.size) 0 _ _ (.int .i64 (takeT (S 1) o.no)) gb
        have g1n : (Wb2.setCell ⟨Wc2.heap.size, 0, none⟩ (.int .i64 (takeT (S 1) o.no))).cell? ⟨Wc2.heap.size, 1, none⟩ = some (.slice none 0 0) := by simp [World.cell?, hS1]
        have z1n : (Wb2.setCell ⟨Wc2.heap.size, 0, none⟩ (.int .i64 (takeT (S 1) o.no))).frozen? ⟨Wc2.heap.size, 1, none⟩ = false := by simp [World.frozen?, hS1]
        clear hS1
        have Hgb : Hid (Wb2.heap[Wc2.heap.size]? = some (.cells #[.int .i64 0, .slice none 0 0] 28)) := gb
        clear gb
        go_simp
        obtain ⟨We2, hWe⟩ : ∃ y, (Wb2.setCell ⟨Wc2.heap.size, 0, none⟩ (.int .i64 (takeT (S 1) o.no))).setCell ⟨Wc2.heap.size, 1, none⟩ (.slice ao2 n2 cc2) = y := ⟨_, rfl⟩
        rw [hWe]
        have tE : Turns (fun i => i = Wc2.heap.size) Wb2 We2 := by rw [← hWe]; exact (Turns.cell Wb2 (Wc2.heap.size) 0 _).trans (Turns.cell _ (Wc2.heap.size) 1 _) (fun _ _ q => q)
        have hE : We2.heap[Wc2.heap.size]? = some (.cells #[.int .i64 (takeT (S 1) o.no), (.slice ao2 n2 cc2)] 28) := by rw [← hWe]; exact heap_setCell_same _ _ _ _ _ _ (heap_setCell_same _ _ _ _ _ _ Hgb.out)
        obtain ⟨Me, Pe⟩ := HMb.out.stored hk HDc.out HUc.out HBb.out tE hE
        have HP1n := HP1.out.stays HBb.out HNE.out tE
        clear HP1
        have HP1 : Hid (Pk w lab _ _ k _ _ _ _) := HP1n
        clear HP1n
        clear g0 g1 z0 z1 g1n z1n Hgb tE hE hWe HMb HDc HUc HBb HNE
        have x0 := Me.pl.cell 3 _ rfl
        have x5 := Me.at 2 (.int .i64 o.no) rfl
        have HMe : Hid (Md w0 w We2 lab _ k pb a b _ st lg _ _ es o w.heap.size) := Me
        have HPe : Hid (Pk w lab We2 _ k (Wc2.heap.size) _ _ (.slice ao2 n2 cc2)) := Pe
        clear Me Pe
        refine hK.out _ _ ⟨x0, x5⟩ (fun hHeld => ?_)
        clear hK KK
        try simp only [Act.put, List.setIfInBounds_toArray, List.set_cons_zero, List.set_cons_succ]
        refine wpAnyH_take (i := 14) (oi := ⟨some 10, .assign (.tmp 43), 3, "law.go:124", #[⟨11, .data⟩, ⟨13, .chain⟩, ⟨0, .phase⟩, ⟨1, .phase⟩, ⟨2, .phase⟩, ⟨3, .phase⟩, ⟨4, .phase⟩, ⟨5, .phase⟩, ⟨6, .phase⟩, ⟨7, .phase⟩, ⟨8, .phase⟩, ⟨9, .phase⟩, ⟨10, .phase⟩, ⟨11, .phase⟩, ⟨12, .phase⟩, ⟨13, .phase⟩], none⟩) (v := (.int .i64 (takeE (S 1) o.no))) rfl (by kernel_rfl) (by kernel_rfl) (by kernel_rfl) (fun _ _ _ h => h) (Or.inl ⟨by rfl, fun _ _ => by rfl⟩) hHeld ?_
        simp only [Act.put, List.setIfInBounds_toArray, List.set_cons_zero, List.set_cons_succ]
        refine wpAnyH_done (by kernel_rfl) ?_ _
        clear x0 x5
        have HP2 := HPe
        clear HPe
        generalize Wc2.heap.size = b2 at HP2 ⊢
        have k1 := HP1.out.c1
        have m1 := HP2.out.c1
        have hs := same_any ao1 ao2 n1 n2 cc1 cc2 (takeD (S 1) o.no) (takeD (S 1) o.no) We2 (by have := HP1.out.da.len; have := HP1.out.da.len_eq; omega) (HP1.out.da.lies HP1.out.da.len_eq) (HP2.out.da.lies HP2.out.da.len_eq)
        go_wp2_with fail
        refine hs.mono ?_
        rintro e w9 ⟨rfl, m9, hw9⟩
        have b9 : Below We2.heap.size We2 w9 := by rw [hw9]; exact below_drewN We2 m9
        have M9 := HMe.out.below hk b9
        have P9 := (Fr.below (k := k) b9 (k + 6)).pk HP1.out
        have Q9 := (Fr.below (k := k) b9 (k + 6)).pk HP2.out
        clear k1 m1 hs hw9 HP1 HP2 HMe
        have k0 := P9.c0
        have k1 := P9.c1
        have m0 := Q9.c0
        have p6 := M9.pl.cell 6 _ rfl
        have p4 := M9.pl.cell 4 _ rfl
        have HM9 : Hid (Md w0 w w9 lab _ k pb a b (.slice ba es.length bc) st lg _ _ es o w.heap.size) := M9
        have HP9 : Hid (Pk w lab w9 _ k b1 _ _ _) := P9
        have hdd : decide (takeD (S 1) o.no = takeD (S 1) o.no) = true := decide_eq_true rfl
        have hbb : (takeE (S 1) o.no == takeE (S 1) o.no) = true := by simp
        have htt : (takeT (S 1) o.no == takeT (S 1) o.no) = true := by simp
        clear M9 P9 Q9 b9
        cases lg with
        | true =>
          go_wp2_with (first | (go_at_call 13; refine (num_any _ _).mono ?_; rintro e w8 ⟨rfl, rfl⟩) | fail)
          go_ret
          exact ⟨rfl, _, _, _, _, HM9.out.pl, HM9.out.fr, fun q => by omega⟩
        | false =>
          go_wp2_with (first | (go_at_call 13; refine (num_any _ _).mono ?_; rintro e w8 ⟨rfl, rfl⟩) | fail)
          have M10 := HM9.out.below hk (below_drewN w8 1)
          have P10 := (Fr.below (k := k) (below_drewN w8 1) (k + 6)).pk HP9.out
          have hnb : pb ≠ b1 := fun q => by have h1 := M10.pl.lb; have h2 := P10.hx; rw [← q] at h2; omega
          have HNB : Hid (pb ≠ b1) := hnb
          have hmk := mark_any M10.pl 1
          have hln : n1 ≤ 4096 := by have h1 := P10.da.len_eq; have h2 := HSh.out (by first | rfl | trivial); omega
          have hkp := fun m => keep_any M10.pl.bk (.slice ao1 n1 cc1) _ _ P10.da.own (fun i q r => by have h1 := P10.da.lb i q; have h2 : _ = k + 4 := r; omega) (by have h1 := P10.da.len_eq; omega) (by omega) m
          have HM10 : Hid (Md w0 w (w8.drewN 1) lab _ k pb a b (.slice ba es.length bc) st false _ _ es o w.heap.size) := M10
          have HP10 : Hid (Pk w lab (w8.drewN 1) _ k b1 _ _ (.slice ao1 n1 cc1)) := P10
          clear M10 P10 hnb HM9 HP9 k0 m0 p6
          refine wp_region_held_drew (S := fun w' => w'.cell? ⟨b1, 1, none⟩ = some (.slice ao1 n1 cc1)) (by kernel_rfl) k1 (fun hHeld => ?_)
          refine wpAnyH_take (i := 0) (oi := ⟨some 69, .move (.tmp 0), 66, "law.go:130", #[], none⟩) (v := (.pointer (some ⟨pb, 0, none⟩))) rfl (by kernel_rfl) (by kernel_rfl) (by kernel_rfl) (fun _ _ _ h => h) (Or.inl ⟨by rfl, fun _ _ => by rfl⟩) hHeld ?_
          simp only [Act.put, List.setIfInBounds_toArray, List.set_cons_zero, List.set_cons_succ]
          refine wpAnyH_take (i := 1) (oi := ⟨some 70, .move (.tmp 0), 66, "law.go:130", #[], none⟩) (v := (.pointer (some ⟨pb, 0, none⟩))) rfl (by kernel_rfl) (by kernel_rfl) (by kernel_rfl) (fun _ _ _ h => h) (Or.inl ⟨by rfl, fun _ _ => by rfl⟩) hHeld ?_
          simp only [Act.put, List.setIfInBounds_toArray, List.set_cons_zero, List.set_cons_succ]
          refine wpAnyH_take (i := 2) (oi := ⟨some 71, .nilCheck (.tmp 70), 0, "law.go:130", #[⟨1, .data⟩], none⟩) (v := (.pointer (some ⟨pb, 0, none⟩))) rfl (by kernel_rfl) (by kernel_rfl) (by kernel_rfl) (fun _ _ _ h => h) (Or.inl ⟨by rfl, fun _ _ => by rfl⟩) hHeld ?_
          simp only [Act.put, List.setIfInBounds_toArray, List.set_cons_zero, List.set_cons_succ]
          refine wpAnyH_take (i := 3) (oi := ⟨some 72, .fieldAddr 71 (.tmp 71) 2, 0, "law.go:130", #[⟨2, .data⟩], none⟩) (v := (.pointer (some ⟨pb, 4, none⟩))) rfl (by kernel_rfl) (by kernel_rfl) (by kernel_rfl) (fun _ _ _ h => h) (Or.inl ⟨by rfl, fun _ _ => by rfl⟩) hHeld ?_
          simp only [Act.put, List.setIfInBounds_toArray, List.set_cons_zero, List.set_cons_succ]
          refine wpAnyH_take (i := 5) (oi := ⟨some 74, .fieldAddr 28 (.tmp 7) 1, 0, "law.go:130", #[], none⟩) (v := (.pointer (some ⟨b1, 1, none⟩))) rfl (by kernel_rfl) (by kernel_rfl) (by kernel_rfl) (fun _ _ _ h => h) (Or.inl ⟨by rfl, fun _ _ => by rfl⟩) hHeld ?_
          simp only [Act.put, List.setIfInBounds_toArray, List.set_cons_zero, List.set_cons_succ]
          refine wpAnyH_take (i := 6) (oi := ⟨some 75, .load 22 (.tmp 74), 22, "law.go:130", #[⟨5, .data⟩], none⟩) (v := (.slice ao1 n1 cc1)) rfl (by kernel_rfl) (by kernel_rfl) (by kernel_rfl) (fun _ _ _ h => h) (Or.inl ⟨by rfl, fun w' h' => by unfold execOp; go_simp⟩) hHeld ?_
          simp only [Act.put, List.setIfInBounds_toArray, List.set_cons_zero, List.set_cons_succ]
          refine wpAnyH_take (i := 7) (oi := ⟨some 76, .move (.tmp 0), 66, "law.go:130", #[], none⟩) (v := (.pointer (some ⟨pb, 0, none⟩))) rfl (by kernel_rfl) (by kernel_rfl) (by kernel_rfl) (fun _ _ _ h => h) (Or.inl ⟨by rfl, fun _ _ => by rfl⟩) hHeld ?_
          simp only [Act.put, List.setIfInBounds_toArray, List.set_cons_zero, List.set_cons_succ]
          refine wpAnyH_ready (rs := [4, 8]) (by kernel_rfl) (by simp) ?_
          refine AllReadyH.cons (o := ⟨some 73, .load 69 (.tmp 72), 69, "law.go:130", #[⟨3, .data⟩], none⟩) rfl (fun KK hK => ?_) (AllReadyH.cons (o := ⟨some 77, .call ⟨.value (.func 47), #[.tmp 76, .const (.int .i64 1)], #[66, 3]⟩, 5, "law.go:130", #[⟨7, .data⟩], none⟩) rfl (fun KK hK => ?_) (AllReadyH.nil))
          · go_simp
            refine hK.out _ _ hHeld (fun hHeld => ?_)
            clear hK KK
            try simp only [Act.put, List.setIfInBounds_toArray, List.set_cons_zero, List.set_cons_succ]
            refine wpAnyH_ready (rs := [8]) (by kernel_rfl) (by simp) ?_
            refine AllReadyH.cons (o := ⟨some 77, .call ⟨.value (.func 47), #[.tmp 76, .const (.int .i64 1)], #[66, 3]⟩, 5, "law.go:130", #[⟨7, .data⟩], none⟩) rfl (fun KK hK => ?_) (AllReadyH.nil)
            go_simp
            refine hmk.mono ?_
            rintro e wm ⟨mm, rfl, rfl⟩
            go_wp2_with fail
            refine hK.out _ _ hHeld (fun hHeld => ?_)
            clear hK KK
            try simp only [Act.put, List.setIfInBounds_toArray, List.set_cons_zero, List.set_cons_succ]
            refine wpAnyH_ready (rs := [9]) (by kernel_rfl) (by simp) ?_
            refine AllReadyH.cons (o := ⟨some 78, .call ⟨.value (.func 46), #[.tmp 73, .tmp 75, .tmp 77], #[69, 22, 5]⟩, 69, "law.go:130", #[⟨4, .data⟩, ⟨6, .data⟩, ⟨8, .data⟩, ⟨8, .chain⟩], none⟩) rfl (fun KK hK => ?_) (AllReadyH.nil)
            go_simp
            refine (hkp mm).mono ?_
            rintro e wk ⟨bv', rfl, K3⟩
            have HK3 : Hid (Kept3 _ _ _ _ _ _ _) := K3
            obtain ⟨fs, _, hB, hT⟩ := K3
            obtain ⟨ba', bc', hbv'⟩ := tl_slice hB.row
            generalize (es ++ fs).length = E' at hbv'
            clear hB
            subst hbv'
            have nb : ¬ ((Value.slice ba es.length bc).ownBlock = some pb ∨ (Value.slice ao1 n1 cc1).ownBlock = some pb) := fun q => q.elim (fun r => by have h1 : _ = k + 4 := HM10.out.pl.bk.kb pb r; have h2 := HM10.out.pl.lb; omega) (fun r => by have h1 := HP10.out.da.lb pb r; have h2 := HM10.out.pl.lb; omega)
            have nx : ¬ ((Value.slice ba es.length bc).ownBlock = some b1 ∨ (Value.slice ao1 n1 cc1).ownBlock = some b1) := fun q => q.elim (fun r => by have h1 : _ = k + 4 := HM10.out.pl.bk.kb b1 r; have h2 := HP10.out.hx; omega) (fun r => own_typ HP10.out.da.own HP10.out.hb (by decide) r)
            have zk := (hT.block pb (heap_lt HM10.out.pl.box) nb).trans HM10.out.pl.box
            have zx := (hT.block b1 (heap_lt HP10.out.hb) nx).trans HP10.out.hb
            have fk : wk.frozen? ⟨pb, 4, none⟩ = false := by simp [World.frozen?, zk]
            have ck : wk.cell? ⟨pb, 4, none⟩ = some (.slice ba es.length bc) := by simp [World.cell?, zk]
            have kx : wk.cell? ⟨b1, 1, none⟩ = some (.slice ao1 n1 cc1) := by simp [World.cell?, zx]
            have kx2 : ∀ u, (wk.setCell ⟨pb, 4, none⟩ u).cell? ⟨b1, 1, none⟩ = some (.slice ao1 n1 cc1) := fun u => (World.cell?_setCell_far wk ⟨pb, 4, none⟩ ⟨b1, 1, none⟩ u HNB.out).trans kx
            have HZk : Hid (wk.heap[pb]? = _) := zk
            clear zk zx hT nb nx
            go_wp2_with fail
            refine hK.out _ _ kx (fun hHeld => ?_)
            clear hK KK
            try simp only [Act.put, List.setIfInBounds_toArray, List.set_cons_zero, List.set_cons_succ]
            refine wpAnyH_take (i := 10) (oi := ⟨some 79, .nilCheck (.tmp 69), 0, "law.go:130", #[⟨0, .data⟩, ⟨0, .phase⟩, ⟨1, .phase⟩, ⟨2, .phase⟩, ⟨3, .phase⟩, ⟨4, .phase⟩, ⟨5, .phase⟩, ⟨6, .phase⟩, ⟨7, .phase⟩, ⟨8, .phase⟩, ⟨9, .phase⟩], none⟩) (v := (.pointer (some ⟨pb, 0, none⟩))) rfl (by kernel_rfl) (by kernel_rfl) (by kernel_rfl) (fun _ _ _ h => h) (Or.inl ⟨by rfl, fun _ _ => by rfl⟩) hHeld ?_
            simp only [Act.put, List.setIfInBounds_toArray, List.set_cons_zero, List.set_cons_succ]
            refine wpAnyH_take (i := 11) (oi := ⟨some 80, .fieldAddr 71 (.tmp 79) 2, 0, "law.go:130", #[⟨10, .data⟩, ⟨0, .phase⟩, ⟨1, .phase⟩, ⟨2, .phase⟩, ⟨3, .phase⟩, ⟨4, .phase⟩, ⟨5, .phase⟩, ⟨6, .phase⟩, ⟨7, .phase⟩, ⟨8, .phase⟩, ⟨9, .phase⟩], none⟩) (v := (.pointer (some ⟨pb, 4, none⟩))) rfl (by kernel_rfl) (by kernel_rfl) (by kernel_rfl) (fun _ _ _ h => h) (Or.inl ⟨by rfl, fun _ _ => by rfl⟩) hHeld ?_
            simp only [Act.put, List.setIfInBounds_toArray, List.set_cons_zero, List.set_cons_succ]
            refine wpAnyH_ready (rs := [12]) (by kernel_rfl) (by simp) ?_
            refine AllReadyH.cons (o := ⟨none, .store 69 (.tmp 80) (.tmp 78), 0, "law.go:130", #[⟨11, .data⟩, ⟨9, .data⟩, ⟨9, .chain⟩, ⟨0, .phase⟩, ⟨1, .phase⟩, ⟨2, .phase⟩, ⟨3, .phase⟩, ⟨4, .phase⟩, ⟨5, .phase⟩, ⟨6, .phase⟩, ⟨7, .phase⟩, ⟨8, .phase⟩, ⟨9, .phase⟩], none⟩) rfl (fun KK hK => ?_) (AllReadyH.nil)
            go_simp
            refine hK.out _ _ (kx2 _) (fun hHeld => ?_)
            clear hK KK
            try simp only [Act.put, List.setIfInBounds_toArray, List.set_cons_zero, List.set_cons_succ]
            refine wpAnyH_done (by kernel_rfl) ?_ _
            obtain ⟨wl, hwl⟩ : ∃ x, wk.setCell ⟨pb, 4, none⟩ (.slice ba' E' bc') = x := ⟨_, rfl⟩
            rw [hwl]
            have ul : Turns (fun i => i = pb) wk wl := by rw [← hwl]; exact Turns.cell wk pb 4 _
            have zl : wl.heap[pb]? = some (.cells (plC a b (.slice ba' E' bc') st false) 71 (0, 0)) := by rw [← hwl]; exact heap_setCell_same _ _ _ _ _ _ HZk.out
            have hB := HM10.out.booked hk HK3.out HP10.out.da.own HP10.out.da.lb HP10.out.us ul zl (by omega)
            have HB : Hid _ := hB
            clear hB ul zl HK3 HM10 hkp hmk HZk fk ck kx kx2 hwl hHeld
            go_wp2_with fail
            go_ret
            obtain ⟨L', es', he', M11, _⟩ := HB.out
            exact ⟨rfl, L', _, _, es', M11.pl, M11.fr, fun q => by omega⟩
          · go_simp
            refine hmk.mono ?_
            rintro e wm ⟨mm, rfl, rfl⟩
            go_wp2_with fail
            refine hK.out _ _ hHeld (fun hHeld => ?_)
            clear hK KK
            try simp only [Act.put, List.setIfInBounds_toArray, List.set_cons_zero, List.set_cons_succ]
            refine wpAnyH_ready (rs := [4]) (by kernel_rfl) (by simp) ?_
            refine AllReadyH.cons (o := ⟨some 73, .load 69 (.tmp 72), 69, "law.go:130", #[⟨3, .data⟩], none⟩) rfl (fun KK hK => ?_) (AllReadyH.nil)
            go_simp
            refine hK.out _ _ hHeld (fun hHeld => ?_)
            clear hK KK
            try simp only [Act.put, List.setIfInBounds_toArray, List.set_cons_zero, List.set_cons_succ]
            refine wpAnyH_ready (rs := [9]) (by kernel_rfl) (by simp) ?_
            refine AllReadyH.cons (o := ⟨some 78, .call ⟨.value (.func 46), #[.tmp 73, .tmp 75, .tmp 77], #[69, 22, 5]⟩, 69, "law.go:130", #[⟨4, .data⟩, ⟨6, .data⟩, ⟨8, .data⟩, ⟨8, .chain⟩], none⟩) rfl (fun KK hK => ?_) (AllReadyH.nil)
            go_simp
            refine (hkp mm).mono ?_
            rintro e wk ⟨bv', rfl, K3⟩
            have HK3 : Hid (Kept3 _ _ _ _ _ _ _) := K3
            obtain ⟨fs, _, hB, hT⟩ := K3
            obtain ⟨ba', bc', hbv'⟩ := tl_slice hB.row
            generalize (es ++ fs).length = E' at hbv'
            clear hB
            subst hbv'
            have nb : ¬ ((Value.slice ba es.length bc).ownBlock = some pb ∨ (Value.slice ao1 n1 cc1).ownBlock = some pb) := fun q => q.elim (fun r => by have h1 : _ = k + 4 := HM10.out.pl.bk.kb pb r; have h2 := HM10.out.pl.lb; omega) (fun r => by have h1 := HP10.out.da.lb pb r; have h2 := HM10.out.pl.lb; omega)
            have nx : ¬ ((Value.slice ba es.length bc).ownBlock = some b1 ∨ (Value.slice ao1 n1 cc1).ownBlock = some b1) := fun q => q.elim (fun r => by have h1 : _ = k + 4 := HM10.out.pl.bk.kb b1 r; have h2 := HP10.out.hx; omega) (fun r => own_typ HP10.out.da.own HP10.out.hb (by decide) r)
            have zk := (hT.block pb (heap_lt HM10.out.pl.box) nb).trans HM10.out.pl.box
            have zx := (hT.block b1 (heap_lt HP10.out.hb) nx).trans HP10.out.hb
            have fk : wk.frozen? ⟨pb, 4, none⟩ = false := by simp [World.frozen?, zk]
            have ck : wk.cell? ⟨pb, 4, none⟩ = some (.slice ba es.length bc) := by simp [World.cell?, zk]
            have kx : wk.cell? ⟨b1, 1, none⟩ = some (.slice ao1 n1 cc1) := by simp [World.cell?, zx]
            have kx2 : ∀ u, (wk.setCell ⟨pb, 4, none⟩ u).cell? ⟨b1, 1, none⟩ = some (.slice ao1 n1 cc1) := fun u => (World.cell?_setCell_far wk ⟨pb, 4, none⟩ ⟨b1, 1, none⟩ u HNB.out).trans kx
            have HZk : Hid (wk.heap[pb]? = _) := zk
            clear zk zx hT nb nx
            go_wp2_with fail
            refine hK.out _ _ kx (fun hHeld => ?_)
            clear hK KK
            try simp only [Act.put, List.setIfInBounds_toArray, List.set_cons_zero, List.set_cons_succ]
            refine wpAnyH_take (i := 10) (oi := ⟨some 79, .nilCheck (.tmp 69), 0, "law.go:130", #[⟨0, .data⟩, ⟨0, .phase⟩, ⟨1, .phase⟩, ⟨2, .phase⟩, ⟨3, .phase⟩, ⟨4, .phase⟩, ⟨5, .phase⟩, ⟨6, .phase⟩, ⟨7, .phase⟩, ⟨8, .phase⟩, ⟨9, .phase⟩], none⟩) (v := (.pointer (some ⟨pb, 0, none⟩))) rfl (by kernel_rfl) (by kernel_rfl) (by kernel_rfl) (fun _ _ _ h => h) (Or.inl ⟨by rfl, fun _ _ => by rfl⟩) hHeld ?_
            simp only [Act.put, List.setIfInBounds_toArray, List.set_cons_zero, List.set_cons_succ]
            refine wpAnyH_take (i := 11) (oi := ⟨some 80, .fieldAddr 71 (.tmp 79) 2, 0, "law.go:130", #[⟨10, .data⟩, ⟨0, .phase⟩, ⟨1, .phase⟩, ⟨2, .phase⟩, ⟨3, .phase⟩, ⟨4, .phase⟩, ⟨5, .phase⟩, ⟨6, .phase⟩, ⟨7, .phase⟩, ⟨8, .phase⟩, ⟨9, .phase⟩], none⟩) (v := (.pointer (some ⟨pb, 4, none⟩))) rfl (by kernel_rfl) (by kernel_rfl) (by kernel_rfl) (fun _ _ _ h => h) (Or.inl ⟨by rfl, fun _ _ => by rfl⟩) hHeld ?_
            simp only [Act.put, List.setIfInBounds_toArray, List.set_cons_zero, List.set_cons_succ]
            refine wpAnyH_ready (rs := [12]) (by kernel_rfl) (by simp) ?_
            refine AllReadyH.cons (o := ⟨none, .store 69 (.tmp 80) (.tmp 78), 0, "law.go:130", #[⟨11, .data⟩, ⟨9, .data⟩, ⟨9, .chain⟩, ⟨0, .phase⟩, ⟨1, .phase⟩, ⟨2, .phase⟩, ⟨3, .phase⟩, ⟨4, .phase⟩, ⟨5, .phase⟩, ⟨6, .phase⟩, ⟨7, .phase⟩, ⟨8, .phase⟩, ⟨9, .phase⟩], none⟩) rfl (fun KK hK => ?_) (AllReadyH.nil)
            go_simp
            refine hK.out _ _ (kx2 _) (fun hHeld => ?_)
            clear hK KK
            try simp only [Act.put, List.setIfInBounds_toArray, List.set_cons_zero, List.set_cons_succ]
            refine wpAnyH_done (by kernel_rfl) ?_ _
            obtain ⟨wl, hwl⟩ : ∃ x, wk.setCell ⟨pb, 4, none⟩ (.slice ba' E' bc') = x := ⟨_, rfl⟩
            rw [hwl]
            have ul : Turns (fun i => i = pb) wk wl := by rw [← hwl]; exact Turns.cell wk pb 4 _
            have zl : wl.heap[pb]? = some (.cells (plC a b (.slice ba' E' bc') st false) 71 (0, 0)) := by rw [← hwl]; exact heap_setCell_same _ _ _ _ _ _ HZk.out
            have hB := HM10.out.booked hk HK3.out HP10.out.da.own HP10.out.da.lb HP10.out.us ul zl (by omega)
            have HB : Hid _ := hB
            clear hB ul zl HK3 HM10 hkp hmk HZk fk ck kx kx2 hwl hHeld
            go_wp2_with fail
            go_ret
            obtain ⟨L', es', he', M11, _⟩ := HB.out
            exact ⟨rfl, L', _, _, es', M11.pl, M11.fr, fun q => by omega⟩
      · go_simp
        obtain ⟨Wb2, hWb⟩ : ∃ x, (We1.alloc (.cells #[.int .i64 0, .slice none 0 0] 28)).drew = x := ⟨_, rfl⟩
        obtain ⟨Mb, Bb, Fb⟩ := HM6.out.box hk _ hWb.symm
        rw [hWb]
        have x0 := Mb.pl.cell 3 _ rfl
        have x5 := Mb.at 2 (.int .i64 o.no) rfl
        have HNE : Hid (b1 ≠ We1.heap.size) := Nat.ne_of_lt (heap_lt HP1.out.hb)
        have HP1n := Fb.pk HP1.out
        clear HP1
        have HP1 : Hid (Pk w lab _ _ k _ _ _ _) := HP1n
        clear HP1n
        have HMb : Hid (Md w0 w Wb2 lab _ k pb a b _ st lg _ _ es o w.heap.size) := Mb
        have HBb : Hid (Bx w Wb2 _ k We1.heap.size _) := Bb
        clear Mb Bb Fb hWb HM6
        refine hK.out _ _ ⟨x0, x5⟩ (fun hHeld => ?_)
        clear hK KK
        try simp only [Act.put, List.setIfInBounds_toArray, List.set_cons_zero, List.set_cons_succ]
        refine wpAnyH_ready (rs := [8]) (by kernel_rfl) (by simp) ?_
        refine AllReadyH.cons (o := ⟨some 41, .call ⟨.value (.func 22), #[.tmp 38, .tmp 40], #[52, 3]⟩, 60, "law.go:124", #[⟨5, .data⟩, ⟨7, .data⟩], none⟩) rfl (fun KK hK => ?_) (AllReadyH.nil)
        go_simp
        refine (HMb.out.dtake hk hc).mono ?_
        rintro e Wc2 ⟨ao2, n2, cc2, Lc, rfl, Mc, Dc, Fc, Uc⟩
        clear x0 x5
        have x0 := Mc.pl.cell 3 _ rfl
        have x5 := Mc.at 2 (.int .i64 o.no) rfl
        have HBc : Hid (Bx w Wc2 Lc k _ _) := Fc.bx HBb.out
        have HMc : Hid (Md w0 w Wc2 lab Lc k pb a b _ st lg _ _ es o w.heap.size) := Mc
        have HDc : Hid (Da Wc2 Lc (k + 6) _ (.slice ao2 n2 cc2)) := Dc
        have HUc : Hid (Ours w lab k (.slice ao2 n2 cc2)) := Uc
        have HP1n := Fc.pk HP1.out
        clear HP1
        have HP1 : Hid (Pk w lab _ _ k _ _ _ _) := HP1n
        clear HP1n
        clear Mc Dc Fc Uc HMb HBb
        go_wp2_with fail
        refine hK.out _ _ ⟨x0, x5⟩ (fun hHeld => ?_)
        clear hK KK
        try simp only [Act.put, List.setIfInBounds_toArray, List.set_cons_zero, List.set_cons_succ]
        refine wpAnyH_take (i := 9) (oi := ⟨some 32, .move (.tmp 41), 60, "law.go:124", #[⟨8, .data⟩], none⟩) (v := (.tuple #[.agg #[.int .i64 (takeT (S 1) o.no), (.slice ao2 n2 cc2)], .int .i64 (takeE (S 1) o.no)])) rfl (by kernel_rfl) (by kernel_rfl) (by kernel_rfl) (fun _ _ _ h => h) (Or.inl ⟨by rfl, fun _ _ => by rfl⟩) hHeld ?_
        simp only [Act.put, List.setIfInBounds_toArray, List.set_cons_zero, List.set_cons_succ]
        refine wpAnyH_take (i := 10) (oi := ⟨some 42, .extract (.tmp 32) 0, 28, "law.go:124", #[⟨9, .data⟩], none⟩) (v := (.agg #[.int .i64 (takeT (S 1) o.no), (.slice ao2 n2 cc2)])) rfl (by kernel_rfl) (by kernel_rfl) (by kernel_rfl) (fun _ _ _ h => h) (Or.inl ⟨by rfl, fun _ _ => by rfl⟩) hHeld ?_
        simp only [Act.put, List.setIfInBounds_toArray, List.set_cons_zero, List.set_cons_succ]
        refine wpAnyH_take (i := 11) (oi := ⟨some 43, .extract (.tmp 32) 1, 3, "law.go:124", #[⟨9, .data⟩, ⟨13, .gcOnly .lateStores⟩], none⟩) (v := (.int .i64 (takeE (S 1) o.no))) rfl (by kernel_rfl) (by kernel_rfl) (by kernel_rfl) (fun _ _ _ h => h) (Or.inl ⟨by rfl, fun _ _ => by rfl⟩) hHeld ?_
        simp only [Act.put, List.setIfInBounds_toArray, List.set_cons_zero, List.set_cons_succ]
        refine wpAnyH_ready (rs := [13]) (by kernel_rfl) (by simp) ?_
        refine AllReadyH.cons (o := ⟨none, .store 28 (.tmp 9) (.tmp 42), 0, "law.go:124", #[⟨12, .data⟩, ⟨10, .data⟩, ⟨8, .chain⟩, ⟨0, .phase⟩, ⟨1, .phase⟩, ⟨2, .phase⟩, ⟨3, .phase⟩, ⟨4, .phase⟩, ⟨5, .phase⟩, ⟨6, .phase⟩, ⟨7, .phase⟩, ⟨8, .phase⟩, ⟨9, .phase⟩, ⟨10, .phase⟩, ⟨11, .textOnly .lateStores⟩, ⟨12, .phase⟩], none⟩) rfl (fun KK hK => ?_) (AllReadyH.nil)
        clear x0 x5
        have gb := HBc.out.hb
        have g0 : Wc2.cell? ⟨We1.heap.size, 0, none⟩ = some (.int .i64 0) := by simp [World.cell?, gb]
        have g1 : Wc2.cell? ⟨We1.heap.size, 1, none⟩ = some (.slice none 0 0) := by simp [World.cell?, gb]
        have z0 : Wc2.frozen? ⟨We1.heap.size, 0, none⟩ = false := by simp [World.frozen?, gb]
        have z1 : Wc2.frozen? ⟨We1.heap.size, 1, none⟩ = false := by simp [World.frozen?, gb]
        have hS1 := heap_setCell_same Wc2 (We1.heap.size) 0 _ _ (.int .i64 (takeT (S 1) o.no)) gb
        have g1n : (Wc2.setCell ⟨We1.heap.size, 0, none⟩ (.int .i64 (takeT (S 1) o.no))).cell? ⟨We1.heap.size, 1, none⟩ = some (.slice none 0 0) := by simp [World.cell?, hS1]
        have z1n : (Wc2.setCell ⟨We1.heap.size, 0, none⟩ (.int .i64 (takeT (S 1) o.no))).frozen? ⟨We1.heap.size, 1, none⟩ = false := by simp [World.frozen?, hS1]
        clear hS1
        have Hgb : Hid (Wc2.heap[We1.heap.size]? = some (.cells #[.int .i64 0, .slice none 0 0] 28)) := gb
        clear gb
        go_simp
        obtain ⟨We2, hWe⟩ : ∃ y, (Wc2.setCell ⟨We1.heap.size, 0, none⟩ (.int .i64 (takeT (S 1) o.no))).setCell ⟨We1.heap.size, 1, none⟩ (.slice ao2 n2 cc2) = y := ⟨_, rfl⟩
        rw [hWe]
        have tE : Turns (fun i => i = We1.heap.size) Wc2 We2 := by rw [← hWe]; exact (Turns.cell Wc2 (We1.heap.size) 0 _).trans (Turns.cell _ (We1.heap.size) 1 _) (fun _ _ q => q)
        have hE : We2.heap[We1.heap.size]? = some (.cells #[.int .i64 (takeT (S 1) o.no), (.slice ao2 n2 cc2)] 28) := by rw [← hWe]; exact heap_setCell_same _ _ _ _ _ _ (heap_setCell_same _ _ _ _ _ _ Hgb.out)
        obtain ⟨Me, Pe⟩ := HMc.out.stored hk HDc.out HUc.out HBc.out tE hE
        have HP1n := HP1.out.stays HBc.out HNE.out tE
        clear HP1
        have HP1 : Hid (Pk w lab _ _ k _ _ _ _) := HP1n
        clear HP1n
        clear g0 g1 z0 z1 g1n z1n Hgb tE hE hWe HMc HDc HUc HBc HNE
        have x0 := Me.pl.cell 3 _ rfl
        have x5 := Me.at 2 (.int .i64 o.no) rfl
        have HMe : Hid (Md w0 w We2 lab _ k pb a b _ st lg _ _ es o w.heap.size) := Me
        have HPe : Hid (Pk w lab We2 _ k (We1.heap.size) _ _ (.slice ao2 n2 cc2)) := Pe
        clear Me Pe
        refine hK.out _ _ ⟨x0, x5⟩ (fun hHeld => ?_)
        clear hK KK
        try simp only [Act.put, List.setIfInBounds_toArray, List.set_cons_zero, List.set_cons_succ]
        refine wpAnyH_take (i := 14) (oi := ⟨some 10, .assign (.tmp 43), 3, "law.go:124", #[⟨11, .data⟩, ⟨13, .chain⟩, ⟨0, .phase⟩, ⟨1, .phase⟩, ⟨2, .phase⟩, ⟨3, .phase⟩, ⟨4, .phase⟩, ⟨5, .phase⟩, ⟨6, .phase⟩, ⟨7, .phase⟩, ⟨8, .phase⟩, ⟨9, .phase⟩, ⟨10, .phase⟩, ⟨11, .phase⟩, ⟨12, .phase⟩, ⟨13, .phase⟩], none⟩) (v := (.int .i64 (takeE (S 1) o.no))) rfl (by kernel_rfl) (by kernel_rfl) (by kernel_rfl) (fun _ _ _ h => h) (Or.inl ⟨by rfl, fun _ _ => by rfl⟩) hHeld ?_
        simp only [Act.put, List.setIfInBounds_toArray, List.set_cons_zero, List.set_cons_succ]
        refine wpAnyH_done (by kernel_rfl) ?_ _
        clear x0 x5
        have HP2 := HPe
        clear HPe
        generalize We1.heap.size = b2 at HP2 ⊢
        have k1 := HP1.out.c1
        have m1 := HP2.out.c1
        have hs := same_any ao1 ao2 n1 n2 cc1 cc2 (takeD (S 1) o.no) (takeD (S 1) o.no) We2 (by have := HP1.out.da.len; have := HP1.out.da.len_eq; omega) (HP1.out.da.lies HP1.out.da.len_eq) (HP2.out.da.lies HP2.out.da.len_eq)
        go_wp2_with fail
        refine hs.mono ?_
        rintro e w9 ⟨rfl, m9, hw9⟩
        have b9 : Below We2.heap.size We2 w9 := by rw [hw9]; exact below_drewN We2 m9
        have M9 := HMe.out.below hk b9
        have P9 := (Fr.below (k := k) b9 (k + 6)).pk HP1.out
        have Q9 := (Fr.below (k := k) b9 (k + 6)).pk HP2.out
        clear k1 m1 hs hw9 HP1 HP2 HMe
        have k0 := P9.c0
        have k1 := P9.c1
        have m0 := Q9.c0
        have p6 := M9.pl.cell 6 _ rfl
        have p4 := M9.pl.cell 4 _ rfl
        have HM9 : Hid (Md w0 w w9 lab _ k pb a b (.slice ba es.length bc) st lg _ _ es o w.heap.size) := M9
        have HP9 : Hid (Pk w lab w9 _ k b1 _ _ _) := P9
        have hdd : decide (takeD (S 1) o.no = takeD (S 1) o.no) = true := decide_eq_true rfl
        have hbb : (takeE (S 1) o.no == takeE (S 1) o.no) = true := by simp
        have htt : (takeT (S 1) o.no == takeT (S 1) o.no) = true := by simp
        clear M9 P9 Q9 b9
        cases lg with
        | true =>
          go_wp2_with (first | (go_at_call 13; refine (num_any _ _).mono ?_; rintro e w8 ⟨rfl, rfl⟩) | fail)
          go_ret
          exact ⟨rfl, _, _, _, _, HM9.out.pl, HM9.out.fr, fun q => by omega⟩
        | false =>
          go_wp2_with (first | (go_at_call 13; refine (num_any _ _).mono ?_; rintro e w8 ⟨rfl, rfl⟩) | fail)
          have M10 := HM9.out.below hk (below_drewN w8 1)
          have P10 := (Fr.below (k := k) (below_drewN w8 1) (k + 6)).pk HP9.out
          have hnb : pb ≠ b1 := fun q => by have h1 := M10.pl.lb; have h2 := P10.hx; rw [← q] at h2; omega
          have HNB : Hid (pb ≠ b1) := hnb
          have hmk := mark_any M10.pl 1
          have hln : n1 ≤ 4096 := by have h1 := P10.da.len_eq; have h2 := HSh.out (by first | rfl | trivial); omega
          have hkp := fun m => keep_any M10.pl.bk (.slice ao1 n1 cc1) _ _ P10.da.own (fun i q r => by have h1 := P10.da.lb i q; have h2 : _ = k + 4 := r; omega) (by have h1 := P10.da.len_eq; omega) (by omega) m
          have HM10 : Hid (Md w0 w (w8.drewN 1) lab _ k pb a b (.slice ba es.length bc) st false _ _ es o w.heap.size) := M10
          have HP10 : Hid (Pk w lab (w8.drewN 1) _ k b1 _ _ (.slice ao1 n1 cc1)) := P10
          clear M10 P10 hnb HM9 HP9 k0 m0 p6
          refine wp_region_held_drew (S := fun w' => w'.cell? ⟨b1, 1, none⟩ = some (.slice ao1 n1 cc1)) (by kernel_rfl) k1 (fun hHeld => ?_)
          refine wpAnyH_take (i := 0) (oi := ⟨some 69, .move (.tmp 0), 66, "law.go:130", #[], none⟩) (v := (.pointer (some ⟨pb, 0, none⟩))) rfl (by kernel_rfl) (by kernel_rfl) (by kernel_rfl) (fun _ _ _ h => h) (Or.inl ⟨by rfl, fun _ _ => by rfl⟩) hHeld ?_
          simp only [Act.put, List.setIfInBounds_toArray, List.set_cons_zero, List.set_cons_succ]
          refine wpAnyH_take (i := 1) (oi := ⟨some 70, .move (.tmp 0), 66, "law.go:130", #[], none⟩) (v := (.pointer (some ⟨pb, 0, none⟩))) rfl (by kernel_rfl) (by kernel_rfl) (by kernel_rfl) (fun _ _ _ h => h) (Or.inl ⟨by rfl, fun _ _ => by rfl⟩) hHeld ?_
          simp only [Act.put, List.setIfInBounds_toArray, List.set_cons_zero, List.set_cons_succ]
          refine wpAnyH_take (i := 2) (oi := ⟨some 71, .nilCheck (.tmp 70), 0, "law.go:130", #[⟨1, .data⟩], none⟩) (v := (.pointer (some ⟨pb, 0, none⟩))) rfl (by kernel_rfl) (by kernel_rfl) (by kernel_rfl) (fun _ _ _ h => h) (Or.inl ⟨by rfl, fun _ _ => by rfl⟩) hHeld ?_
          simp only [Act.put, List.setIfInBounds_toArray, List.set_cons_zero, List.set_cons_succ]
          refine wpAnyH_take (i := 3) (oi := ⟨some 72, .fieldAddr 71 (.tmp 71) 2, 0, "law.go:130", #[⟨2, .data⟩], none⟩) (v := (.pointer (some ⟨pb, 4, none⟩))) rfl (by kernel_rfl) (by kernel_rfl) (by kernel_rfl) (fun _ _ _ h => h) (Or.inl ⟨by rfl, fun _ _ => by rfl⟩) hHeld ?_
          simp only [Act.put, List.setIfInBounds_toArray, List.set_cons_zero, List.set_cons_succ]
          refine wpAnyH_take (i := 5) (oi := ⟨some 74, .fieldAddr 28 (.tmp 7) 1, 0, "law.go:130", #[], none⟩) (v := (.pointer (some ⟨b1, 1, none⟩))) rfl (by kernel_rfl) (by kernel_rfl) (by kernel_rfl) (fun _ _ _ h => h) (Or.inl ⟨by rfl, fun _ _ => by rfl⟩) hHeld ?_
          simp only [Act.put, List.setIfInBounds_toArray, List.set_cons_zero, List.set_cons_succ]
          refine wpAnyH_take (i := 6) (oi := ⟨some 75, .load 22 (.tmp 74), 22, "law.go:130", #[⟨5, .data⟩], none⟩) (v := (.slice ao1 n1 cc1)) rfl (by kernel_rfl) (by kernel_rfl) (by kernel_rfl) (fun _ _ _ h => h) (Or.inl ⟨by rfl, fun w' h' => by unfold execOp; go_simp⟩) hHeld ?_
          simp only [Act.put, List.setIfInBounds_toArray, List.set_cons_zero, List.set_cons_succ]
          refine wpAnyH_take (i := 7) (oi := ⟨some 76, .move (.tmp 0), 66, "law.go:130", #[], none⟩) (v := (.pointer (some ⟨pb, 0, none⟩))) rfl (by kernel_rfl) (by kernel_rfl) (by kernel_rfl) (fun _ _ _ h => h) (Or.inl ⟨by rfl, fun _ _ => by rfl⟩) hHeld ?_
          simp only [Act.put, List.setIfInBounds_toArray, List.set_cons_zero, List.set_cons_succ]
          refine wpAnyH_ready (rs := [4, 8]) (by kernel_rfl) (by simp) ?_
          refine AllReadyH.cons (o := ⟨some 73, .load 69 (.tmp 72), 69, "law.go:130", #[⟨3, .data⟩], none⟩) rfl (fun KK hK => ?_) (AllReadyH.cons (o := ⟨some 77, .call ⟨.value (.func 47), #[.tmp 76, .const (.int .i64 1)], #[66, 3]⟩, 5, "law.go:130", #[⟨7, .data⟩], none⟩) rfl (fun KK hK => ?_) (AllReadyH.nil))
          · go_simp
            refine hK.out _ _ hHeld (fun hHeld => ?_)
            clear hK KK
            try simp only [Act.put, List.setIfInBounds_toArray, List.set_cons_zero, List.set_cons_succ]
            refine wpAnyH_ready (rs := [8]) (by kernel_rfl) (by simp) ?_
            refine AllReadyH.cons (o := ⟨some 77, .call ⟨.value (.func 47), #[.tmp 76, .const (.int .i64 1)], #[66, 3]⟩, 5, "law.go:130", #[⟨7, .data⟩], none⟩) rfl (fun KK hK => ?_) (AllReadyH.nil)
            go_simp
            refine hmk.mono ?_
            rintro e wm ⟨mm, rfl, rfl⟩
            go_wp2_with fail
            refine hK.out _ _ hHeld (fun hHeld => ?_)
            clear hK KK
            try simp only [Act.put, List.setIfInBounds_toArray, List.set_cons_zero, List.set_cons_succ]
            refine wpAnyH_ready (rs := [9]) (by kernel_rfl) (by simp) ?_
            refine AllReadyH.cons (o := ⟨some 78, .call ⟨.value (.func 46), #[.tmp 73, .tmp 75, .tmp 77], #[69, 22, 5]⟩, 69, "law.go:130", #[⟨4, .data⟩, ⟨6, .data⟩, ⟨8, .data⟩, ⟨8, .chain⟩], none⟩) rfl (fun KK hK => ?_) (AllReadyH.nil)
            go_simp
            refine (hkp mm).mono ?_
            rintro e wk ⟨bv', rfl, K3⟩
            have HK3 : Hid (Kept3 _ _ _ _ _ _ _) := K3
            obtain ⟨fs, _, hB, hT⟩ := K3
            obtain ⟨ba', bc', hbv'⟩ := tl_slice hB.row
            generalize (es ++ fs).length = E' at hbv'
            clear hB
            subst hbv'
            have nb : ¬ ((Value.slice ba es.length bc).ownBlock = some pb ∨ (Value.slice ao1 n1 cc1).ownBlock = some pb) := fun q => q.elim (fun r => by have h1 : _ = k + 4 := HM10.out.pl.bk.kb pb r; have h2 := HM10.out.pl.lb; omega) (fun r => by have h1 := HP10.out.da.lb pb r; have h2 := HM10.out.pl.lb; omega)
            have nx : ¬ ((Value.slice ba es.length bc).ownBlock = some b1 ∨ (Value.slice ao1 n1 cc1).ownBlock = some b1) := fun q => q.elim (fun r => by have h1 : _ = k + 4 := HM10.out.pl.bk.kb b1 r; have h2 := HP10.out.hx; omega) (fun r => own_typ HP10.out.da.own HP10.out.hb (by decide) r)
            have zk := (hT.block pb (heap_lt HM10.out.pl.box) nb).trans HM10.out.pl.box
            have zx := (hT.block b1 (heap_lt HP10.out.hb) nx).trans HP10.out.hb
            have fk : wk.frozen? ⟨pb, 4, none⟩ = false := by simp [World.frozen?, zk]
            have ck : wk.cell? ⟨pb, 4, none⟩ = some (.slice ba es.length bc) := by simp [World.cell?, zk]
            have kx : wk.cell? ⟨b1, 1, none⟩ = some (.slice ao1 n1 cc1) := by simp [World.cell?, zx]
            have kx2 : ∀ u, (wk.setCell ⟨pb, 4, none⟩ u).cell? ⟨b1, 1, none⟩ = some (.slice ao1 n1 cc1) := fun u => (World.cell?_setCell_far wk ⟨pb, 4, none⟩ ⟨b1, 1, none⟩ u HNB.out).trans kx
            have HZk : Hid (wk.heap[pb]? = _) := zk
            clear zk zx hT nb nx
            go_wp2_with fail
            refine hK.out _ _ kx (fun hHeld => ?_)
            clear hK KK
            try simp only [Act.put, List.setIfInBounds_toArray, List.set_cons_zero, List.set_cons_succ]
            refine wpAnyH_take (i := 10) (oi := ⟨some 79, .nilCheck (.tmp 69), 0, "law.go:130", #[⟨0, .data⟩, ⟨0, .phase⟩, ⟨1, .phase⟩, ⟨2, .phase⟩, ⟨3, .phase⟩, ⟨4, .phase⟩, ⟨5, .phase⟩, ⟨6, .phase⟩, ⟨7, .phase⟩, ⟨8, .phase⟩, ⟨9, .phase⟩], none⟩) (v := (.pointer (some ⟨pb, 0, none⟩))) rfl (by kernel_rfl) (by kernel_rfl) (by kernel_rfl) (fun _ _ _ h => h) (Or.inl ⟨by rfl, fun _ _ => by rfl⟩) hHeld ?_
            simp only [Act.put, List.setIfInBounds_toArray, List.set_cons_zero, List.set_cons_succ]
            refine wpAnyH_take (i := 11) (oi := ⟨some 80, .fieldAddr 71 (.tmp 79) 2, 0, "law.go:130", #[⟨10, .data⟩, ⟨0, .phase⟩, ⟨1, .phase⟩, ⟨2, .phase⟩, ⟨3, .phase⟩, ⟨4, .phase⟩, ⟨5, .phase⟩, ⟨6, .phase⟩, ⟨7, .phase⟩, ⟨8, .phase⟩, ⟨9, .phase⟩], none⟩) (v := (.pointer (some ⟨pb, 4, none⟩))) rfl (by kernel_rfl) (by kernel_rfl) (by kernel_rfl) (fun _ _ _ h => h) (Or.inl ⟨by rfl, fun _ _ => by rfl⟩) hHeld ?_
            simp only [Act.put, List.setIfInBounds_toArray, List.set_cons_zero, List.set_cons_succ]
            refine wpAnyH_ready (rs := [12]) (by kernel_rfl) (by simp) ?_
            refine AllReadyH.cons (o := ⟨none, .store 69 (.tmp 80) (.tmp 78), 0, "law.go:130", #[⟨11, .data⟩, ⟨9, .data⟩, ⟨9, .chain⟩, ⟨0, .phase⟩, ⟨1, .phase⟩, ⟨2, .phase⟩, ⟨3, .phase⟩, ⟨4, .phase⟩, ⟨5, .phase⟩, ⟨6, .phase⟩, ⟨7, .phase⟩, ⟨8, .phase⟩, ⟨9, .phase⟩], none⟩) rfl (fun KK hK => ?_) (AllReadyH.nil)
            go_simp
            refine hK.out _ _ (kx2 _) (fun hHeld => ?_)
            clear hK KK
            try simp only [Act.put, List.setIfInBounds_toArray, List.set_cons_zero, List.set_cons_succ]
            refine wpAnyH_done (by kernel_rfl) ?_ _
            obtain ⟨wl, hwl⟩ : ∃ x, wk.setCell ⟨pb, 4, none⟩ (.slice ba' E' bc') = x := ⟨_, rfl⟩
            rw [hwl]
            have ul : Turns (fun i => i = pb) wk wl := by rw [← hwl]; exact Turns.cell wk pb 4 _
            have zl : wl.heap[pb]? = some (.cells (plC a b (.slice ba' E' bc') st false) 71 (0, 0)) := by rw [← hwl]; exact heap_setCell_same _ _ _ _ _ _ HZk.out
            have hB := HM10.out.booked hk HK3.out HP10.out.da.own HP10.out.da.lb HP10.out.us ul zl (by omega)
            have HB : Hid _ := hB
            clear hB ul zl HK3 HM10 hkp hmk HZk fk ck kx kx2 hwl hHeld
            go_wp2_with fail
            go_ret
            obtain ⟨L', es', he', M11, _⟩ := HB.out
            exact ⟨rfl, L', _, _, es', M11.pl, M11.fr, fun q => by omega⟩
          · go_simp
            refine hmk.mono ?_
            rintro e wm ⟨mm, rfl, rfl⟩
            go_wp2_with fail
            refine hK.out _ _ hHeld (fun hHeld => ?_)
            clear hK KK
            try simp only [Act.put, List.setIfInBounds_toArray, List.set_cons_zero, List.set_cons_succ]
            refine wpAnyH_ready (rs := [4]) (by kernel_rfl) (by simp) ?_
            refine AllReadyH.cons (o := ⟨some 73, .load 69 (.tmp 72), 69, "law.go:130", #[⟨3, .data⟩], none⟩) rfl (fun KK hK => ?_) (AllReadyH.nil)
            go_simp
            refine hK.out _ _ hHeld (fun hHeld => ?_)
            clear hK KK
            try simp only [Act.put, List.setIfInBounds_toArray, List.set_cons_zero, List.set_cons_succ]
            refine wpAnyH_ready (rs := [9]) (by kernel_rfl) (by simp) ?_
            refine AllReadyH.cons (o := ⟨some 78, .call ⟨.value (.func 46), #[.tmp 73, .tmp 75, .tmp 77], #[69, 22, 5]⟩, 69, "law.go:130", #[⟨4, .data⟩, ⟨6, .data⟩, ⟨8, .data⟩, ⟨8, .chain⟩], none⟩) rfl (fun KK hK => ?_) (AllReadyH.nil)
            go_simp
            refine (hkp mm).mono ?_
            rintro e wk ⟨bv', rfl, K3⟩
            have HK3 : Hid (Kept3 _ _ _ _ _ _ _) := K3
            obtain ⟨fs, _, hB, hT⟩ := K3
            obtain ⟨ba', bc', hbv'⟩ := tl_slice hB.row
            generalize (es ++ fs).length = E' at hbv'
            clear hB
            subst hbv'
            have nb : ¬ ((Value.slice ba es.length bc).ownBlock = some pb ∨ (Value.slice ao1 n1 cc1).ownBlock = some pb) := fun q => q.elim (fun r => by have h1 : _ = k + 4 := HM10.out.pl.bk.kb pb r; have h2 := HM10.out.pl.lb; omega) (fun r => by have h1 := HP10.out.da.lb pb r; have h2 := HM10.out.pl.lb; omega)
            have nx : ¬ ((Value.slice ba es.length bc).ownBlock = some b1 ∨ (Value.slice ao1 n1 cc1).ownBlock = some b1) := fun q => q.elim (fun r => by have h1 : _ = k + 4 := HM10.out.pl.bk.kb b1 r; have h2 := HP10.out.hx; omega) (fun r => own_typ HP10.out.da.own HP10.out.hb (by decide) r)
            have zk := (hT.block pb (heap_lt HM10.out.pl.box) nb).trans HM10.out.pl.box
            have zx := (hT.block b1 (heap_lt HP10.out.hb) nx).trans HP10.out.hb
            have fk : wk.frozen? ⟨pb, 4, none⟩ = false := by simp [World.frozen?, zk]
            have ck : wk.cell? ⟨pb, 4, none⟩ = some (.slice ba es.length bc) := by simp [World.cell?, zk]
            have kx : wk.cell? ⟨b1, 1, none⟩ = some (.slice ao1 n1 cc1) := by simp [World.cell?, zx]
            have kx2 : ∀ u, (wk.setCell ⟨pb, 4, none⟩ u).cell? ⟨b1, 1, none⟩ = some (.slice ao1 n1 cc1) := fun u => (World.cell?_setCell_far wk ⟨pb, 4, none⟩ ⟨b1, 1, none⟩ u HNB.out).trans kx
            have HZk : Hid (wk.heap[pb]? = _) := zk
            clear zk zx hT nb nx
            go_wp2_with fail
            refine hK.out _ _ kx (fun hHeld => ?_)
            clear hK KK
            try simp only [Act.put, List.setIfInBounds_toArray, List.set_cons_zero, List.set_cons_succ]
            refine wpAnyH_take (i := 10) (oi := ⟨some 79, .nilCheck (.tmp 69), 0, "law.go:130", #[⟨0, .data⟩, ⟨0, .phase⟩, ⟨1, .phase⟩, ⟨2, .phase⟩, ⟨3, .phase⟩, ⟨4, .phase⟩, ⟨5, .phase⟩, ⟨6, .phase⟩, ⟨7, .phase⟩, ⟨8, .phase⟩, ⟨9, .phase⟩], none⟩) (v := (.pointer (some ⟨pb, 0, none⟩))) rfl (by kernel_rfl) (by kernel_rfl) (by kernel_rfl) (fun _ _ _ h => h) (Or.inl ⟨by rfl, fun _ _ => by rfl⟩) hHeld ?_
            simp only [Act.put, List.setIfInBounds_toArray, List.set_cons_zero, List.set_cons_succ]
            refine wpAnyH_take (i := 11) (oi := ⟨some 80, .fieldAddr 71 (.tmp 79) 2, 0, "law.go:130", #[⟨10, .data⟩, ⟨0, .phase⟩, ⟨1, .phase⟩, ⟨2, .phase⟩, ⟨3, .phase⟩, ⟨4, .phase⟩, ⟨5, .phase⟩, ⟨6, .phase⟩, ⟨7, .phase⟩, ⟨8, .phase⟩, ⟨9, .phase⟩], none⟩) (v := (.pointer (some ⟨pb, 4, none⟩))) rfl (by kernel_rfl) (by kernel_rfl) (by kernel_rfl) (fun _ _ _ h => h) (Or.inl ⟨by rfl, fun _ _ => by rfl⟩) hHeld ?_
            simp only [Act.put, List.setIfInBounds_toArray, List.set_cons_zero, List.set_cons_succ]
            refine wpAnyH_ready (rs := [12]) (by kernel_rfl) (by simp) ?_
            refine AllReadyH.cons (o := ⟨none, .store 69 (.tmp 80) (.tmp 78), 0, "law.go:130", #[⟨11, .data⟩, ⟨9, .data⟩, ⟨9, .chain⟩, ⟨0, .phase⟩, ⟨1, .phase⟩, ⟨2, .phase⟩, ⟨3, .phase⟩, ⟨4, .phase⟩, ⟨5, .phase⟩, ⟨6, .phase⟩, ⟨7, .phase⟩, ⟨8, .phase⟩, ⟨9, .phase⟩], none⟩) rfl (fun KK hK => ?_) (AllReadyH.nil)
            go_simp
            refine hK.out _ _ (kx2 _) (fun hHeld => ?_)
            clear hK KK
            try simp only [Act.put, List.setIfInBounds_toArray, List.set_cons_zero, List.set_cons_succ]
            refine wpAnyH_done (by kernel_rfl) ?_ _
            obtain ⟨wl, hwl⟩ : ∃ x, wk.setCell ⟨pb, 4, none⟩ (.slice ba' E' bc') = x := ⟨_, rfl⟩
            rw [hwl]
            have ul : Turns (fun i => i = pb) wk wl := by rw [← hwl]; exact Turns.cell wk pb 4 _
            have zl : wl.heap[pb]? = some (.cells (plC a b (.slice ba' E' bc') st false) 71 (0, 0)) := by rw [← hwl]; exact heap_setCell_same _ _ _ _ _ _ HZk.out
            have hB := HM10.out.booked hk HK3.out HP10.out.da.own HP10.out.da.lb HP10.out.us ul zl (by omega)
            have HB : Hid _ := hB
            clear hB ul zl HK3 HM10 hkp hmk HZk fk ck kx kx2 hwl hHeld
            go_wp2_with fail
            go_ret
            obtain ⟨L', es', he', M11, _⟩ := HB.out
            exact ⟨rfl, L', _, _, es', M11.pl, M11.fr, fun q => by omega⟩
end Go.Proofs.Ytpbanjgjljdepaa
