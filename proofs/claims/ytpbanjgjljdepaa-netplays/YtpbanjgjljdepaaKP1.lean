/- NetPlays, walked. (Written by mkKP1.py.) -/
import Derived.Test.YtpbanjgjljdepaaKP0
namespace Go.Proofs.Ytpbanjgjljdepaa
open Go.RowKit Go.Maps
set_option maxRecDepth 100000
set_option maxHeartbeats 60000000 in
theorem netPlays_any (ao : Option Addr) (n c : Nat) (os : List Op) (w : World) (hL : Op.Lie w ao n os) (hn : n ≤ 140737488355328) :
    Calls Try.prog 8 #[.slice ao n c] w fun e w' => e = .returned (.bool true) ∧ Below w.heap.size w w' := by
  have hni : (n : Int) ≤ 140737488355328 := by omega
  go_enter Try.func8, Try.ntmps8
  go_wp2_with fail
  refine (known_any w).mono ?_
  rintro e w1 ⟨rfl, b1⟩
  have K1 := (Wk.refl w).below b1 7
  obtain ⟨W2, hW2⟩ : ∃ W, w1.alloc (.cells #[.pointer none, .pointer none, .pointer none, .pointer none, .slice none 0 0, .int .i64 0, .bool false] 71) = W := ⟨_, rfl⟩
  have b2 : Below w1.heap.size w1 W2 := by rw [← hW2]; exact (Below.refl _ w1).alloc (Nat.le_refl _) _
  have K2 := K1.below b2 6
  have H2 : Hf W2 (rl (rl (fun _ => 0) w 7) w1 6) 1 w1.heap.size 0 0 (fun _ => 0) (fun _ => 0) := ⟨by rw [← hW2]; exact heap_alloc_new w1 _, (fun _ h => by omega), (fun _ h => by omega), rl_new (Nat.le_refl _)⟩
  obtain ⟨pbx, hpb⟩ : ∃ x, w1.heap.size = x := ⟨_, rfl⟩
  obtain ⟨L2, hL2⟩ : ∃ L, rl (rl (fun _ => 0) w 7) w1 6 = L := ⟨_, rfl⟩
  rw [hL2] at K2 H2
  rw [hpb] at H2
  have HK2 : Hid (Wk w L2 W2) := K2
  have HH2 : Hid (Hf W2 L2 1 pbx 0 0 (fun _ => 0) (fun _ => 0)) := H2
  clear K1 K2 H2 b1 b2 hL2
  go_wp2_with fail
  go_loopw [5] (fun i wr => ∃ (q : Nat), q ≤ 2 ∧ i = .int .i64 q ∧ ∃ (lab a b : Nat → Nat), Wk w lab wr ∧ Hf wr lab 1 pbx q q a b) (fun i _ => 2 - (intOf i).toNat)
  case atStart => exact ⟨0, by decide, rfl, _, _, _, HK2.out, HH2.out⟩
  case round =>
    obtain ⟨q, hq, rfl, lab, a, b, hT, hH⟩ := hrel
    clear HK2 HH2
    have hq3 : q = 0 ∨ q = 1 ∨ q = 2 := by omega
    rcases hq3 with rfl | rfl | rfl
    · have G1 := hH.below (below_drewN wr 1) 7
      have T1 := hT.below (below_drewN wr 1) 7
      obtain ⟨L1, hL1⟩ : ∃ L, rl lab wr 7 = L := ⟨_, rfl⟩
      rw [hL1] at G1 T1
      have hS := new_any (wr.drewN 1) L1 (1 + 0)
      have HH : Hid (Hf (wr.drewN 1) L1 1 pbx 0 0 a b) := G1
      have HT : Hid (Wk w L1 (wr.drewN 1)) := T1
      clear G1 T1 hL1 hH hT
      go_wp2_with fail
      refine wp_region_held_drew (S := fun _ => True) (by kernel_rfl) trivial (fun hHeld => ?_)
      clear hHeld
      refine wpAnyH_take (i := 0) (oi := ⟨some 18, .move (.tmp 4), 66, "law.go:196", #[], none⟩) (v := (.pointer (some ⟨pbx, 0, none⟩))) rfl (by kernel_rfl) (by kernel_rfl) (by kernel_rfl) (fun _ _ _ h => h) (Or.inl ⟨by rfl, fun _ _ => by rfl⟩) trivial ?_
      simp only [Act.put, List.setIfInBounds_toArray, List.set_cons_zero, List.set_cons_succ]
      refine wpAnyH_take (i := 1) (oi := ⟨some 19, .move (.tmp 5), 3, "law.go:196", #[], none⟩) (v := (.int .i64 0)) rfl (by kernel_rfl) (by kernel_rfl) (by kernel_rfl) (fun _ _ _ h => h) (Or.inl ⟨by rfl, fun _ _ => by rfl⟩) trivial ?_
      simp only [Act.put, List.setIfInBounds_toArray, List.set_cons_zero, List.set_cons_succ]
      refine wpAnyH_take (i := 3) (oi := ⟨some 21, .nilCheck (.tmp 18), 0, "law.go:196", #[⟨0, .data⟩], none⟩) (v := (.pointer (some ⟨pbx, 0, none⟩))) rfl (by kernel_rfl) (by kernel_rfl) (by kernel_rfl) (fun _ _ _ h => h) (Or.inl ⟨by rfl, fun _ _ => by rfl⟩) trivial ?_
      simp only [Act.put, List.setIfInBounds_toArray, List.set_cons_zero, List.set_cons_succ]
      refine wpAnyH_take (i := 4) (oi := ⟨some 22, .fieldAddr 71 (.tmp 21) 0, 0, "law.go:196", #[⟨3, .data⟩], none⟩) (v := (.pointer (some ⟨pbx, 0, none⟩))) rfl (by kernel_rfl) (by kernel_rfl) (by kernel_rfl) (fun _ _ _ h => h) (Or.inl ⟨by rfl, fun _ _ => by rfl⟩) trivial ?_
      simp only [Act.put, List.setIfInBounds_toArray, List.set_cons_zero, List.set_cons_succ]
      refine wpAnyH_ready (rs := [2]) (by kernel_rfl) (by simp) ?_
      refine AllReadyH.cons (o := ⟨some 20, .call ⟨.value (.func 10), #[], #[]⟩, 24, "law.go:196", #[], none⟩) rfl (fun KK hK => ?_) (AllReadyH.nil)
      go_simp
      refine hS.mono ?_
      rintro e w3 ⟨xb, rfl, hN, b3⟩
      have zk := (b3.block pbx (heap_lt HH.out.box)).trans HH.out.box
      have fk : w3.frozen? ⟨pbx, 0, none⟩ = false := by simp [World.frozen?, zk]
      have ck : w3.cell? ⟨pbx, 0, none⟩ = some (.pointer none) := by simp [World.cell?, zk, pA]
      have HN : Hid (_ ∧ Below _ _ w3) := ⟨hN, b3⟩
      clear zk hN b3 hS
      go_wp2_with fail
      refine hK.out _ _ trivial (fun hHeld => ?_)
      clear hK KK hHeld
      try simp only [Act.put, List.setIfInBounds_toArray, List.set_cons_zero, List.set_cons_succ]
      refine wpAnyH_take (i := 5) (oi := ⟨some 23, .indexAddr 67 (.tmp 22) (.tmp 19), 0, "law.go:196", #[⟨4, .data⟩, ⟨1, .data⟩, ⟨0, .phase⟩, ⟨1, .phase⟩, ⟨2, .phase⟩], none⟩) (v := (.pointer (some ⟨pbx, 0, none⟩))) rfl (by kernel_rfl) (by kernel_rfl) (by kernel_rfl) (fun _ _ _ h => h) (Or.inl ⟨by rfl, fun w' h' => by unfold execOp; go_simp⟩) trivial ?_
      simp only [Act.put, List.setIfInBounds_toArray, List.set_cons_zero, List.set_cons_succ]
      refine wpAnyH_ready (rs := [6]) (by kernel_rfl) (by simp) ?_
      refine AllReadyH.cons (o := ⟨none, .store 24 (.tmp 23) (.tmp 20), 0, "law.go:196", #[⟨5, .data⟩, ⟨2, .data⟩, ⟨2, .chain⟩, ⟨0, .phase⟩, ⟨1, .phase⟩, ⟨2, .phase⟩], none⟩) rfl (fun KK hK => ?_) (AllReadyH.nil)
      go_simp
      refine hK.out _ _ trivial (fun hHeld => ?_)
      clear hK KK hHeld
      try simp only [Act.put, List.setIfInBounds_toArray, List.set_cons_zero, List.set_cons_succ]
      refine wpAnyH_done (by kernel_rfl) ?_ _
      obtain ⟨w4, hw4⟩ : ∃ x, w3.setCell ⟨pbx, 0, none⟩ (.pointer (some ⟨xb, 0, none⟩)) = x := ⟨_, rfl⟩
      rw [hw4]
      obtain ⟨G4, F4⟩ := HH.out.stepA (by decide) (by decide) HN.out.2 HN.out.1 hw4.symm
      have T4 := F4.wk HT.out (by decide)
      have G5 := G4.below (below_drewN w4 1) 7
      have T5 := T4.below (below_drewN w4 1) 7
      obtain ⟨L5, hL5⟩ : ∃ L, rl (rl L1 (wr.drewN 1) (1 + 0)) w4 7 = L := ⟨_, rfl⟩
      rw [hL5] at G5 T5
      have hS := dnew_any (w4.drewN 1) L5 (1 + 2 + 0)
      clear HH HT HN
      have HH : Hid (Hf (w4.drewN 1) L5 1 pbx 1 0 (upd2 a 0 xb) b) := G5
      have HT : Hid (Wk w L5 (w4.drewN 1)) := T5
      clear G5 T5 G4 F4 T4 hL5 fk ck hw4
      go_wp2_with fail
      refine wp_region_held_drew (S := fun _ => True) (by kernel_rfl) trivial (fun hHeld => ?_)
      clear hHeld
      refine wpAnyH_take (i := 0) (oi := ⟨some 24, .move (.tmp 4), 66, "law.go:197", #[], none⟩) (v := (.pointer (some ⟨pbx, 0, none⟩))) rfl (by kernel_rfl) (by kernel_rfl) (by kernel_rfl) (fun _ _ _ h => h) (Or.inl ⟨by rfl, fun _ _ => by rfl⟩) trivial ?_
      simp only [Act.put, List.setIfInBounds_toArray, List.set_cons_zero, List.set_cons_succ]
      refine wpAnyH_take (i := 1) (oi := ⟨some 25, .move (.tmp 5), 3, "law.go:197", #[], none⟩) (v := (.int .i64 0)) rfl (by kernel_rfl) (by kernel_rfl) (by kernel_rfl) (fun _ _ _ h => h) (Or.inl ⟨by rfl, fun _ _ => by rfl⟩) trivial ?_
      simp only [Act.put, List.setIfInBounds_toArray, List.set_cons_zero, List.set_cons_succ]
      refine wpAnyH_take (i := 3) (oi := ⟨some 27, .nilCheck (.tmp 24), 0, "law.go:197", #[⟨0, .data⟩], none⟩) (v := (.pointer (some ⟨pbx, 0, none⟩))) rfl (by kernel_rfl) (by kernel_rfl) (by kernel_rfl) (fun _ _ _ h => h) (Or.inl ⟨by rfl, fun _ _ => by rfl⟩) trivial ?_
      simp only [Act.put, List.setIfInBounds_toArray, List.set_cons_zero, List.set_cons_succ]
      refine wpAnyH_take (i := 4) (oi := ⟨some 28, .fieldAddr 71 (.tmp 27) 1, 0, "law.go:197", #[⟨3, .data⟩], none⟩) (v := (.pointer (some ⟨pbx, 2, none⟩))) rfl (by kernel_rfl) (by kernel_rfl) (by kernel_rfl) (fun _ _ _ h => h) (Or.inl ⟨by rfl, fun _ _ => by rfl⟩) trivial ?_
      simp only [Act.put, List.setIfInBounds_toArray, List.set_cons_zero, List.set_cons_succ]
      refine wpAnyH_ready (rs := [2]) (by kernel_rfl) (by simp) ?_
      refine AllReadyH.cons (o := ⟨some 26, .call ⟨.value (.func 21), #[], #[]⟩, 52, "law.go:197", #[], none⟩) rfl (fun KK hK => ?_) (AllReadyH.nil)
      go_simp
      refine hS.mono ?_
      rintro e w3 ⟨xb2, rfl, hN, b3⟩
      have zk := (b3.block pbx (heap_lt HH.out.box)).trans HH.out.box
      have fk : w3.frozen? ⟨pbx, 2, none⟩ = false := by simp [World.frozen?, zk]
      have ck : w3.cell? ⟨pbx, 2, none⟩ = some (.pointer none) := by simp [World.cell?, zk, pA]
      have HN : Hid (_ ∧ Below _ _ w3) := ⟨hN, b3⟩
      clear zk hN b3 hS
      go_wp2_with fail
      refine hK.out _ _ trivial (fun hHeld => ?_)
      clear hK KK hHeld
      try simp only [Act.put, List.setIfInBounds_toArray, List.set_cons_zero, List.set_cons_succ]
      refine wpAnyH_take (i := 5) (oi := ⟨some 29, .indexAddr 68 (.tmp 28) (.tmp 25), 0, "law.go:197", #[⟨4, .data⟩, ⟨1, .data⟩, ⟨0, .phase⟩, ⟨1, .phase⟩, ⟨2, .phase⟩], none⟩) (v := (.pointer (some ⟨pbx, 2, none⟩))) rfl (by kernel_rfl) (by kernel_rfl) (by kernel_rfl) (fun _ _ _ h => h) (Or.inl ⟨by rfl, fun w' h' => by unfold execOp; go_simp⟩) trivial ?_
      simp only [Act.put, List.setIfInBounds_toArray, List.set_cons_zero, List.set_cons_succ]
      refine wpAnyH_ready (rs := [6]) (by kernel_rfl) (by simp) ?_
      refine AllReadyH.cons (o := ⟨none, .store 52 (.tmp 29) (.tmp 26), 0, "law.go:197", #[⟨5, .data⟩, ⟨2, .data⟩, ⟨2, .chain⟩, ⟨0, .phase⟩, ⟨1, .phase⟩, ⟨2, .phase⟩], none⟩) rfl (fun KK hK => ?_) (AllReadyH.nil)
      go_simp
      refine hK.out _ _ trivial (fun hHeld => ?_)
      clear hK KK hHeld
      try simp only [Act.put, List.setIfInBounds_toArray, List.set_cons_zero, List.set_cons_succ]
      refine wpAnyH_done (by kernel_rfl) ?_ _
      obtain ⟨w4, hw4⟩ : ∃ x, w3.setCell ⟨pbx, 2, none⟩ (.pointer (some ⟨xb2, 0, none⟩)) = x := ⟨_, rfl⟩
      rw [hw4]
      obtain ⟨G4, F4⟩ := HH.out.stepB (by decide) (by decide) HN.out.2 HN.out.1 hw4.symm
      have T4 := F4.wk HT.out (by decide)
      have r0 : w4.cell? ⟨pbx, 0, none⟩ = some (.pointer (some ⟨xb, 0, none⟩)) := by
        have := G4.cell 0 _ rfl
        rw [this]
        simp [pA, upd2]
      have HG : Hid (Hf w4 _ 1 pbx 1 1 _ _) := G4
      have HT4 : Hid (Wk w _ w4) := T4
      clear G4 F4 T4 HH HT HN fk ck hw4
      go_wp2_with fail
      go_roundw
      case rel => exact ⟨1, by decide, by go_num, _, _, _, HT4.out, HG.out⟩
      case measure => simp [intOf]
    · have G1 := hH.below (below_drewN wr 1) 7
      have T1 := hT.below (below_drewN wr 1) 7
      obtain ⟨L1, hL1⟩ : ∃ L, rl lab wr 7 = L := ⟨_, rfl⟩
      rw [hL1] at G1 T1
      have hS := new_any (wr.drewN 1) L1 (1 + 1)
      have HH : Hid (Hf (wr.drewN 1) L1 1 pbx 1 1 a b) := G1
      have HT : Hid (Wk w L1 (wr.drewN 1)) := T1
      clear G1 T1 hL1 hH hT
      go_wp2_with fail
      refine wp_region_held_drew (S := fun _ => True) (by kernel_rfl) trivial (fun hHeld => ?_)
      clear hHeld
      refine wpAnyH_take (i := 0) (oi := ⟨some 18, .move (.tmp 4), 66, "law.go:196", #[], none⟩) (v := (.pointer (some ⟨pbx, 0, none⟩))) rfl (by kernel_rfl) (by kernel_rfl) (by kernel_rfl) (fun _ _ _ h => h) (Or.inl ⟨by rfl, fun _ _ => by rfl⟩) trivial ?_
      simp only [Act.put, List.setIfInBounds_toArray, List.set_cons_zero, List.set_cons_succ]
      refine wpAnyH_take (i := 1) (oi := ⟨some 19, .move (.tmp 5), 3, "law.go:196", #[], none⟩) (v := (.int .i64 1)) rfl (by kernel_rfl) (by kernel_rfl) (by kernel_rfl) (fun _ _ _ h => h) (Or.inl ⟨by rfl, fun _ _ => by rfl⟩) trivial ?_
      simp only [Act.put, List.setIfInBounds_toArray, List.set_cons_zero, List.set_cons_succ]
      refine wpAnyH_take (i := 3) (oi := ⟨some 21, .nilCheck (.tmp 18), 0, "law.go:196", #[⟨0, .data⟩], none⟩) (v := (.pointer (some ⟨pbx, 0, none⟩))) rfl (by kernel_rfl) (by kernel_rfl) (by kernel_rfl) (fun _ _ _ h => h) (Or.inl ⟨by rfl, fun _ _ => by rfl⟩) trivial ?_
      simp only [Act.put, List.setIfInBounds_toArray, List.set_cons_zero, List.set_cons_succ]
      refine wpAnyH_take (i := 4) (oi := ⟨some 22, .fieldAddr 71 (.tmp 21) 0, 0, "law.go:196", #[⟨3, .data⟩], none⟩) (v := (.pointer (some ⟨pbx, 0, none⟩))) rfl (by kernel_rfl) (by kernel_rfl) (by kernel_rfl) (fun _ _ _ h => h) (Or.inl ⟨by rfl, fun _ _ => by rfl⟩) trivial ?_
      simp only [Act.put, List.setIfInBounds_toArray, List.set_cons_zero, List.set_cons_succ]
      refine wpAnyH_ready (rs := [2]) (by kernel_rfl) (by simp) ?_
      refine AllReadyH.cons (o := ⟨some 20, .call ⟨.value (.func 10), #[], #[]⟩, 24, "law.go:196", #[], none⟩) rfl (fun KK hK => ?_) (AllReadyH.nil)
      go_simp
      refine hS.mono ?_
      rintro e w3 ⟨xb, rfl, hN, b3⟩
      have zk := (b3.block pbx (heap_lt HH.out.box)).trans HH.out.box
      have fk : w3.frozen? ⟨pbx, 1, none⟩ = false := by simp [World.frozen?, zk]
      have ck : w3.cell? ⟨pbx, 1, none⟩ = some (.pointer none) := by simp [World.cell?, zk, pA]
      have HN : Hid (_ ∧ Below _ _ w3) := ⟨hN, b3⟩
      clear zk hN b3 hS
      go_wp2_with fail
      refine hK.out _ _ trivial (fun hHeld => ?_)
      clear hK KK hHeld
      try simp only [Act.put, List.setIfInBounds_toArray, List.set_cons_zero, List.set_cons_succ]
      refine wpAnyH_take (i := 5) (oi := ⟨some 23, .indexAddr 67 (.tmp 22) (.tmp 19), 0, "law.go:196", #[⟨4, .data⟩, ⟨1, .data⟩, ⟨0, .phase⟩, ⟨1, .phase⟩, ⟨2, .phase⟩], none⟩) (v := (.pointer (some ⟨pbx, 1, none⟩))) rfl (by kernel_rfl) (by kernel_rfl) (by kernel_rfl) (fun _ _ _ h => h) (Or.inl ⟨by rfl, fun w' h' => by unfold execOp; go_simp⟩) trivial ?_
      simp only [Act.put, List.setIfInBounds_toArray, List.set_cons_zero, List.set_cons_succ]
      refine wpAnyH_ready (rs := [6]) (by kernel_rfl) (by simp) ?_
      refine AllReadyH.cons (o := ⟨none, .store 24 (.tmp 23) (.tmp 20), 0, "law.go:196", #[⟨5, .data⟩, ⟨2, .data⟩, ⟨2, .chain⟩, ⟨0, .phase⟩, ⟨1, .phase⟩, ⟨2, .phase⟩], none⟩) rfl (fun KK hK => ?_) (AllReadyH.nil)
      go_simp
      refine hK.out _ _ trivial (fun hHeld => ?_)
      clear hK KK hHeld
      try simp only [Act.put, List.setIfInBounds_toArray, List.set_cons_zero, List.set_cons_succ]
      refine wpAnyH_done (by kernel_rfl) ?_ _
      obtain ⟨w4, hw4⟩ : ∃ x, w3.setCell ⟨pbx, 1, none⟩ (.pointer (some ⟨xb, 0, none⟩)) = x := ⟨_, rfl⟩
      rw [hw4]
      obtain ⟨G4, F4⟩ := HH.out.stepA (by decide) (by decide) HN.out.2 HN.out.1 hw4.symm
      have T4 := F4.wk HT.out (by decide)
      have G5 := G4.below (below_drewN w4 1) 7
      have T5 := T4.below (below_drewN w4 1) 7
      obtain ⟨L5, hL5⟩ : ∃ L, rl (rl L1 (wr.drewN 1) (1 + 1)) w4 7 = L := ⟨_, rfl⟩
      rw [hL5] at G5 T5
      have hS := dnew_any (w4.drewN 1) L5 (1 + 2 + 1)
      clear HH HT HN
      have HH : Hid (Hf (w4.drewN 1) L5 1 pbx 2 1 (upd2 a 1 xb) b) := G5
      have HT : Hid (Wk w L5 (w4.drewN 1)) := T5
      clear G5 T5 G4 F4 T4 hL5 fk ck hw4
      go_wp2_with fail
      refine wp_region_held_drew (S := fun _ => True) (by kernel_rfl) trivial (fun hHeld => ?_)
      clear hHeld
      refine wpAnyH_take (i := 0) (oi := ⟨some 24, .move (.tmp 4), 66, "law.go:197", #[], none⟩) (v := (.pointer (some ⟨pbx, 0, none⟩))) rfl (by kernel_rfl) (by kernel_rfl) (by kernel_rfl) (fun _ _ _ h => h) (Or.inl ⟨by rfl, fun _ _ => by rfl⟩) trivial ?_
      simp only [Act.put, List.setIfInBounds_toArray, List.set_cons_zero, List.set_cons_succ]
      refine wpAnyH_take (i := 1) (oi := ⟨some 25, .move (.tmp 5), 3, "law.go:197", #[], none⟩) (v := (.int .i64 1)) rfl (by kernel_rfl) (by kernel_rfl) (by kernel_rfl) (fun _ _ _ h => h) (Or.inl ⟨by rfl, fun _ _ => by rfl⟩) trivial ?_
      simp only [Act.put, List.setIfInBounds_toArray, List.set_cons_zero, List.set_cons_succ]
      refine wpAnyH_take (i := 3) (oi := ⟨some 27, .nilCheck (.tmp 24), 0, "law.go:197", #[⟨0, .data⟩], none⟩) (v := (.pointer (some ⟨pbx, 0, none⟩))) rfl (by kernel_rfl) (by kernel_rfl) (by kernel_rfl) (fun _ _ _ h => h) (Or.inl ⟨by rfl, fun _ _ => by rfl⟩) trivial ?_
      simp only [Act.put, List.setIfInBounds_toArray, List.set_cons_zero, List.set_cons_succ]
      refine wpAnyH_take (i := 4) (oi := ⟨some 28, .fieldAddr 71 (.tmp 27) 1, 0, "law.go:197", #[⟨3, .data⟩], none⟩) (v := (.pointer (some ⟨pbx, 2, none⟩))) rfl (by kernel_rfl) (by kernel_rfl) (by kernel_rfl) (fun _ _ _ h => h) (Or.inl ⟨by rfl, fun _ _ => by rfl⟩) trivial ?_
      simp only [Act.put, List.setIfInBounds_toArray, List.set_cons_zero, List.set_cons_succ]
      refine wpAnyH_ready (rs := [2]) (by kernel_rfl) (by simp) ?_
      refine AllReadyH.cons (o := ⟨some 26, .call ⟨.value (.func 21), #[], #[]⟩, 52, "law.go:197", #[], none⟩) rfl (fun KK hK => ?_) (AllReadyH.nil)
      go_simp
      refine hS.mono ?_
      rintro e w3 ⟨xb2, rfl, hN, b3⟩
      have zk := (b3.block pbx (heap_lt HH.out.box)).trans HH.out.box
      have fk : w3.frozen? ⟨pbx, 3, none⟩ = false := by simp [World.frozen?, zk]
      have ck : w3.cell? ⟨pbx, 3, none⟩ = some (.pointer none) := by simp [World.cell?, zk, pA]
      have HN : Hid (_ ∧ Below _ _ w3) := ⟨hN, b3⟩
      clear zk hN b3 hS
      go_wp2_with fail
      refine hK.out _ _ trivial (fun hHeld => ?_)
      clear hK KK hHeld
      try simp only [Act.put, List.setIfInBounds_toArray, List.set_cons_zero, List.set_cons_succ]
      refine wpAnyH_take (i := 5) (oi := ⟨some 29, .indexAddr 68 (.tmp 28) (.tmp 25), 0, "law.go:197", #[⟨4, .data⟩, ⟨1, .data⟩, ⟨0, .phase⟩, ⟨1, .phase⟩, ⟨2, .phase⟩], none⟩) (v := (.pointer (some ⟨pbx, 3, none⟩))) rfl (by kernel_rfl) (by kernel_rfl) (by kernel_rfl) (fun _ _ _ h => h) (Or.inl ⟨by rfl, fun w' h' => by unfold execOp; go_simp⟩) trivial ?_
      simp only [Act.put, List.setIfInBounds_toArray, List.set_cons_zero, List.set_cons_succ]
      refine wpAnyH_ready (rs := [6]) (by kernel_rfl) (by simp) ?_
      refine AllReadyH.cons (o := ⟨none, .store 52 (.tmp 29) (.tmp 26), 0, "law.go:197", #[⟨5, .data⟩, ⟨2, .data⟩, ⟨2, .chain⟩, ⟨0, .phase⟩, ⟨1, .phase⟩, ⟨2, .phase⟩], none⟩) rfl (fun KK hK => ?_) (AllReadyH.nil)
      go_simp
      refine hK.out _ _ trivial (fun hHeld => ?_)
      clear hK KK hHeld
      try simp only [Act.put, List.setIfInBounds_toArray, List.set_cons_zero, List.set_cons_succ]
      refine wpAnyH_done (by kernel_rfl) ?_ _
      obtain ⟨w4, hw4⟩ : ∃ x, w3.setCell ⟨pbx, 3, none⟩ (.pointer (some ⟨xb2, 0, none⟩)) = x := ⟨_, rfl⟩
      rw [hw4]
      obtain ⟨G4, F4⟩ := HH.out.stepB (by decide) (by decide) HN.out.2 HN.out.1 hw4.symm
      have T4 := F4.wk HT.out (by decide)
      have r0 : w4.cell? ⟨pbx, 1, none⟩ = some (.pointer (some ⟨xb, 0, none⟩)) := by
        have := G4.cell 1 _ rfl
        rw [this]
        simp [pA, upd2]
      have HG : Hid (Hf w4 _ 1 pbx 2 2 _ _) := G4
      have HT4 : Hid (Wk w _ w4) := T4
      clear G4 F4 T4 HH HT HN fk ck hw4
      go_wp2_with fail
      go_roundw
      case rel => exact ⟨2, by decide, by go_num, _, _, _, HT4.out, HG.out⟩
      case measure => simp [intOf]
    · have HPs : Hid (Ps w wr pbx 0) := ⟨lab, ⟨_, _, _, _, _, _, _, hH.pl, by simp, fun _ _ => Int.le_refl _⟩, hT⟩
      clear hH hT
      go_wp2_with fail
      obtain ⟨wA, hwA⟩ : ∃ x, x = wr := ⟨wr, rfl⟩
      subst hwA
      go_loopw [6] (fun i wr => ∃ (t : Nat), t ≤ n ∧ i = .int .i64 t ∧ Ps w wr pbx (5000 * t)) (fun i _ => n - (intOf i).toNat)
      case atStart => exact ⟨0, Nat.zero_le _, rfl, HPs.out⟩
      case round =>
        clear HPs
        obtain ⟨t, ht, rfl, hPs⟩ := hrel
        by_cases hlt : t < n
        · have hti : (t : Int) < n := by omega
          obtain ⟨g, a0, o, hos, hao, hIn, hcl⟩ := hL.at2 hlt
          subst hao
          obtain ⟨lab, ⟨a, b, bv, st, lg, S, es, hP, hes, hlast⟩, wk1⟩ := hPs
          have k5 : wr.cell? ⟨pbx, 5, none⟩ = some (.int .i64 st) := hP.cell 5 _ rfl
          have f5 : wr.frozen? ⟨pbx, 5, none⟩ = false := hP.fz 5
          obtain ⟨W2, hW2⟩ : ∃ x, wr.setCell ⟨pbx, 5, none⟩ (.int .i64 t) = x := ⟨_, rfl⟩
          have u2 : Turns (fun i => i = pbx) wr W2 := by rw [← hW2]; exact Turns.cell wr pbx 5 _
          have z2 : W2.heap[pbx]? = some (.cells (plC a b bv t lg) 71 (0, 0)) := by rw [← hW2]; exact heap_setCell_same _ _ _ _ _ _ hP.box
          obtain ⟨P2, F2⟩ := hP.boxed u2 z2 (fun q => q)
          have wk2 := F2.wk wk1 (by decide)
          have y0 : W2.cell? ⟨g, a0 + t * 8, none⟩ = some (.int .i64 o.k) := hcl _ wk2.b 0 _ rfl
          have y1 : W2.cell? ⟨g, a0 + t * 8 + 1, none⟩ = some (.int .i64 o.w) := hcl _ wk2.b 1 _ rfl
          have y2 : W2.cell? ⟨g, a0 + t * 8 + 2, none⟩ = some (.int .i64 o.no) := hcl _ wk2.b 2 _ rfl
          have y3 : W2.cell? ⟨g, a0 + t * 8 + 3, none⟩ = some (.int .i64 o.a) := hcl _ wk2.b 3 _ rfl
          have y4 : W2.cell? ⟨g, a0 + t * 8 + 4, none⟩ = some (.int .i64 o.v) := hcl _ wk2.b 4 _ rfl
          have y5 : W2.cell? ⟨g, a0 + t * 8 + 5, none⟩ = some (.int .i64 o.to) := hcl _ wk2.b 5 _ rfl
          have y6 : W2.cell? ⟨g, a0 + t * 8 + 6, none⟩ = some (.slice o.da o.dn o.dc) := hcl _ wk2.b 6 _ rfl
          have y7 : W2.cell? ⟨g, a0 + t * 8 + 7, none⟩ = some (.int .i64 o.m) := hcl _ wk2.b 7 _ rfl
          have hPl := plays_any P2 wk2 (by decide) hes (B := 5000 * t) (by omega) (by omega) hlast o (fun w' b' => hIn.below b')
          have HW2 : Hid (Wk w lab W2) := wk2
          clear hP P2 F2 u2 z2 hlast hcl hos hIn wk1 wk2
          go_wp2_with fail
          refine hPl.mono ?_
          rintro e w3 ⟨rfl, q⟩
          obtain ⟨S', a', b', ⟨l3, bv3, lg3, es3, P3, F3, hes3⟩, hlast3⟩ := q
          clear hPl y0 y1 y2 y3 y4 y5 y6 y7
          have hE2 := hes3 hes
          obtain ⟨ba, bc, rfl⟩ := tl_slice P3.bk.row
          obtain ⟨E, hE⟩ : ∃ E, es3.length = E := ⟨_, rfl⟩
          have hHo := holds_any P3.bk (by omega)
          have p4 : w3.cell? ⟨pbx, 4, none⟩ = some (.slice ba es3.length bc) := P3.cell 4 _ rfl
          have f4 : w3.frozen? ⟨pbx, 4, none⟩ = false := P3.fz 4
          rw [hE] at p4 hE2 hHo
          have P3' := P3
          rw [hE] at P3'
          have HP3 : Hid (Pl w3 l3 1 pbx a' b' (.slice ba E bc) t lg3 S' S' es3) := P3'
          have HW3 : Hid (Wk w l3 w3) := F3.wk HW2.out (by decide)
          have HE : Hid (es3.length = E) := hE
          have HL3 : Hid (∀ c, c < 2 → (S' c).last ≤ 5000 * (t : Int) + 5000) := hlast3
          clear P3 P3' F3 hE hes3 hlast3 HW2
          by_cases hE9 : 900 < E
          · have hE9i : (900 : Int) < E := by omega
            have hE9d : decide ((900 : Int) < E) = true := decide_eq_true hE9i
            have hrow : Tl w3 90 3 (.slice ba E bc) E (kcs es3) := by have := HP3.out.bk.row; rw [HE.out] at this; exact this
            obtain ⟨gb, off, c1, hq1, hEc⟩ := tl_some hrow (by omega)
            cases hq1
            clear hrow
            have hEci : (E : Int) ≤ bc := by omega
            have h600 : (600 : Int) ≤ bc := by omega
            have hz1 : ∀ q : Nat, Ps w ((w3.drewN q).setCell ⟨pbx, 4, none⟩ (.slice (some ⟨gb, off + 1800, none⟩) (E - 600) (bc - 600))) pbx (5000 * ((t + 1 : Nat) : Int)) := fun q => by
              have P4 := HP3.out.below (below_drewN w3 q) 7
              have K4 := HW3.out.below (below_drewN w3 q) 7
              obtain ⟨P5, F5⟩ := P4.cutR HE.out 600 (by omega) rfl
              exact ⟨_, ⟨_, _, _, _, _, _, _, P5, by rw [List.length_drop, HE.out]; omega, fun c hc => by have := HL3.out c hc; omega⟩, F5.wk K4 (by decide)⟩
            have HZ : Hid (∀ q : Nat, Ps w ((w3.drewN q).setCell ⟨pbx, 4, none⟩ (.slice (some ⟨gb, off + 1800, none⟩) (E - 600) (bc - 600))) pbx (5000 * ((t + 1 : Nat) : Int))) := hz1
            clear hz1
            rcases Bool.eq_false_or_eq_true ((t : Int) % 8 == 0) with h8 | h8
            all_goals
              go_wp2_with fail
              refine hHo.mono ?_
              rintro e w4 ⟨rfl, q, rfl⟩
              have hz := HZ.out q
              go_wp2_with fail
              go_roundw
              case rel =>
                first
                  | exact ⟨t + 1, by omega, by go_num, hz⟩
                  | (repeat apply Exists.intro
                     exact And.intro ⟨t + 1, by omega, by go_num, hz⟩ rfl)
              case measure => simp [intOf]; omega
          · have hE9i : ¬ (900 : Int) < E := by omega
            have hE9d : decide ((900 : Int) < E) = false := decide_eq_false hE9i
            have hz1 : ∀ q : Nat, Ps w (w3.drewN q) pbx (5000 * ((t + 1 : Nat) : Int)) := fun q => by
              have P4 := HP3.out.below (below_drewN w3 q) 7
              have K4 := HW3.out.below (below_drewN w3 q) 7
              exact ⟨_, ⟨_, _, _, _, _, _, _, P4, by rw [HE.out]; omega, fun c hc => by have := HL3.out c hc; omega⟩, K4⟩
            have HZ : Hid (∀ q : Nat, Ps w (w3.drewN q) pbx (5000 * ((t + 1 : Nat) : Int))) := hz1
            clear hz1
            have hway : ((t : Int) % 8 == 0) = true ∨ (((t : Int) % 8 == 0) = false ∧ ((t : Int) + 1 == n) = true) ∨ (((t : Int) % 8 == 0) = false ∧ ((t : Int) + 1 == n) = false) := by
              cases h1 : ((t : Int) % 8 == 0) <;> cases h2 : ((t : Int) + 1 == n) <;> simp
            rcases hway with h8 | ⟨h8, hnx⟩ | ⟨h8, hnx⟩
            · go_wp2_with fail
              refine hHo.mono ?_
              rintro e w4 ⟨rfl, q, rfl⟩
              have hz := HZ.out q
              have HZ2 : Hid _ := hz
              go_wp2_with fail
              go_roundw
              case rel =>
                first
                  | exact ⟨t + 1, by omega, by go_num, hz⟩
                  | (repeat apply Exists.intro
                     exact And.intro ⟨t + 1, by omega, by go_num, hz⟩ rfl)
              case measure => simp [intOf]; omega
            · go_wp2_with fail
              refine hHo.mono ?_
              rintro e w4 ⟨rfl, q, rfl⟩
              have hz := HZ.out q
              go_wp2_with fail
              go_roundw
              case rel =>
                first
                  | exact ⟨t + 1, by omega, by go_num, hz⟩
                  | (repeat apply Exists.intro
                     exact And.intro ⟨t + 1, by omega, by go_num, hz⟩ rfl)
              case measure => simp [intOf]; omega
            · have hz := HZ.out 0
              go_wp2_with fail
              go_roundw
              case rel =>
                first
                  | exact ⟨t + 1, by omega, by go_num, hz⟩
                  | (repeat apply Exists.intro
                     exact And.intro ⟨t + 1, by omega, by go_num, hz⟩ rfl)
              case measure => simp [intOf]; omega
        · obtain rfl : t = n := by omega
          obtain ⟨lab, _, wk1⟩ := hPs
          have hb := wk1.b
          clear wk1 hlt hL
          go_wp2_with fail
          refine (known_any wr).mono ?_
          rintro e w5 ⟨rfl, b5⟩
          have b6 := hb.trans (b5.mono hb.size)
          clear hb b5
          go_wp2_with fail
          go_ret
          exact ⟨rfl, b6⟩
end Go.Proofs.Ytpbanjgjljdepaa
