/- NetMany, walked. (Written by mkKM2.py.) -/
import Derived.Test.YtpbanjgjljdepaaKM1
namespace Go.Proofs.Ytpbanjgjljdepaa
open Go.RowKit Go.Maps
set_option maxRecDepth 100000
theorem infoPL : (Try.prog.info? 66).map (fun i => (i.zero, i.size, i.bytes)) = some (some (.pointer none), 1, 8) := by kernel_rfl
set_option maxHeartbeats 60000000 in
theorem netMany_any (ao : Option Addr) (n c : Nat) (os : List Op) (w : World) (hL : Op.Lie w ao n os) (hn : n ≤ 140737488355328) :
    Calls Try.prog 7 #[.slice ao n c] w fun e w' => e = .returned (.bool true) ∧ Below w.heap.size w w' := by
  obtain ⟨i1, hi1, hy0, hy1, hy2⟩ := info_parts Try.info90
  obtain ⟨i2, hi2, hz0, hz1, hz2⟩ := info_parts infoPL
  have hni : (n : Int) ≤ 140737488355328 := by omega
  go_enter Try.func7, Try.ntmps7
  go_wp2_with fail
  refine (known_any w).mono ?_
  rintro e w1 ⟨rfl, b1⟩
  have T0 : Tn w w1 (rl (fun _ => 0) w 7) (.slice none 0 0) (fun _ => 0) 0 0 := ⟨World.ownsRow_nil _ _ _ _, (fun _ q => by cases q), (fun _ h => by omega), (Wk.refl w).below b1 7⟩
  clear b1
  go_wp2_with fail
  go_loopw [4, 5] (fun rv i wr => ∃ (t : Nat) (lab pb : Nat → Nat), t ≤ 10 ∧ i = .int .i64 t ∧ Tn w wr lab rv pb t 0) (fun _ i _ => 10 - (intOf i).toNat)
  case atStart => exact ⟨0, _, _, by decide, rfl, T0⟩
  case round =>
    obtain ⟨t, lab, pb, ht, rfl, hT⟩ := hrel
    clear T0
    obtain ⟨ra, rc, rfl⟩ := own_slice hT.row
    by_cases hlt : t < 10
    · have hti : (t : Int) < 10 := by omega
      obtain ⟨wA, hwA⟩ : ∃ x, x = wr := ⟨wr, rfl⟩
      subst hwA
      obtain ⟨W2, hW2⟩ : ∃ W, wA.alloc (.cells #[.pointer none, .pointer none, .pointer none, .pointer none, .slice none 0 0, .int .i64 0, .bool false] 71) = W := ⟨_, rfl⟩
      have b2 : Below wA.heap.size wA W2 := by rw [← hW2]; exact (Below.refl _ wA).alloc (Nat.le_refl _) _
      have T2 := hT.below b2 (7 * t + 6)
      have H2 : Hf W2 (rl lab wA (7 * t + 6)) (7 * t + 1) wA.heap.size 0 0 (fun _ => 0) (fun _ => 0) := ⟨by rw [← hW2]; exact heap_alloc_new wA _, fun _ h => by omega, fun _ h => by omega, rl_new (Nat.le_refl _)⟩
      obtain ⟨pbx, hpb⟩ : ∃ x, wA.heap.size = x := ⟨_, rfl⟩
      obtain ⟨L2, hL2⟩ : ∃ L, rl lab wA (7 * t + 6) = L := ⟨_, rfl⟩
      rw [hL2] at T2 H2
      rw [hpb] at H2
      obtain ⟨rv, hrv⟩ : ∃ v, (Value.slice ra t rc) = v := ⟨_, rfl⟩
      have HRV : Hid ((Value.slice ra t rc) = rv) := hrv
      rw [hrv] at T2
      have HT2 : Hid (Tn w W2 L2 rv pb t 0) := T2
      have HH2 : Hid (Hf W2 L2 (7 * t + 1) pbx 0 0 (fun _ => 0) (fun _ => 0)) := H2
      clear T2 H2 hL2 b2 hT hrv
      go_wp2_with fail
      go_loopw [7] (fun i wr => ∃ (q : Nat) , q ≤ 2 ∧ i = .int .i64 q ∧ ∃ (lab a b : Nat → Nat), Tn w wr lab rv pb t 0 ∧ Hf wr lab (7 * t + 1) pbx q q a b) (fun i _ => 2 - (intOf i).toNat)
      case atStart => exact ⟨0, by decide, rfl, _, _, _, HT2.out, HH2.out⟩
      case round =>
        obtain ⟨q, hq, rfl, lab, a, b, hT, hH⟩ := hrel
        clear HT2 HH2
        have hq3 : q = 0 ∨ q = 1 ∨ q = 2 := by omega
        rcases hq3 with rfl | rfl | rfl
        · have c0 := 0
          clear c0
          have G1 := hH.below (below_drewN wr 1) (7 * t + 7)
          have T1 := hT.below (below_drewN wr 1) (7 * t + 7)
          obtain ⟨L1, hL1⟩ : ∃ L, rl lab wr (7 * t + 7) = L := ⟨_, rfl⟩
          rw [hL1] at G1 T1
          have hS := new_any (wr.drewN 1) L1 (7 * t + 1 + 0)
          have HH : Hid (Hf (wr.drewN 1) L1 (7 * t + 1) pbx 0 0 a b) := G1
          have HT : Hid (Tn w (wr.drewN 1) L1 rv pb t 0) := T1
          clear G1 T1 hL1 hH hT
          go_wp2_with fail
          refine wp_region_held_drew (S := fun _ => True) (by kernel_rfl) trivial (fun hHeld => ?_)
          clear hHeld
          refine wpAnyH_take (i := 0) (oi := ⟨some 27, .move (.tmp 6), 66, "owns.go:149", #[], none⟩) (v := (.pointer (some ⟨pbx, 0, none⟩))) rfl (by kernel_rfl) (by kernel_rfl) (by kernel_rfl) (fun _ _ _ h => h) (Or.inl ⟨by rfl, fun _ _ => by rfl⟩) trivial ?_
          simp only [Act.put, List.setIfInBounds_toArray, List.set_cons_zero, List.set_cons_succ]
          refine wpAnyH_take (i := 1) (oi := ⟨some 28, .move (.tmp 7), 3, "owns.go:149", #[], none⟩) (v := (.int .i64 0)) rfl (by kernel_rfl) (by kernel_rfl) (by kernel_rfl) (fun _ _ _ h => h) (Or.inl ⟨by rfl, fun _ _ => by rfl⟩) trivial ?_
          simp only [Act.put, List.setIfInBounds_toArray, List.set_cons_zero, List.set_cons_succ]
          refine wpAnyH_take (i := 3) (oi := ⟨some 30, .nilCheck (.tmp 27), 0, "owns.go:149", #[⟨0, .data⟩], none⟩) (v := (.pointer (some ⟨pbx, 0, none⟩))) rfl (by kernel_rfl) (by kernel_rfl) (by kernel_rfl) (fun _ _ _ h => h) (Or.inl ⟨by rfl, fun _ _ => by rfl⟩) trivial ?_
          simp only [Act.put, List.setIfInBounds_toArray, List.set_cons_zero, List.set_cons_succ]
          refine wpAnyH_take (i := 4) (oi := ⟨some 31, .fieldAddr 71 (.tmp 30) 0, 0, "owns.go:149", #[⟨3, .data⟩], none⟩) (v := (.pointer (some ⟨pbx, 0, none⟩))) rfl (by kernel_rfl) (by kernel_rfl) (by kernel_rfl) (fun _ _ _ h => h) (Or.inl ⟨by rfl, fun _ _ => by rfl⟩) trivial ?_
          simp only [Act.put, List.setIfInBounds_toArray, List.set_cons_zero, List.set_cons_succ]
          refine wpAnyH_ready (rs := [2]) (by kernel_rfl) (by simp) ?_
          refine AllReadyH.cons (o := ⟨some 29, .call ⟨.value (.func 10), #[], #[]⟩, 24, "owns.go:149", #[], none⟩) rfl (fun KK hK => ?_) (AllReadyH.nil)
          go_simp
          refine hS.mono ?_
          rintro e w3 ⟨xb, rfl, hN, b3⟩
          have zk := (b3.block pbx (heap_lt HH.out.box)).trans HH.out.box
          have fk : w3.frozen? ⟨pbx, 0, none⟩ = false := by simp [World.frozen?, zk]
          have ck : w3.cell? ⟨pbx, 0, none⟩ = some (.pointer none) := by simp [World.cell?, zk, pA]
          have HN : Hid (_ ∧ Below _ _ w3) := ⟨hN, b3⟩
          clear zk hN b3 hS
          go_wp2_with fail
          refine hK.out _ _ trivial (fun hHeld => ?_)
          clear hK KK hHeld
          try simp only [Act.put, List.setIfInBounds_toArray, List.set_cons_zero, List.set_cons_succ]
          refine wpAnyH_take (i := 5) (oi := ⟨some 32, .indexAddr 67 (.tmp 31) (.tmp 28), 0, "owns.go:149", #[⟨4, .data⟩, ⟨1, .data⟩, ⟨0, .phase⟩, ⟨1, .phase⟩, ⟨2, .phase⟩], none⟩) (v := (.pointer (some ⟨pbx, 0, none⟩))) rfl (by kernel_rfl) (by kernel_rfl) (by kernel_rfl) (fun _ _ _ h => h) (Or.inl ⟨by rfl, fun w' h' => by unfold execOp; go_simp⟩) trivial ?_
          simp only [Act.put, List.setIfInBounds_toArray, List.set_cons_zero, List.set_cons_succ]
          refine wpAnyH_ready (rs := [6]) (by kernel_rfl) (by simp) ?_
          refine AllReadyH.cons (o := ⟨none, .store 24 (.tmp 32) (.tmp 29), 0, "owns.go:149", #[⟨5, .data⟩, ⟨2, .data⟩, ⟨2, .chain⟩, ⟨0, .phase⟩, ⟨1, .phase⟩, ⟨2, .phase⟩], none⟩) rfl (fun KK hK => ?_) (AllReadyH.nil)
          go_simp
          refine hK.out _ _ trivial (fun hHeld => ?_)
          clear hK KK hHeld
          try simp only [Act.put, List.setIfInBounds_toArray, List.set_cons_zero, List.set_cons_succ]
          refine wpAnyH_done (by kernel_rfl) ?_ _
          obtain ⟨w4, hw4⟩ : ∃ x, w3.setCell ⟨pbx, 0, none⟩ (.pointer (some ⟨xb, 0, none⟩)) = x := ⟨_, rfl⟩
          rw [hw4]
          obtain ⟨G4, F4⟩ := HH.out.stepA (by decide) (by decide) HN.out.2 HN.out.1 hw4.symm
          have T4 := HT.out.fr (B' := 0) F4 (fun h => absurd h (Nat.lt_irrefl _)) (Int.le_refl _)
          have G5 := G4.below (below_drewN w4 1) (7 * t + 7)
          have T5 := T4.below (below_drewN w4 1) (7 * t + 7)
          obtain ⟨L5, hL5⟩ : ∃ L, rl (rl L1 (wr.drewN 1) (7 * t + 1 + 0)) w4 (7 * t + 7) = L := ⟨_, rfl⟩
          rw [hL5] at G5 T5
          have hS := dnew_any (w4.drewN 1) L5 (7 * t + 1 + 2 + 0)
          clear HH HT HN
          have HH : Hid (Hf (w4.drewN 1) L5 (7 * t + 1) pbx 1 0 (upd2 a 0 xb) b) := G5
          have HT : Hid (Tn w (w4.drewN 1) L5 rv pb t 0) := T5
          clear G5 T5 G4 F4 T4 hL5 fk ck hw4
          go_wp2_with fail
          refine wp_region_held_drew (S := fun _ => True) (by kernel_rfl) trivial (fun hHeld => ?_)
          clear hHeld
          refine wpAnyH_take (i := 0) (oi := ⟨some 33, .move (.tmp 6), 66, "owns.go:150", #[], none⟩) (v := (.pointer (some ⟨pbx, 0, none⟩))) rfl (by kernel_rfl) (by kernel_rfl) (by kernel_rfl) (fun _ _ _ h => h) (Or.inl ⟨by rfl, fun _ _ => by rfl⟩) trivial ?_
          simp only [Act.put, List.setIfInBounds_toArray, List.set_cons_zero, List.set_cons_succ]
          refine wpAnyH_take (i := 1) (oi := ⟨some 34, .move (.tmp 7), 3, "owns.go:150", #[], none⟩) (v := (.int .i64 0)) rfl (by kernel_rfl) (by kernel_rfl) (by kernel_rfl) (fun _ _ _ h => h) (Or.inl ⟨by rfl, fun _ _ => by rfl⟩) trivial ?_
          simp only [Act.put, List.setIfInBounds_toArray, List.set_cons_zero, List.set_cons_succ]
          refine wpAnyH_take (i := 3) (oi := ⟨some 36, .nilCheck (.tmp 33), 0, "owns.go:150", #[⟨0, .data⟩], none⟩) (v := (.pointer (some ⟨pbx, 0, none⟩))) rfl (by kernel_rfl) (by kernel_rfl) (by kernel_rfl) (fun _ _ _ h => h) (Or.inl ⟨by rfl, fun _ _ => by rfl⟩) trivial ?_
          simp only [Act.put, List.setIfInBounds_toArray, List.set_cons_zero, List.set_cons_succ]
          refine wpAnyH_take (i := 4) (oi := ⟨some 37, .fieldAddr 71 (.tmp 36) 1, 0, "owns.go:150", #[⟨3, .data⟩], none⟩) (v := (.pointer (some ⟨pbx, 2, none⟩))) rfl (by kernel_rfl) (by kernel_rfl) (by kernel_rfl) (fun _ _ _ h => h) (Or.inl ⟨by rfl, fun _ _ => by rfl⟩) trivial ?_
          simp only [Act.put, List.setIfInBounds_toArray, List.set_cons_zero, List.set_cons_succ]
          refine wpAnyH_ready (rs := [2]) (by kernel_rfl) (by simp) ?_
          refine AllReadyH.cons (o := ⟨some 35, .call ⟨.value (.func 21), #[], #[]⟩, 52, "owns.go:150", #[], none⟩) rfl (fun KK hK => ?_) (AllReadyH.nil)
          go_simp
          refine hS.mono ?_
          rintro e w3 ⟨xb2, rfl, hN, b3⟩
          have zk := (b3.block pbx (heap_lt HH.out.box)).trans HH.out.box
          have fk : w3.frozen? ⟨pbx, 2, none⟩ = false := by simp [World.frozen?, zk]
          have ck : w3.cell? ⟨pbx, 2, none⟩ = some (.pointer none) := by simp [World.cell?, zk, pA]
          have HN : Hid (_ ∧ Below _ _ w3) := ⟨hN, b3⟩
          clear zk hN b3 hS
          go_wp2_with fail
          refine hK.out _ _ trivial (fun hHeld => ?_)
          clear hK KK hHeld
          try simp only [Act.put, List.setIfInBounds_toArray, List.set_cons_zero, List.set_cons_succ]
          refine wpAnyH_take (i := 5) (oi := ⟨some 38, .indexAddr 68 (.tmp 37) (.tmp 34), 0, "owns.go:150", #[⟨4, .data⟩, ⟨1, .data⟩, ⟨0, .phase⟩, ⟨1, .phase⟩, ⟨2, .phase⟩], none⟩) (v := (.pointer (some ⟨pbx, 2, none⟩))) rfl (by kernel_rfl) (by kernel_rfl) (by kernel_rfl) (fun _ _ _ h => h) (Or.inl ⟨by rfl, fun w' h' => by unfold execOp; go_simp⟩) trivial ?_
          simp only [Act.put, List.setIfInBounds_toArray, List.set_cons_zero, List.set_cons_succ]
          refine wpAnyH_ready (rs := [6]) (by kernel_rfl) (by simp) ?_
          refine AllReadyH.cons (o := ⟨none, .store 52 (.tmp 38) (.tmp 35), 0, "owns.go:150", #[⟨5, .data⟩, ⟨2, .data⟩, ⟨2, .chain⟩, ⟨0, .phase⟩, ⟨1, .phase⟩, ⟨2, .phase⟩], none⟩) rfl (fun KK hK => ?_) (AllReadyH.nil)
          go_simp
          refine hK.out _ _ trivial (fun hHeld => ?_)
          clear hK KK hHeld
          try simp only [Act.put, List.setIfInBounds_toArray, List.set_cons_zero, List.set_cons_succ]
          refine wpAnyH_done (by kernel_rfl) ?_ _
          obtain ⟨w4, hw4⟩ : ∃ x, w3.setCell ⟨pbx, 2, none⟩ (.pointer (some ⟨xb2, 0, none⟩)) = x := ⟨_, rfl⟩
          rw [hw4]
          obtain ⟨G4, F4⟩ := HH.out.stepB (by decide) (by decide) HN.out.2 HN.out.1 hw4.symm
          have T4 := HT.out.fr (B' := 0) F4 (fun h => absurd h (Nat.lt_irrefl _)) (Int.le_refl _)
          have r0 : w4.cell? ⟨pbx, 0, none⟩ = some (.pointer (some ⟨xb, 0, none⟩)) := by
            have := G4.cell 0 _ rfl
            rw [this]
            simp [pA, upd2]
          have HG : Hid (Hf w4 _ (7 * t + 1) pbx 1 1 _ _) := G4
          have HT4 : Hid (Tn w w4 _ rv pb t 0) := T4
          clear G4 F4 T4 HH HT HN fk ck hw4
          go_wp2_with fail
          go_roundw
          case rel => exact ⟨1, by decide, by go_num, _, _, _, HT4.out, HG.out⟩
          case measure => simp [intOf]
        · have c1 := 0
          clear c1
          have G1 := hH.below (below_drewN wr 1) (7 * t + 7)
          have T1 := hT.below (below_drewN wr 1) (7 * t + 7)
          obtain ⟨L1, hL1⟩ : ∃ L, rl lab wr (7 * t + 7) = L := ⟨_, rfl⟩
          rw [hL1] at G1 T1
          have hS := new_any (wr.drewN 1) L1 (7 * t + 1 + 1)
          have HH : Hid (Hf (wr.drewN 1) L1 (7 * t + 1) pbx 1 1 a b) := G1
          have HT : Hid (Tn w (wr.drewN 1) L1 rv pb t 0) := T1
          clear G1 T1 hL1 hH hT
          go_wp2_with fail
          refine wp_region_held_drew (S := fun _ => True) (by kernel_rfl) trivial (fun hHeld => ?_)
          clear hHeld
          refine wpAnyH_take (i := 0) (oi := ⟨some 27, .move (.tmp 6), 66, "owns.go:149", #[], none⟩) (v := (.pointer (some ⟨pbx, 0, none⟩))) rfl (by kernel_rfl) (by kernel_rfl) (by kernel_rfl) (fun _ _ _ h => h) (Or.inl ⟨by rfl, fun _ _ => by rfl⟩) trivial ?_
          simp only [Act.put, List.setIfInBounds_toArray, List.set_cons_zero, List.set_cons_succ]
          refine wpAnyH_take (i := 1) (oi := ⟨some 28, .move (.tmp 7), 3, "owns.go:149", #[], none⟩) (v := (.int .i64 1)) rfl (by kernel_rfl) (by kernel_rfl) (by kernel_rfl) (fun _ _ _ h => h) (Or.inl ⟨by rfl, fun _ _ => by rfl⟩) trivial ?_
          simp only [Act.put, List.setIfInBounds_toArray, List.set_cons_zero, List.set_cons_succ]
          refine wpAnyH_take (i := 3) (oi := ⟨some 30, .nilCheck (.tmp 27), 0, "owns.go:149", #[⟨0, .data⟩], none⟩) (v := (.pointer (some ⟨pbx, 0, none⟩))) rfl (by kernel_rfl) (by kernel_rfl) (by kernel_rfl) (fun _ _ _ h => h) (Or.inl ⟨by rfl, fun _ _ => by rfl⟩) trivial ?_
          simp only [Act.put, List.setIfInBounds_toArray, List.set_cons_zero, List.set_cons_succ]
          refine wpAnyH_take (i := 4) (oi := ⟨some 31, .fieldAddr 71 (.tmp 30) 0, 0, "owns.go:149", #[⟨3, .data⟩], none⟩) (v := (.pointer (some ⟨pbx, 0, none⟩))) rfl (by kernel_rfl) (by kernel_rfl) (by kernel_rfl) (fun _ _ _ h => h) (Or.inl ⟨by rfl, fun _ _ => by rfl⟩) trivial ?_
          simp only [Act.put, List.setIfInBounds_toArray, List.set_cons_zero, List.set_cons_succ]
          refine wpAnyH_ready (rs := [2]) (by kernel_rfl) (by simp) ?_
          refine AllReadyH.cons (o := ⟨some 29, .call ⟨.value (.func 10), #[], #[]⟩, 24, "owns.go:149", #[], none⟩) rfl (fun KK hK => ?_) (AllReadyH.nil)
          go_simp
          refine hS.mono ?_
          rintro e w3 ⟨xb, rfl, hN, b3⟩
          have zk := (b3.block pbx (heap_lt HH.out.box)).trans HH.out.box
          have fk : w3.frozen? ⟨pbx, 1, none⟩ = false := by simp [World.frozen?, zk]
          have ck : w3.cell? ⟨pbx, 1, none⟩ = some (.pointer none) := by simp [World.cell?, zk, pA]
          have HN : Hid (_ ∧ Below _ _ w3) := ⟨hN, b3⟩
          clear zk hN b3 hS
          go_wp2_with fail
          refine hK.out _ _ trivial (fun hHeld => ?_)
          clear hK KK hHeld
          try simp only [Act.put, List.setIfInBounds_toArray, List.set_cons_zero, List.set_cons_succ]
          refine wpAnyH_take (i := 5) (oi := ⟨some 32, .indexAddr 67 (.tmp 31) (.tmp 28), 0, "owns.go:149", #[⟨4, .data⟩, ⟨1, .data⟩, ⟨0, .phase⟩, ⟨1, .phase⟩, ⟨2, .phase⟩], none⟩) (v := (.pointer (some ⟨pbx, 1, none⟩))) rfl (by kernel_rfl) (by kernel_rfl) (by kernel_rfl) (fun _ _ _ h => h) (Or.inl ⟨by rfl, fun w' h' => by unfold execOp; go_simp⟩) trivial ?_
          simp only [Act.put, List.setIfInBounds_toArray, List.set_cons_zero, List.set_cons_succ]
          refine wpAnyH_ready (rs := [6]) (by kernel_rfl) (by simp) ?_
          refine AllReadyH.cons (o := ⟨none, .store 24 (.tmp 32) (.tmp 29), 0, "owns.go:149", #[⟨5, .data⟩, ⟨2, .data⟩, ⟨2, .chain⟩, ⟨0, .phase⟩, ⟨1, .phase⟩, ⟨2, .phase⟩], none⟩) rfl (fun KK hK => ?_) (AllReadyH.nil)
          go_simp
          refine hK.out _ _ trivial (fun hHeld => ?_)
          clear hK KK hHeld
          try simp only [Act.put, List.setIfInBounds_toArray, List.set_cons_zero, List.set_cons_succ]
          refine wpAnyH_done (by kernel_rfl) ?_ _
          obtain ⟨w4, hw4⟩ : ∃ x, w3.setCell ⟨pbx, 1, none⟩ (.pointer (some ⟨xb, 0, none⟩)) = x := ⟨_, rfl⟩
          rw [hw4]
          obtain ⟨G4, F4⟩ := HH.out.stepA (by decide) (by decide) HN.out.2 HN.out.1 hw4.symm
          have T4 := HT.out.fr (B' := 0) F4 (fun h => absurd h (Nat.lt_irrefl _)) (Int.le_refl _)
          have G5 := G4.below (below_drewN w4 1) (7 * t + 7)
          have T5 := T4.below (below_drewN w4 1) (7 * t + 7)
          obtain ⟨L5, hL5⟩ : ∃ L, rl (rl L1 (wr.drewN 1) (7 * t + 1 + 1)) w4 (7 * t + 7) = L := ⟨_, rfl⟩
          rw [hL5] at G5 T5
          have hS := dnew_any (w4.drewN 1) L5 (7 * t + 1 + 2 + 1)
          clear HH HT HN
          have HH : Hid (Hf (w4.drewN 1) L5 (7 * t + 1) pbx 2 1 (upd2 a 1 xb) b) := G5
          have HT : Hid (Tn w (w4.drewN 1) L5 rv pb t 0) := T5
          clear G5 T5 G4 F4 T4 hL5 fk ck hw4
          go_wp2_with fail
          refine wp_region_held_drew (S := fun _ => True) (by kernel_rfl) trivial (fun hHeld => ?_)
          clear hHeld
          refine wpAnyH_take (i := 0) (oi := ⟨some 33, .move (.tmp 6), 66, "owns.go:150", #[], none⟩) (v := (.pointer (some ⟨pbx, 0, none⟩))) rfl (by kernel_rfl) (by kernel_rfl) (by kernel_rfl) (fun _ _ _ h => h) (Or.inl ⟨by rfl, fun _ _ => by rfl⟩) trivial ?_
          simp only [Act.put, List.setIfInBounds_toArray, List.set_cons_zero, List.set_cons_succ]
          refine wpAnyH_take (i := 1) (oi := ⟨some 34, .move (.tmp 7), 3, "owns.go:150", #[], none⟩) (v := (.int .i64 1)) rfl (by kernel_rfl) (by kernel_rfl) (by kernel_rfl) (fun _ _ _ h => h) (Or.inl ⟨by rfl, fun _ _ => by rfl⟩) trivial ?_
          simp only [Act.put, List.setIfInBounds_toArray, List.set_cons_zero, List.set_cons_succ]
          refine wpAnyH_take (i := 3) (oi := ⟨some 36, .nilCheck (.tmp 33), 0, "owns.go:150", #[⟨0, .data⟩], none⟩) (v := (.pointer (some ⟨pbx, 0, none⟩))) rfl (by kernel_rfl) (by kernel_rfl) (by kernel_rfl) (fun _ _ _ h => h) (Or.inl ⟨by rfl, fun _ _ => by rfl⟩) trivial ?_
          simp only [Act.put, List.setIfInBounds_toArray, List.set_cons_zero, List.set_cons_succ]
          refine wpAnyH_take (i := 4) (oi := ⟨some 37, .fieldAddr 71 (.tmp 36) 1, 0, "owns.go:150", #[⟨3, .data⟩], none⟩) (v := (.pointer (some ⟨pbx, 2, none⟩))) rfl (by kernel_rfl) (by kernel_rfl) (by kernel_rfl) (fun _ _ _ h => h) (Or.inl ⟨by rfl, fun _ _ => by rfl⟩) trivial ?_
          simp only [Act.put, List.setIfInBounds_toArray, List.set_cons_zero, List.set_cons_succ]
          refine wpAnyH_ready (rs := [2]) (by kernel_rfl) (by simp) ?_
          refine AllReadyH.cons (o := ⟨some 35, .call ⟨.value (.func 21), #[], #[]⟩, 52, "owns.go:150", #[], none⟩) rfl (fun KK hK => ?_) (AllReadyH.nil)
          go_simp
          refine hS.mono ?_
          rintro e w3 ⟨xb2, rfl, hN, b3⟩
          have zk := (b3.block pbx (heap_lt HH.out.box)).trans HH.out.box
          have fk : w3.frozen? ⟨pbx, 3, none⟩ = false := by simp [World.frozen?, zk]
          have ck : w3.cell? ⟨pbx, 3, none⟩ = some (.pointer none) := by simp [World.cell?, zk, pA]
          have HN : Hid (_ ∧ Below _ _ w3) := ⟨hN, b3⟩
          clear zk hN b3 hS
          go_wp2_with fail
          refine hK.out _ _ trivial (fun hHeld => ?_)
          clear hK KK hHeld
          try simp only [Act.put, List.setIfInBounds_toArray, List.set_cons_zero, List.set_cons_succ]
          refine wpAnyH_take (i := 5) (oi := ⟨some 38, .indexAddr 68 (.tmp 37) (.tmp 34), 0, "owns.go:150", #[⟨4, .data⟩, ⟨1, .data⟩, ⟨0, .phase⟩, ⟨1, .phase⟩, ⟨2, .phase⟩], none⟩) (v := (.pointer (some ⟨pbx, 3, none⟩))) rfl (by kernel_rfl) (by kernel_rfl) (by kernel_rfl) (fun _ _ _ h => h) (Or.inl ⟨by rfl, fun w' h' => by unfold execOp; go_simp⟩) trivial ?_
          simp only [Act.put, List.setIfInBounds_toArray, List.set_cons_zero, List.set_cons_succ]
          refine wpAnyH_ready (rs := [6]) (by kernel_rfl) (by simp) ?_
          refine AllReadyH.cons (o := ⟨none, .store 52 (.tmp 38) (.tmp 35), 0, "owns.go:150", #[⟨5, .data⟩, ⟨2, .data⟩, ⟨2, .chain⟩, ⟨0, .phase⟩, ⟨1, .phase⟩, ⟨2, .phase⟩], none⟩) rfl (fun KK hK => ?_) (AllReadyH.nil)
          go_simp
          refine hK.out _ _ trivial (fun hHeld => ?_)
          clear hK KK hHeld
          try simp only [Act.put, List.setIfInBounds_toArray, List.set_cons_zero, List.set_cons_succ]
          refine wpAnyH_done (by kernel_rfl) ?_ _
          obtain ⟨w4, hw4⟩ : ∃ x, w3.setCell ⟨pbx, 3, none⟩ (.pointer (some ⟨xb2, 0, none⟩)) = x := ⟨_, rfl⟩
          rw [hw4]
          obtain ⟨G4, F4⟩ := HH.out.stepB (by decide) (by decide) HN.out.2 HN.out.1 hw4.symm
          have T4 := HT.out.fr (B' := 0) F4 (fun h => absurd h (Nat.lt_irrefl _)) (Int.le_refl _)
          have r0 : w4.cell? ⟨pbx, 1, none⟩ = some (.pointer (some ⟨xb, 0, none⟩)) := by
            have := G4.cell 1 _ rfl
            rw [this]
            simp [pA, upd2]
          have HG : Hid (Hf w4 _ (7 * t + 1) pbx 2 2 _ _) := G4
          have HT4 : Hid (Tn w w4 _ rv pb t 0) := T4
          clear G4 F4 T4 HH HT HN fk ck hw4
          go_wp2_with fail
          go_roundw
          case rel => exact ⟨2, by decide, by go_num, _, _, _, HT4.out, HG.out⟩
          case measure => simp [intOf]
        · have hPy : Py wr lab (7 * t + 1) pbx 0 := ⟨_, _, _, _, _, _, _, hH.pl, by simp, fun _ _ => Int.le_refl _⟩
          rw [← HRV.out] at hT
          have HT : Hid (Tn w wr lab (.slice ra t rc) pb t 0) := hT
          have HPy : Hid (Py wr lab (7 * t + 1) pbx 0) := hPy
          have hrow := hT.row
          clear hT hH hPy
          rw [← HRV.out]
          go_wp2_with (first | (at_builtin; refine wpList_append_lies _ rfl (.tmp 46) (.tmp 48) 65 rfl 0 66 i2 (.pointer none) 1 8 Try.underlying65 hi2 hz0 hz1 hz2 rfl (by decide) _ t _ rfl (hrow.alloc _) ⟨wr.heap.size, 0, none⟩ 1 1 [.pointer (some ⟨pbx, 0, none⟩)] rfl rfl (World.news_of_block (heap_alloc_new _ _)) (by intro u hu; simp at hu; rcases hu with rfl; rfl) (by decide) (by unfold maxLen; omega) (by omega) (Nat.zero_le _) _ rfl ?_; intro gC cC wC hoC hgC hatC hltC; have HTC : Hid (Tn w wC _ _ _ (t + 1) 0) := (HT.out.push HPy.out ((Turns.alloc _ wr _).trans (Turns.grown (F := fun i => (Value.slice ra t rc).ownBlock = some i) hgC (fun b hb => hb)) (fun _ _ h => h)) hoC (fun b q => by cases q; rcases hatC with r | r; exact Or.inl r; exact Or.inr (by rw [r]; simp))); clear hoC hgC hatC hltC) | fail)
          go_roundw
          case rel => exact ⟨t + 1, _, _, by omega, by go_num, HTC.out⟩
          case measure => simp [intOf]; omega
    · obtain rfl : t = 10 := by omega
      obtain ⟨gr, cr, hrv, hcr, _⟩ := hT.at (i := 0) (by decide)
      cases hrv
      have HT : Hid (Tn w wr lab (.slice (some ⟨gr, 0, none⟩) 10 rc) pb 10 0) := hT
      clear hT hlt
      go_wp2_with fail
      obtain ⟨wA, hwA⟩ : ∃ x, x = wr := ⟨wr, rfl⟩
      subst hwA
      go_loopw [8] (fun i wr => ∃ (t : Nat) (lab : Nat → Nat), t ≤ n ∧ i = .int .i64 t ∧ Tn w wr lab (.slice (some ⟨gr, 0, none⟩) 10 rc) pb 10 (5000 * t)) (fun i _ => n - (intOf i).toNat)
      case atStart => exact ⟨0, _, Nat.zero_le _, rfl, HT.out⟩
      case round =>
        clear HT
        obtain ⟨t, lab, ht, rfl, hT⟩ := hrel
        by_cases hlt : t < n
        · have hti : (t : Int) < n := by omega
          obtain ⟨g, a0, o, hos, hao, hIn, hcl⟩ := hL.at2 hlt
          subst hao
          have x0 : wr.cell? ⟨g, a0 + t * 8, none⟩ = some (.int .i64 o.k) := hcl _ hT.wk.b 0 _ rfl
          by_cases hk8 : o.k = 8
          · rw [hk8] at x0
            have HT : Hid (Tn w wr lab (.slice (some ⟨gr, 0, none⟩) 10 rc) pb 10 (5000 * t)) := hT
            clear hT hcl hos
            go_wp2_with fail
            go_roundw
            case rel => exact ⟨t + 1, _, by omega, by go_num, HT.out.more (by omega)⟩
            case measure => simp [intOf]; omega
          · have hk8b : (o.k == 8) = false := by simpa using hk8
            obtain ⟨m, hm, hm10⟩ : ∃ m : Nat, 3 * (t : Int) % 10 = (m : Int) ∧ m < 10 := ⟨(3 * t) % 10, by omega, by omega⟩
            obtain ⟨gr', cr', hq, _, hcm⟩ := hT.at hm10
            cases hq
            obtain ⟨a, b, bv, st, lg, S, es, hP, hes, hlast⟩ := hT.pl m hm10
            have k5 : wr.cell? ⟨pb m, 5, none⟩ = some (.int .i64 st) := hP.cell 5 _ rfl
            have f5 : wr.frozen? ⟨pb m, 5, none⟩ = false := hP.fz 5
            obtain ⟨W2, hW2⟩ : ∃ x, wr.setCell ⟨pb m, 5, none⟩ (.int .i64 t) = x := ⟨_, rfl⟩
            have u2 : Turns (fun i => i = pb m) wr W2 := by rw [← hW2]; exact Turns.cell wr (pb m) 5 _
            have z2 : W2.heap[pb m]? = some (.cells (plC a b bv t lg) 71 (0, 0)) := by rw [← hW2]; exact heap_setCell_same _ _ _ _ _ _ hP.box
            obtain ⟨P2, F2⟩ := hP.boxed u2 z2 (fun q => q)
            have T2 := hT.fr (B' := 5000 * t) F2 (fun _ => ⟨_, _, _, _, _, _, _, P2, hes, hlast⟩) (Int.le_refl _)
            have y0 : W2.cell? ⟨g, a0 + t * 8, none⟩ = some (.int .i64 o.k) := hcl _ T2.wk.b 0 _ rfl
            have y1 : W2.cell? ⟨g, a0 + t * 8 + 1, none⟩ = some (.int .i64 o.w) := hcl _ T2.wk.b 1 _ rfl
            have y2 : W2.cell? ⟨g, a0 + t * 8 + 2, none⟩ = some (.int .i64 o.no) := hcl _ T2.wk.b 2 _ rfl
            have y3 : W2.cell? ⟨g, a0 + t * 8 + 3, none⟩ = some (.int .i64 o.a) := hcl _ T2.wk.b 3 _ rfl
            have y4 : W2.cell? ⟨g, a0 + t * 8 + 4, none⟩ = some (.int .i64 o.v) := hcl _ T2.wk.b 4 _ rfl
            have y5 : W2.cell? ⟨g, a0 + t * 8 + 5, none⟩ = some (.int .i64 o.to) := hcl _ T2.wk.b 5 _ rfl
            have y6 : W2.cell? ⟨g, a0 + t * 8 + 6, none⟩ = some (.slice o.da o.dn o.dc) := hcl _ T2.wk.b 6 _ rfl
            have y7 : W2.cell? ⟨g, a0 + t * 8 + 7, none⟩ = some (.int .i64 o.m) := hcl _ T2.wk.b 7 _ rfl
            have hPl := plays_any P2 T2.wk (by omega) hes (B := 5000 * t) (by omega) (by omega) hlast o (fun w' b' => hIn.below b')
            have HT2 : Hid (Tn w W2 lab (.slice (some ⟨gr, 0, none⟩) 10 rc) pb 10 (5000 * t)) := T2
            have HIn : Hid (o.In w) := hIn
            clear hT hP P2 F2 T2 u2 z2 hlast hcl hos hIn
            go_wp2_with fail
            refine hPl.mono ?_
            rintro e w3 ⟨rfl, q⟩
            obtain ⟨S', a', b', ⟨l3, bv3, lg3, es3, P3, F3, hes3⟩, hlast3⟩ := q
            clear hPl y0 y1 y2 y3 y4 y5 y6 y7 hcm
            have hE2 := hes3 hes
            obtain ⟨ba, bc, rfl⟩ := own_slice P3.bk.row
            obtain ⟨E, hE⟩ : ∃ E, es3.length = E := ⟨_, rfl⟩
            have p4 : w3.cell? ⟨pb m, 4, none⟩ = some (.slice ba es3.length bc) := P3.cell 4 _ rfl
            have f4 : w3.frozen? ⟨pb m, 4, none⟩ = false := P3.fz 4
            rw [hE] at p4 hE2
            have HP3 : Hid (Pl w3 l3 (7 * m + 1) (pb m) a' b' (.slice ba es3.length bc) t lg3 S' S' es3) := P3
            have HF3 : Hid (Fr (7 * m + 1) W2 w3 _ l3) := F3
            have HE : Hid (es3.length = E) := hE
            have HL3 : Hid (∀ c, c < 2 → (S' c).last ≤ 5000 * (t : Int) + 5000) := hlast3
            clear P3 F3 hE hes3 hlast3
            by_cases hE9 : 900 < E
            · have hE9i : (900 : Int) < E := by omega
              have hrow : w3.ownsRow 0 90 3 (.slice ba E bc) E (kcs es3) := by have := HP3.out.bk.row; rw [HE.out] at this; exact this
              obtain ⟨gb, rfl, hEc⟩ : ∃ gb, ba = some ⟨gb, 0, none⟩ ∧ E ≤ bc := by
                rcases hrow.2 with ⟨_, h0⟩ | ⟨g, cap, cur, q, _, _, h1, _⟩
                · omega
                · cases q; exact ⟨g, rfl, h1⟩
              have hnews : ∀ j u, (kcs (es3.drop 600))[j]? = some u → w3.cell? ((⟨gb, 1800, none⟩ : Addr).add j) = some u := fun j u hu => by
                rw [Addr.add_lit, kcs_drop, List.getElem?_drop] at *
                have hj : 600 * 3 + j < (kcs es3).length := (List.getElem?_eq_some_iff.1 hu).1
                rw [kcs_len, HE.out] at hj
                rw [hrow.cellAt (1800 + j) (by omega)]
                exact hu
              have hone : ∀ u ∈ kcs (es3.drop 600), u.oneCell' = true := fun u hu => kcs_one HP3.out.bk u (by rw [kcs_drop] at hu; exact List.mem_of_mem_drop hu)
              have hnl : (kcs (es3.drop 600)).length = (E - 600) * 3 := by rw [kcs_len, List.length_drop, HE.out]
              have HNW : Hid (∀ j u, (kcs (es3.drop 600))[j]? = some u → w3.cell? ((⟨gb, 1800, none⟩ : Addr).add j) = some u) := hnews
              have HON : Hid (∀ u ∈ kcs (es3.drop 600), u.oneCell' = true) := hone
              have HNL : Hid ((kcs (es3.drop 600)).length = (E - 600) * 3) := hnl
              clear hrow hnews hone hnl
              have hpbl := heap_lt HP3.out.box
              go_wp2_with (first | (at_builtin; go_loud (refine wpList_append_lies _ rfl (.const (.slice none 0 0)) (.tmp 91) 69 rfl w3.heap.size 90 i1 (.agg #[.slice none 0 0, .int .u8 0, .int .i64 0]) 3 40 Try.underlying69 hi1 hy0 hy1 hy2 rfl (by decide) _ 0 [] rfl (World.ownsRow_nil _ _ _ _) ⟨gb, 1800, none⟩ (E - 600) (bc - 600) (kcs (es3.drop 600)) rfl HNL.out HNW.out HON.out (by omega) (by unfold maxLen; omega) (by omega) (Nat.le_refl _) _ rfl ?_; intro gC cC wC hoC hgC hatC hltC; have bC : Below w3.heap.size w3 wC := (Below.refl _ w3).grown hgC (Nat.le_refl _) (fun k hk => by cases hk); have zB := (bC.block (pb m) hpbl).trans HP3.out.box; have k4 : wC.cell? ⟨pb m, 4, none⟩ = some (.slice (some ⟨gb, 0, none⟩) es3.length bc) := (by simp [World.cell?, zB]); have f4 : wC.frozen? ⟨pb m, 4, none⟩ = false := (by simp [World.frozen?, zB]); have hO2 : wC.ownsRow w3.heap.size 90 3 (.slice (some ⟨gC, 0, none⟩) (E - 600) cC) (es3.length - 600) (kcs (es3.drop 600)) := (by rw [HE.out]; simpa using hoC); have HOC : Hid (wC.ownsRow w3.heap.size 90 3 (.slice (some ⟨gC, 0, none⟩) (E - 600) cC) (es3.length - 600) (kcs (es3.drop 600))) := hO2; have HBC : Hid (Below w3.heap.size w3 wC) := bC; clear bC zB hO2 hoC hgC hatC hltC)) | fail)
              go_roundw
              case rel =>
                obtain ⟨P4, F4⟩ := HP3.out.cutB 600 HBC.out HOC.out rfl
                have hz := HT2.out.fr (B' := 5000 * ((t + 1 : Nat) : Int)) (HF3.out.trans F4) (fun _ => ⟨_, _, _, _, _, _, _, P4, by rw [List.length_drop, HE.out]; omega, fun c hc => by have := HL3.out c hc; omega⟩) (by omega)
                first
                  | exact ⟨t + 1, _, by omega, by go_num, hz⟩
                  | (repeat apply Exists.intro
                     exact And.intro ⟨t + 1, _, by omega, by go_num, hz⟩ rfl)
              case measure => simp [intOf]; omega
            · have hE9i : ¬ (900 : Int) < E := by omega
              go_wp2_with fail
              go_roundw
              case rel =>
                have hz : Tn w w3 l3 (.slice (some ⟨gr, 0, none⟩) 10 rc) pb 10 (5000 * ((t + 1 : Nat) : Int)) := HT2.out.fr (B' := 5000 * ((t + 1 : Nat) : Int)) HF3.out (fun _ => ⟨_, _, _, _, _, _, _, HP3.out, by rw [HE.out]; omega, fun c hc => by have := HL3.out c hc; omega⟩) (by omega)
                first
                  | exact ⟨t + 1, _, by omega, by go_num, hz⟩
                  | (repeat apply Exists.intro
                     exact And.intro ⟨t + 1, _, by omega, by go_num, hz⟩ rfl)
              case measure => simp [intOf]; omega
        · obtain rfl : t = n := by omega
          have HT : Hid (Tn w wr lab (.slice (some ⟨gr, 0, none⟩) 10 rc) pb 10 (5000 * t)) := hT
          clear hT hlt hL
          obtain ⟨B, hB⟩ : ∃ B : Int, 5000 * (t : Int) = B := ⟨_, rfl⟩
          rw [hB] at HT
          clear hB
          go_wp2_with fail
          obtain ⟨wA, hwA⟩ : ∃ x, x = wr := ⟨wr, rfl⟩
          subst hwA
          go_loopw [11] (fun i wr => ∃ (t : Nat) (lab : Nat → Nat), t ≤ 10 ∧ i = .int .i64 t ∧ Tn w wr lab (.slice (some ⟨gr, 0, none⟩) 10 rc) pb 10 B) (fun i _ => 10 - (intOf i).toNat)
          case atStart => exact ⟨0, _, by decide, rfl, HT.out⟩
          case round =>
            clear HT
            obtain ⟨t, lab, ht, rfl, hT⟩ := hrel
            have HT : Hid (Tn w wr lab (.slice (some ⟨gr, 0, none⟩) 10 rc) pb 10 B) := hT
            clear hT
            by_cases hlt : t < 10
            · have hti : (t : Int) < 10 := by omega
              go_wp2_with fail
              obtain ⟨wA, hwA⟩ : ∃ x, x = wr := ⟨wr, rfl⟩
              subst hwA
              go_loopw [12] (fun i wr => ∃ (q : Nat) (lab : Nat → Nat), q ≤ 2 ∧ i = .int .i64 q ∧ Tn w wr lab (.slice (some ⟨gr, 0, none⟩) 10 rc) pb 10 B) (fun i _ => 2 - (intOf i).toNat)
              case atStart => exact ⟨0, _, by decide, rfl, HT.out⟩
              case round =>
                clear HT
                obtain ⟨q, lab, hq, rfl, hT⟩ := hrel
                have hq3 : q = 0 ∨ q = 1 ∨ q = 2 := by omega
                rcases hq3 with rfl | rfl | rfl
                · obtain ⟨gr1, cr1, hrv, _, g1⟩ := hT.at hlt
                  cases hrv
                  obtain ⟨a, b, bv, st, lg, S, es, hP, _, _⟩ := hT.pl t hlt
                  have T1 := hT.below (below_drewN wr 1) (7 * t + 7)
                  have P1 := hP.below (below_drewN wr 1) (7 * t + 7)
                  have y1 : wr.cell? ⟨gr, t, none⟩ = some (.pointer (some ⟨pb t, 0, none⟩)) := g1
                  have y2 : wr.cell? ⟨pb t, 0, none⟩ = some (.pointer (some ⟨a 0, 0, none⟩)) := hP.cell 0 _ rfl
                  have y3 : wr.cell? ⟨pb t, 2, none⟩ = some (.pointer (some ⟨b 0, 0, none⟩)) := hP.cell 2 _ rfl
                  have hU := underN (P1.n 0 (by decide)) (7 * t + 7)
                  have HT : Hid (Tn w (wr.drewN 1) _ _ pb 10 B) := T1
                  have HPl : Hid (Pl (wr.drewN 1) _ (7 * t + 1) (pb t) a b bv st lg S S es) := P1
                  clear hT hP T1 P1 g1
                  go_wp2_with fail
                  refine wp_region_held_drew (S := fun w' => w'.cell? ⟨gr, t, none⟩ = some (.pointer (some ⟨pb t, 0, none⟩)) ∧ w'.cell? ⟨pb t, 0, none⟩ = some (.pointer (some ⟨a 0, 0, none⟩)) ∧ w'.cell? ⟨pb t, 2, none⟩ = some (.pointer (some ⟨b 0, 0, none⟩))) (by kernel_rfl) ⟨y1, y2, y3⟩ (fun hHeld => ?_)
                  refine wpAnyH_take (i := 0) (oi := ⟨some 103, .move (.tmp 4), 65, "owns.go:173", #[], none⟩) (v := (.slice (some ⟨gr, 0, none⟩) 10 rc)) rfl (by kernel_rfl) (by kernel_rfl) (by kernel_rfl) (fun _ _ _ h => h) (Or.inl ⟨by rfl, fun _ _ => by rfl⟩) hHeld ?_
                  simp only [Act.put, List.setIfInBounds_toArray, List.set_cons_zero, List.set_cons_succ]
                  refine wpAnyH_take (i := 1) (oi := ⟨some 104, .move (.tmp 11), 3, "owns.go:173", #[], none⟩) (v := (.int .i64 t)) rfl (by kernel_rfl) (by kernel_rfl) (by kernel_rfl) (fun _ _ _ h => h) (Or.inl ⟨by rfl, fun _ _ => by rfl⟩) hHeld ?_
                  simp only [Act.put, List.setIfInBounds_toArray, List.set_cons_zero, List.set_cons_succ]
                  refine wpAnyH_take (i := 2) (oi := ⟨some 105, .indexAddr 65 (.tmp 103) (.tmp 104), 0, "owns.go:173", #[⟨0, .data⟩, ⟨1, .data⟩], none⟩) (v := (.pointer (some ⟨gr, t, none⟩))) rfl (by kernel_rfl) (by kernel_rfl) (by kernel_rfl) (fun _ _ _ h => h) (Or.inl ⟨by rfl, fun w' h' => by unfold execOp; go_simp⟩) hHeld ?_
                  simp only [Act.put, List.setIfInBounds_toArray, List.set_cons_zero, List.set_cons_succ]
                  refine wpAnyH_take (i := 3) (oi := ⟨some 106, .load 66 (.tmp 105), 66, "owns.go:173", #[⟨2, .data⟩], none⟩) (v := (.pointer (some ⟨pb t, 0, none⟩))) rfl (by kernel_rfl) (by kernel_rfl) (by kernel_rfl) (fun _ _ _ h => h) (Or.inl ⟨by rfl, fun w' h' => by have e1 := h'.1; have e2 := h'.2.1; have e3 := h'.2.2; unfold execOp; go_simp⟩) hHeld ?_
                  simp only [Act.put, List.setIfInBounds_toArray, List.set_cons_zero, List.set_cons_succ]
                  refine wpAnyH_take (i := 4) (oi := ⟨some 107, .move (.tmp 12), 3, "owns.go:173", #[], none⟩) (v := (.int .i64 0)) rfl (by kernel_rfl) (by kernel_rfl) (by kernel_rfl) (fun _ _ _ h => h) (Or.inl ⟨by rfl, fun _ _ => by rfl⟩) hHeld ?_
                  simp only [Act.put, List.setIfInBounds_toArray, List.set_cons_zero, List.set_cons_succ]
                  refine wpAnyH_take (i := 5) (oi := ⟨some 108, .nilCheck (.tmp 106), 0, "owns.go:173", #[⟨3, .data⟩], none⟩) (v := (.pointer (some ⟨pb t, 0, none⟩))) rfl (by kernel_rfl) (by kernel_rfl) (by kernel_rfl) (fun _ _ _ h => h) (Or.inl ⟨by rfl, fun _ _ => by rfl⟩) hHeld ?_
                  simp only [Act.put, List.setIfInBounds_toArray, List.set_cons_zero, List.set_cons_succ]
                  refine wpAnyH_take (i := 6) (oi := ⟨some 109, .fieldAddr 71 (.tmp 108) 0, 0, "owns.go:173", #[⟨5, .data⟩], none⟩) (v := (.pointer (some ⟨pb t, 0, none⟩))) rfl (by kernel_rfl) (by kernel_rfl) (by kernel_rfl) (fun _ _ _ h => h) (Or.inl ⟨by rfl, fun _ _ => by rfl⟩) hHeld ?_
                  simp only [Act.put, List.setIfInBounds_toArray, List.set_cons_zero, List.set_cons_succ]
                  refine wpAnyH_take (i := 7) (oi := ⟨some 110, .indexAddr 67 (.tmp 109) (.tmp 107), 0, "owns.go:173", #[⟨6, .data⟩, ⟨4, .data⟩], none⟩) (v := (.pointer (some ⟨pb t, 0, none⟩))) rfl (by kernel_rfl) (by kernel_rfl) (by kernel_rfl) (fun _ _ _ h => h) (Or.inl ⟨by rfl, fun w' h' => by unfold execOp; go_simp⟩) hHeld ?_
                  simp only [Act.put, List.setIfInBounds_toArray, List.set_cons_zero, List.set_cons_succ]
                  refine wpAnyH_take (i := 8) (oi := ⟨some 111, .load 24 (.tmp 110), 24, "owns.go:173", #[⟨7, .data⟩], none⟩) (v := (.pointer (some ⟨a 0, 0, none⟩))) rfl (by kernel_rfl) (by kernel_rfl) (by kernel_rfl) (fun _ _ _ h => h) (Or.inl ⟨by rfl, fun w' h' => by have e1 := h'.1; have e2 := h'.2.1; have e3 := h'.2.2; unfold execOp; go_simp⟩) hHeld ?_
                  simp only [Act.put, List.setIfInBounds_toArray, List.set_cons_zero, List.set_cons_succ]
                  refine wpAnyH_take (i := 10) (oi := ⟨some 113, .move (.tmp 4), 65, "owns.go:173", #[], none⟩) (v := (.slice (some ⟨gr, 0, none⟩) 10 rc)) rfl (by kernel_rfl) (by kernel_rfl) (by kernel_rfl) (fun _ _ _ h => h) (Or.inl ⟨by rfl, fun _ _ => by rfl⟩) hHeld ?_
                  simp only [Act.put, List.setIfInBounds_toArray, List.set_cons_zero, List.set_cons_succ]
                  refine wpAnyH_take (i := 11) (oi := ⟨some 114, .move (.tmp 11), 3, "owns.go:173", #[], none⟩) (v := (.int .i64 t)) rfl (by kernel_rfl) (by kernel_rfl) (by kernel_rfl) (fun _ _ _ h => h) (Or.inl ⟨by rfl, fun _ _ => by rfl⟩) hHeld ?_
                  simp only [Act.put, List.setIfInBounds_toArray, List.set_cons_zero, List.set_cons_succ]
                  refine wpAnyH_take (i := 12) (oi := ⟨some 115, .indexAddr 65 (.tmp 113) (.tmp 114), 0, "owns.go:173", #[⟨10, .data⟩, ⟨11, .data⟩], none⟩) (v := (.pointer (some ⟨gr, t, none⟩))) rfl (by kernel_rfl) (by kernel_rfl) (by kernel_rfl) (fun _ _ _ h => h) (Or.inl ⟨by rfl, fun w' h' => by unfold execOp; go_simp⟩) hHeld ?_
                  simp only [Act.put, List.setIfInBounds_toArray, List.set_cons_zero, List.set_cons_succ]
                  refine wpAnyH_take (i := 13) (oi := ⟨some 116, .load 66 (.tmp 115), 66, "owns.go:173", #[⟨12, .data⟩], none⟩) (v := (.pointer (some ⟨pb t, 0, none⟩))) rfl (by kernel_rfl) (by kernel_rfl) (by kernel_rfl) (fun _ _ _ h => h) (Or.inl ⟨by rfl, fun w' h' => by have e1 := h'.1; have e2 := h'.2.1; have e3 := h'.2.2; unfold execOp; go_simp⟩) hHeld ?_
                  simp only [Act.put, List.setIfInBounds_toArray, List.set_cons_zero, List.set_cons_succ]
                  refine wpAnyH_take (i := 14) (oi := ⟨some 117, .move (.tmp 12), 3, "owns.go:173", #[], none⟩) (v := (.int .i64 0)) rfl (by kernel_rfl) (by kernel_rfl) (by kernel_rfl) (fun _ _ _ h => h) (Or.inl ⟨by rfl, fun _ _ => by rfl⟩) hHeld ?_
                  simp only [Act.put, List.setIfInBounds_toArray, List.set_cons_zero, List.set_cons_succ]
                  refine wpAnyH_take (i := 15) (oi := ⟨some 118, .nilCheck (.tmp 116), 0, "owns.go:173", #[⟨13, .data⟩], none⟩) (v := (.pointer (some ⟨pb t, 0, none⟩))) rfl (by kernel_rfl) (by kernel_rfl) (by kernel_rfl) (fun _ _ _ h => h) (Or.inl ⟨by rfl, fun _ _ => by rfl⟩) hHeld ?_
                  simp only [Act.put, List.setIfInBounds_toArray, List.set_cons_zero, List.set_cons_succ]
                  refine wpAnyH_take (i := 16) (oi := ⟨some 119, .fieldAddr 71 (.tmp 118) 1, 0, "owns.go:173", #[⟨15, .data⟩], none⟩) (v := (.pointer (some ⟨pb t, 2, none⟩))) rfl (by kernel_rfl) (by kernel_rfl) (by kernel_rfl) (fun _ _ _ h => h) (Or.inl ⟨by rfl, fun _ _ => by rfl⟩) hHeld ?_
                  simp only [Act.put, List.setIfInBounds_toArray, List.set_cons_zero, List.set_cons_succ]
                  refine wpAnyH_take (i := 17) (oi := ⟨some 120, .indexAddr 68 (.tmp 119) (.tmp 117), 0, "owns.go:173", #[⟨16, .data⟩, ⟨14, .data⟩], none⟩) (v := (.pointer (some ⟨pb t, 2, none⟩))) rfl (by kernel_rfl) (by kernel_rfl) (by kernel_rfl) (fun _ _ _ h => h) (Or.inl ⟨by rfl, fun w' h' => by unfold execOp; go_simp⟩) hHeld ?_
                  simp only [Act.put, List.setIfInBounds_toArray, List.set_cons_zero, List.set_cons_succ]
                  refine wpAnyH_take (i := 18) (oi := ⟨some 121, .load 52 (.tmp 120), 52, "owns.go:173", #[⟨17, .data⟩], none⟩) (v := (.pointer (some ⟨b 0, 0, none⟩))) rfl (by kernel_rfl) (by kernel_rfl) (by kernel_rfl) (fun _ _ _ h => h) (Or.inl ⟨by rfl, fun w' h' => by have e1 := h'.1; have e2 := h'.2.1; have e3 := h'.2.2; unfold execOp; go_simp⟩) hHeld ?_
                  simp only [Act.put, List.setIfInBounds_toArray, List.set_cons_zero, List.set_cons_succ]
                  refine wpAnyH_ready (rs := [9]) (by kernel_rfl) (by simp) ?_
                  refine AllReadyH.cons (o := ⟨some 112, .call ⟨.value (.func 15), #[.tmp 111], #[24]⟩, 34, "owns.go:173", #[⟨8, .data⟩], none⟩) rfl (fun KK hK => ?_) (AllReadyH.nil)
                  go_simp
                  refine hU.mono ?_
                  rintro e w3 ⟨lv, fs, rfl, F3, hfs, b3⟩
                  have T3 := HT.out.below b3 (7 * t + 7)
                  have P3 := HPl.out.below b3 (7 * t + 7)
                  have s1 := cell_later b3 hHeld.1
                  have s2 := cell_later b3 hHeld.2.1
                  have s3 := cell_later b3 hHeld.2.2
                  have hD := dunderN (P3.d 0 (by decide)) (7 * t + 7)
                  have HF3 : Hid (FRow w3 _ (7 * t + 7) lv fs ∧ fs.map En.fl = (S 0).l) := ⟨F3, hfs⟩
                  have HT3 : Hid (Tn w w3 _ _ pb 10 _) := T3
                  have HPl3 : Hid (Pl w3 _ (7 * t + 1) (pb t) a b bv st lg S S es) := P3
                  clear F3 hfs b3 T3 P3 hU HT HPl
                  go_wp2_with fail
                  refine hK.out _ _ ⟨s1, s2, s3⟩ (fun hHeld => ?_)
                  clear hK KK
                  try simp only [Act.put, List.setIfInBounds_toArray, List.set_cons_zero, List.set_cons_succ]
                  refine wpAnyH_ready (rs := [19]) (by kernel_rfl) (by simp) ?_
                  refine AllReadyH.cons (o := ⟨some 122, .call ⟨.value (.func 25), #[.tmp 121], #[52]⟩, 34, "owns.go:173", #[⟨18, .data⟩, ⟨9, .chain⟩], none⟩) rfl (fun KK hK => ?_) (AllReadyH.nil)
                  go_simp
                  refine hD.mono ?_
                  rintro e w4 ⟨mv, gs, rfl, G4, hgs, b4⟩
                  have T4 := HT3.out.below b4 (7 * t + 7)
                  have F4 := HF3.out.1.turns (Below.turns b4 (fun _ => False)) (fun _ _ _ q => q) (fun _ hi q => (rl_old (w := w3) (k := 7 * t + 7) hi).trans q)
                  have hfl : fs.length ≤ 4096 := by have h1 := (HPl3.out.n 0 (by decide)).ok.few; rw [← HF3.out.2, List.length_map] at h1; exact h1
                  have hSm := sameFls_true F4 G4 (HF3.out.2.trans hgs.symm) (by omega)
                  have s1 := cell_later b4 hHeld.1
                  have s2 := cell_later b4 hHeld.2.1
                  have s3 := cell_later b4 hHeld.2.2
                  have HT4 : Hid (Tn w w4 _ _ pb 10 _) := T4
                  clear T4 F4 G4 hgs b4 hD hfl HT3 HF3 HPl3
                  go_wp2_with fail
                  refine hK.out _ _ ⟨s1, s2, s3⟩ (fun hHeld => ?_)
                  clear hK KK
                  try simp only [Act.put, List.setIfInBounds_toArray, List.set_cons_zero, List.set_cons_succ]
                  refine wpAnyH_ready (rs := [20]) (by kernel_rfl) (by simp) ?_
                  refine AllReadyH.cons (o := ⟨some 123, .call ⟨.value (.func 18), #[.tmp 112, .tmp 122], #[34, 34]⟩, 4, "owns.go:173", #[⟨9, .data⟩, ⟨19, .data⟩, ⟨19, .chain⟩], none⟩) rfl (fun KK hK => ?_) (AllReadyH.nil)
                  go_simp
                  refine hSm.mono ?_
                  rintro e w5 ⟨rfl, b5⟩
                  have T5 := HT4.out.below b5 (7 * t + 7)
                  have s1 := cell_later b5 hHeld.1
                  have s2 := cell_later b5 hHeld.2.1
                  have s3 := cell_later b5 hHeld.2.2
                  have HT5 : Hid (Tn w w5 _ _ pb 10 _) := T5
                  clear T5 b5 hSm HT4
                  go_wp2_with fail
                  refine hK.out _ _ ⟨s1, s2, s3⟩ (fun hHeld => ?_)
                  clear hK KK
                  try simp only [Act.put, List.setIfInBounds_toArray, List.set_cons_zero, List.set_cons_succ]
                  refine wpAnyH_take (i := 21) (oi := ⟨some 13, .assign (.tmp 123), 4, "owns.go:173", #[⟨20, .data⟩, ⟨20, .chain⟩, ⟨0, .phase⟩, ⟨1, .phase⟩, ⟨2, .phase⟩, ⟨3, .phase⟩, ⟨4, .phase⟩, ⟨5, .phase⟩, ⟨6, .phase⟩, ⟨7, .phase⟩, ⟨8, .phase⟩, ⟨9, .phase⟩, ⟨10, .phase⟩, ⟨11, .phase⟩, ⟨12, .phase⟩, ⟨13, .phase⟩, ⟨14, .phase⟩, ⟨15, .phase⟩, ⟨16, .phase⟩, ⟨17, .phase⟩, ⟨18, .phase⟩, ⟨19, .phase⟩, ⟨20, .phase⟩], none⟩) (v := (.bool true)) rfl (by kernel_rfl) (by kernel_rfl) (by kernel_rfl) (fun _ _ _ h => h) (Or.inl ⟨by rfl, fun _ _ => by rfl⟩) hHeld ?_
                  simp only [Act.put, List.setIfInBounds_toArray, List.set_cons_zero, List.set_cons_succ]
                  refine wpAnyH_done (by kernel_rfl) ?_ _
                  clear s1 s2 s3 hHeld
                  go_wp2_with fail
                  go_roundw
                  case rel =>
                    first
                      | exact ⟨1, _, by decide, by go_num, HT5.out⟩
                      | (repeat apply Exists.intro
                         exact And.intro ⟨1, _, by decide, by go_num, HT5.out⟩ rfl)
                  case measure => simp [intOf]
                · obtain ⟨gr1, cr1, hrv, _, g1⟩ := hT.at hlt
                  cases hrv
                  obtain ⟨a, b, bv, st, lg, S, es, hP, _, _⟩ := hT.pl t hlt
                  have T1 := hT.below (below_drewN wr 1) (7 * t + 7)
                  have P1 := hP.below (below_drewN wr 1) (7 * t + 7)
                  have y1 : wr.cell? ⟨gr, t, none⟩ = some (.pointer (some ⟨pb t, 0, none⟩)) := g1
                  have y2 : wr.cell? ⟨pb t, 1, none⟩ = some (.pointer (some ⟨a 1, 0, none⟩)) := hP.cell 1 _ rfl
                  have y3 : wr.cell? ⟨pb t, 3, none⟩ = some (.pointer (some ⟨b 1, 0, none⟩)) := hP.cell 3 _ rfl
                  have hU := underN (P1.n 1 (by decide)) (7 * t + 7)
                  have HT : Hid (Tn w (wr.drewN 1) _ _ pb 10 B) := T1
                  have HPl : Hid (Pl (wr.drewN 1) _ (7 * t + 1) (pb t) a b bv st lg S S es) := P1
                  clear hT hP T1 P1 g1
                  go_wp2_with fail
                  refine wp_region_held_drew (S := fun w' => w'.cell? ⟨gr, t, none⟩ = some (.pointer (some ⟨pb t, 0, none⟩)) ∧ w'.cell? ⟨pb t, 1, none⟩ = some (.pointer (some ⟨a 1, 0, none⟩)) ∧ w'.cell? ⟨pb t, 3, none⟩ = some (.pointer (some ⟨b 1, 0, none⟩))) (by kernel_rfl) ⟨y1, y2, y3⟩ (fun hHeld => ?_)
                  refine wpAnyH_take (i := 0) (oi := ⟨some 103, .move (.tmp 4), 65, "owns.go:173", #[], none⟩) (v := (.slice (some ⟨gr, 0, none⟩) 10 rc)) rfl (by kernel_rfl) (by kernel_rfl) (by kernel_rfl) (fun _ _ _ h => h) (Or.inl ⟨by rfl, fun _ _ => by rfl⟩) hHeld ?_
                  simp only [Act.put, List.setIfInBounds_toArray, List.set_cons_zero, List.set_cons_succ]
                  refine wpAnyH_take (i := 1) (oi := ⟨some 104, .move (.tmp 11), 3, "owns.go:173", #[], none⟩) (v := (.int .i64 t)) rfl (by kernel_rfl) (by kernel_rfl) (by kernel_rfl) (fun _ _ _ h => h) (Or.inl ⟨by rfl, fun _ _ => by rfl⟩) hHeld ?_
                  simp only [Act.put, List.setIfInBounds_toArray, List.set_cons_zero, List.set_cons_succ]
                  refine wpAnyH_take (i := 2) (oi := ⟨some 105, .indexAddr 65 (.tmp 103) (.tmp 104), 0, "owns.go:173", #[⟨0, .data⟩, ⟨1, .data⟩], none⟩) (v := (.pointer (some ⟨gr, t, none⟩))) rfl (by kernel_rfl) (by kernel_rfl) (by kernel_rfl) (fun _ _ _ h => h) (Or.inl ⟨by rfl, fun w' h' => by unfold execOp; go_simp⟩) hHeld ?_
                  simp only [Act.put, List.setIfInBounds_toArray, List.set_cons_zero, List.set_cons_succ]
                  refine wpAnyH_take (i := 3) (oi := ⟨some 106, .load 66 (.tmp 105), 66, "owns.go:173", #[⟨2, .data⟩], none⟩) (v := (.pointer (some ⟨pb t, 0, none⟩))) rfl (by kernel_rfl) (by kernel_rfl) (by kernel_rfl) (fun _ _ _ h => h) (Or.inl ⟨by rfl, fun w' h' => by have e1 := h'.1; have e2 := h'.2.1; have e3 := h'.2.2; unfold execOp; go_simp⟩) hHeld ?_
                  simp only [Act.put, List.setIfInBounds_toArray, List.set_cons_zero, List.set_cons_succ]
                  refine wpAnyH_take (i := 4) (oi := ⟨some 107, .move (.tmp 12), 3, "owns.go:173", #[], none⟩) (v := (.int .i64 1)) rfl (by kernel_rfl) (by kernel_rfl) (by kernel_rfl) (fun _ _ _ h => h) (Or.inl ⟨by rfl, fun _ _ => by rfl⟩) hHeld ?_
                  simp only [Act.put, List.setIfInBounds_toArray, List.set_cons_zero, List.set_cons_succ]
                  refine wpAnyH_take (i := 5) (oi := ⟨some 108, .nilCheck (.tmp 106), 0, "owns.go:173", #[⟨3, .data⟩], none⟩) (v := (.pointer (some ⟨pb t, 0, none⟩))) rfl (by kernel_rfl) (by kernel_rfl) (by kernel_rfl) (fun _ _ _ h => h) (Or.inl ⟨by rfl, fun _ _ => by rfl⟩) hHeld ?_
                  simp only [Act.put, List.setIfInBounds_toArray, List.set_cons_zero, List.set_cons_succ]
                  refine wpAnyH_take (i := 6) (oi := ⟨some 109, .fieldAddr 71 (.tmp 108) 0, 0, "owns.go:173", #[⟨5, .data⟩], none⟩) (v := (.pointer (some ⟨pb t, 0, none⟩))) rfl (by kernel_rfl) (by kernel_rfl) (by kernel_rfl) (fun _ _ _ h => h) (Or.inl ⟨by rfl, fun _ _ => by rfl⟩) hHeld ?_
                  simp only [Act.put, List.setIfInBounds_toArray, List.set_cons_zero, List.set_cons_succ]
                  refine wpAnyH_take (i := 7) (oi := ⟨some 110, .indexAddr 67 (.tmp 109) (.tmp 107), 0, "owns.go:173", #[⟨6, .data⟩, ⟨4, .data⟩], none⟩) (v := (.pointer (some ⟨pb t, 1, none⟩))) rfl (by kernel_rfl) (by kernel_rfl) (by kernel_rfl) (fun _ _ _ h => h) (Or.inl ⟨by rfl, fun w' h' => by unfold execOp; go_simp⟩) hHeld ?_
                  simp only [Act.put, List.setIfInBounds_toArray, List.set_cons_zero, List.set_cons_succ]
                  refine wpAnyH_take (i := 8) (oi := ⟨some 111, .load 24 (.tmp 110), 24, "owns.go:173", #[⟨7, .data⟩], none⟩) (v := (.pointer (some ⟨a 1, 0, none⟩))) rfl (by kernel_rfl) (by kernel_rfl) (by kernel_rfl) (fun _ _ _ h => h) (Or.inl ⟨by rfl, fun w' h' => by have e1 := h'.1; have e2 := h'.2.1; have e3 := h'.2.2; unfold execOp; go_simp⟩) hHeld ?_
                  simp only [Act.put, List.setIfInBounds_toArray, List.set_cons_zero, List.set_cons_succ]
                  refine wpAnyH_take (i := 10) (oi := ⟨some 113, .move (.tmp 4), 65, "owns.go:173", #[], none⟩) (v := (.slice (some ⟨gr, 0, none⟩) 10 rc)) rfl (by kernel_rfl) (by kernel_rfl) (by kernel_rfl) (fun _ _ _ h => h) (Or.inl ⟨by rfl, fun _ _ => by rfl⟩) hHeld ?_
                  simp only [Act.put, List.setIfInBounds_toArray, List.set_cons_zero, List.set_cons_succ]
                  refine wpAnyH_take (i := 11) (oi := ⟨some 114, .move (.tmp 11), 3, "owns.go:173", #[], none⟩) (v := (.int .i64 t)) rfl (by kernel_rfl) (by kernel_rfl) (by kernel_rfl) (fun _ _ _ h => h) (Or.inl ⟨by rfl, fun _ _ => by rfl⟩) hHeld ?_
                  simp only [Act.put, List.setIfInBounds_toArray, List.set_cons_zero, List.set_cons_succ]
                  refine wpAnyH_take (i := 12) (oi := ⟨some 115, .indexAddr 65 (.tmp 113) (.tmp 114), 0, "owns.go:173", #[⟨10, .data⟩, ⟨11, .data⟩], none⟩) (v := (.pointer (some ⟨gr, t, none⟩))) rfl (by kernel_rfl) (by kernel_rfl) (by kernel_rfl) (fun _ _ _ h => h) (Or.inl ⟨by rfl, fun w' h' => by unfold execOp; go_simp⟩) hHeld ?_
                  simp only [Act.put, List.setIfInBounds_toArray, List.set_cons_zero, List.set_cons_succ]
                  refine wpAnyH_take (i := 13) (oi := ⟨some 116, .load 66 (.tmp 115), 66, "owns.go:173", #[⟨12, .data⟩], none⟩) (v := (.pointer (some ⟨pb t, 0, none⟩))) rfl (by kernel_rfl) (by kernel_rfl) (by kernel_rfl) (fun _ _ _ h => h) (Or.inl ⟨by rfl, fun w' h' => by have e1 := h'.1; have e2 := h'.2.1; have e3 := h'.2.2; unfold execOp; go_simp⟩) hHeld ?_
                  simp only [Act.put, List.setIfInBounds_toArray, List.set_cons_zero, List.set_cons_succ]
                  refine wpAnyH_take (i := 14) (oi := ⟨some 117, .move (.tmp 12), 3, "owns.go:173", #[], none⟩) (v := (.int .i64 1)) rfl (by kernel_rfl) (by kernel_rfl) (by kernel_rfl) (fun _ _ _ h => h) (Or.inl ⟨by rfl, fun _ _ => by rfl⟩) hHeld ?_
                  simp only [Act.put, List.setIfInBounds_toArray, List.set_cons_zero, List.set_cons_succ]
                  refine wpAnyH_take (i := 15) (oi := ⟨some 118, .nilCheck (.tmp 116), 0, "owns.go:173", #[⟨13, .data⟩], none⟩) (v := (.pointer (some ⟨pb t, 0, none⟩))) rfl (by kernel_rfl) (by kernel_rfl) (by kernel_rfl) (fun _ _ _ h => h) (Or.inl ⟨by rfl, fun _ _ => by rfl⟩) hHeld ?_
                  simp only [Act.put, List.setIfInBounds_toArray, List.set_cons_zero, List.set_cons_succ]
                  refine wpAnyH_take (i := 16) (oi := ⟨some 119, .fieldAddr 71 (.tmp 118) 1, 0, "owns.go:173", #[⟨15, .data⟩], none⟩) (v := (.pointer (some ⟨pb t, 2, none⟩))) rfl (by kernel_rfl) (by kernel_rfl) (by kernel_rfl) (fun _ _ _ h => h) (Or.inl ⟨by rfl, fun _ _ => by rfl⟩) hHeld ?_
                  simp only [Act.put, List.setIfInBounds_toArray, List.set_cons_zero, List.set_cons_succ]
                  refine wpAnyH_take (i := 17) (oi := ⟨some 120, .indexAddr 68 (.tmp 119) (.tmp 117), 0, "owns.go:173", #[⟨16, .data⟩, ⟨14, .data⟩], none⟩) (v := (.pointer (some ⟨pb t, 3, none⟩))) rfl (by kernel_rfl) (by kernel_rfl) (by kernel_rfl) (fun _ _ _ h => h) (Or.inl ⟨by rfl, fun w' h' => by unfold execOp; go_simp⟩) hHeld ?_
                  simp only [Act.put, List.setIfInBounds_toArray, List.set_cons_zero, List.set_cons_succ]
                  refine wpAnyH_take (i := 18) (oi := ⟨some 121, .load 52 (.tmp 120), 52, "owns.go:173", #[⟨17, .data⟩], none⟩) (v := (.pointer (some ⟨b 1, 0, none⟩))) rfl (by kernel_rfl) (by kernel_rfl) (by kernel_rfl) (fun _ _ _ h => h) (Or.inl ⟨by rfl, fun w' h' => by have e1 := h'.1; have e2 := h'.2.1; have e3 := h'.2.2; unfold execOp; go_simp⟩) hHeld ?_
                  simp only [Act.put, List.setIfInBounds_toArray, List.set_cons_zero, List.set_cons_succ]
                  refine wpAnyH_ready (rs := [9]) (by kernel_rfl) (by simp) ?_
                  refine AllReadyH.cons (o := ⟨some 112, .call ⟨.value (.func 15), #[.tmp 111], #[24]⟩, 34, "owns.go:173", #[⟨8, .data⟩], none⟩) rfl (fun KK hK => ?_) (AllReadyH.nil)
                  go_simp
                  refine hU.mono ?_
                  rintro e w3 ⟨lv, fs, rfl, F3, hfs, b3⟩
                  have T3 := HT.out.below b3 (7 * t + 7)
                  have P3 := HPl.out.below b3 (7 * t + 7)
                  have s1 := cell_later b3 hHeld.1
                  have s2 := cell_later b3 hHeld.2.1
                  have s3 := cell_later b3 hHeld.2.2
                  have hD := dunderN (P3.d 1 (by decide)) (7 * t + 7)
                  have HF3 : Hid (FRow w3 _ (7 * t + 7) lv fs ∧ fs.map En.fl = (S 1).l) := ⟨F3, hfs⟩
                  have HT3 : Hid (Tn w w3 _ _ pb 10 _) := T3
                  have HPl3 : Hid (Pl w3 _ (7 * t + 1) (pb t) a b bv st lg S S es) := P3
                  clear F3 hfs b3 T3 P3 hU HT HPl
                  go_wp2_with fail
                  refine hK.out _ _ ⟨s1, s2, s3⟩ (fun hHeld => ?_)
                  clear hK KK
                  try simp only [Act.put, List.setIfInBounds_toArray, List.set_cons_zero, List.set_cons_succ]
                  refine wpAnyH_ready (rs := [19]) (by kernel_rfl) (by simp) ?_
                  refine AllReadyH.cons (o := ⟨some 122, .call ⟨.value (.func 25), #[.tmp 121], #[52]⟩, 34, "owns.go:173", #[⟨18, .data⟩, ⟨9, .chain⟩], none⟩) rfl (fun KK hK => ?_) (AllReadyH.nil)
                  go_simp
                  refine hD.mono ?_
                  rintro e w4 ⟨mv, gs, rfl, G4, hgs, b4⟩
                  have T4 := HT3.out.below b4 (7 * t + 7)
                  have F4 := HF3.out.1.turns (Below.turns b4 (fun _ => False)) (fun _ _ _ q => q) (fun _ hi q => (rl_old (w := w3) (k := 7 * t + 7) hi).trans q)
                  have hfl : fs.length ≤ 4096 := by have h1 := (HPl3.out.n 1 (by decide)).ok.few; rw [← HF3.out.2, List.length_map] at h1; exact h1
                  have hSm := sameFls_true F4 G4 (HF3.out.2.trans hgs.symm) (by omega)
                  have s1 := cell_later b4 hHeld.1
                  have s2 := cell_later b4 hHeld.2.1
                  have s3 := cell_later b4 hHeld.2.2
                  have HT4 : Hid (Tn w w4 _ _ pb 10 _) := T4
                  clear T4 F4 G4 hgs b4 hD hfl HT3 HF3 HPl3
                  go_wp2_with fail
                  refine hK.out _ _ ⟨s1, s2, s3⟩ (fun hHeld => ?_)
                  clear hK KK
                  try simp only [Act.put, List.setIfInBounds_toArray, List.set_cons_zero, List.set_cons_succ]
                  refine wpAnyH_ready (rs := [20]) (by kernel_rfl) (by simp) ?_
                  refine AllReadyH.cons (o := ⟨some 123, .call ⟨.value (.func 18), #[.tmp 112, .tmp 122], #[34, 34]⟩, 4, "owns.go:173", #[⟨9, .data⟩, ⟨19, .data⟩, ⟨19, .chain⟩], none⟩) rfl (fun KK hK => ?_) (AllReadyH.nil)
                  go_simp
                  refine hSm.mono ?_
                  rintro e w5 ⟨rfl, b5⟩
                  have T5 := HT4.out.below b5 (7 * t + 7)
                  have s1 := cell_later b5 hHeld.1
                  have s2 := cell_later b5 hHeld.2.1
                  have s3 := cell_later b5 hHeld.2.2
                  have HT5 : Hid (Tn w w5 _ _ pb 10 _) := T5
                  clear T5 b5 hSm HT4
                  go_wp2_with fail
                  refine hK.out _ _ ⟨s1, s2, s3⟩ (fun hHeld => ?_)
                  clear hK KK
                  try simp only [Act.put, List.setIfInBounds_toArray, List.set_cons_zero, List.set_cons_succ]
                  refine wpAnyH_take (i := 21) (oi := ⟨some 13, .assign (.tmp 123), 4, "owns.go:173", #[⟨20, .data⟩, ⟨20, .chain⟩, ⟨0, .phase⟩, ⟨1, .phase⟩, ⟨2, .phase⟩, ⟨3, .phase⟩, ⟨4, .phase⟩, ⟨5, .phase⟩, ⟨6, .phase⟩, ⟨7, .phase⟩, ⟨8, .phase⟩, ⟨9, .phase⟩, ⟨10, .phase⟩, ⟨11, .phase⟩, ⟨12, .phase⟩, ⟨13, .phase⟩, ⟨14, .phase⟩, ⟨15, .phase⟩, ⟨16, .phase⟩, ⟨17, .phase⟩, ⟨18, .phase⟩, ⟨19, .phase⟩, ⟨20, .phase⟩], none⟩) (v := (.bool true)) rfl (by kernel_rfl) (by kernel_rfl) (by kernel_rfl) (fun _ _ _ h => h) (Or.inl ⟨by rfl, fun _ _ => by rfl⟩) hHeld ?_
                  simp only [Act.put, List.setIfInBounds_toArray, List.set_cons_zero, List.set_cons_succ]
                  refine wpAnyH_done (by kernel_rfl) ?_ _
                  clear s1 s2 s3 hHeld
                  go_wp2_with fail
                  go_roundw
                  case rel =>
                    first
                      | exact ⟨2, _, by decide, by go_num, HT5.out⟩
                      | (repeat apply Exists.intro
                         exact And.intro ⟨2, _, by decide, by go_num, HT5.out⟩ rfl)
                  case measure => simp [intOf]
                · have HT : Hid (Tn w wr lab (.slice (some ⟨gr, 0, none⟩) 10 rc) pb 10 B) := hT
                  clear hT
                  go_wp2_with fail
                  go_roundw
                  case rel => exact ⟨t + 1, _, by omega, by go_num, HT.out⟩
                  case measure => simp [intOf]; omega
            · have hti : ¬ (t : Int) < 10 := by omega
              go_wp2_with fail
              go_ret
              exact ⟨rfl, HT.out.wk.b⟩
end Go.Proofs.Ytpbanjgjljdepaa
