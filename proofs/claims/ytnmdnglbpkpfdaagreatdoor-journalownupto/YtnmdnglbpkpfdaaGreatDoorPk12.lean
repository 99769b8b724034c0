/- annexlaw7.town at 0, 0, 0 once more: where the list of what is wanted lies. -/
import Derived.Test.YtnmdnglbpkpfdaaGreatDoorPk10
import Derived.Test.YtnmdnglbpkpfdaaGreatDoorPk11
namespace Go.Proofs.YtnmdnglbpkpfdaaGreatDoor
open Go.RowKit Go.Maps
set_option maxRecDepth 100000
set_option maxHeartbeats 4000000 in
theorem town0w (w : World) :
    Calls Tryz.prog 10 #[.int .i64 0, .int .i64 0, .int .i64 0] w fun e w' => ∃ tw db N G ov wv xs, e = .returned (.tuple #[.pointer (some ⟨tw, 0, none⟩), .bool true]) ∧ Dev w' db 0 F40 40 N G ∧ N ≤ 1000 ∧ (∀ i, G i → w.heap.size ≤ i) ∧ Tn w' G tw db ov wv (outs 40) xs ∧ xs.length = 10 ∧ (∀ x ∈ xs, x.bs = zB) ∧ w.heap.size ≤ tw ∧ (∀ b, ov.ownBlock = some b → w.heap.size ≤ b) ∧ (∀ b, wv.ownBlock = some b → w.heap.size ≤ b) ∧ Below w.heap.size w w' := by
  obtain ⟨i0, hi, hz0, hz1, hz2⟩ := info_parts Tryz.info3
  obtain ⟨i1, ki, kz0, kz1, kz2⟩ := info_parts Tryz.infoS7
  go_enter Tryz.func10, Tryz.ntmps10
  go_wp2_with fail
  refine (new_good 40 w (by omega) (by omega)).mono ?_
  rintro e w1 ⟨db, rfl, D1, b1⟩
  replace D1 : Dev w1 db 0 S40 40 0 (grow (fun _ => False) w w1) := D1
  obtain ⟨W2, hW2⟩ : ∃ W, w1.alloc (.cells #[.pointer (some ⟨db, 0, none⟩), .int .i64 2, .int .i64 30, .slice none 0 0, .slice none 0 0] 42) = W := ⟨_, rfl⟩
  have b2 : Below w1.heap.size w1 W2 := by rw [← hW2]; exact (Below.refl _ w1).alloc (Nat.le_refl _) _
  have s2 : W2.heap.size = w1.heap.size + 1 := by rw [← hW2]; simp
  have X2 : W2.heap[w1.heap.size]? = some (.cells #[.pointer (some ⟨db, 0, none⟩), .int .i64 2, .int .i64 30, .slice none 0 0, .slice none 0 0] 42) := by rw [← hW2]; exact (MapKept.heap_alloc w1 _).1
  have D2 := D1.below b2
  obtain ⟨tw, htw⟩ : ∃ tw, w1.heap.size = tw := ⟨_, rfl⟩
  rw [htw] at X2
  have q0 : W2.cell? ⟨tw, 0, none⟩ = some (.pointer (some ⟨db, 0, none⟩)) := by simp [World.cell?, X2]
  go_wp2_with fail
  try rw [hW2]
  try rw [htw]
  refine (format40 D2 (by omega)).mono ?_
  rintro e w3 ⟨rfl, D3, t3⟩
  have sb1 := b1.size
  have f1 : ∀ i, grow (fun _ => False) w w1 i → w.heap.size ≤ i ∧ i < w1.heap.size := fun i hi => hi.elim False.elim (fun r => r)
  have X3 := (t3.block tw (heap_lt X2) (fun r => by have := f1 tw r; omega)).trans X2
  have b02 : Below w.heap.size w W2 := b1.trans (b2.mono b1.size)
  have B3 : Below w.heap.size w w3 := b02.trans (t3.below (fun i r => (f1 i r).1) b02.size)
  have f3 : ∀ i, grow (grow (fun _ => False) w w1) W2 w3 i → w.heap.size ≤ i ∧ i ≠ tw := fun i hi => hi.elim (fun r => ⟨(f1 i r).1, by have := f1 i r; omega⟩) (fun r => ⟨by omega, by omega⟩)
  generalize grow (grow (fun _ => False) w w1) W2 w3 = G at D3 f3
  have hGl := D3.lt
  have T3 : Tn w3 G tw db (.slice none 0 0) (.slice none 0 0) (outs 0) [] := ⟨X3, ⟨⟨rfl, Or.inl ⟨rfl, rfl⟩⟩, (fun b hb => by cases hb)⟩, ⟨⟨rfl, Or.inl ⟨rfl, rfl⟩⟩, (fun b hb => by cases hb), (fun x hx => by cases hx)⟩, fun r => (f3 tw r).2 rfl⟩
  have ltw : w.heap.size ≤ tw := by omega
  clear D1 D2 t3 q0 X2 X3 hW2 f1
  go_wp2_with fail
  go_loopw [10] (fun i wr => ∃ (b : Nat), b ≤ 40 ∧ i = .int .i64 b ∧ TR w G tw db b wr) (fun i _ => 40 - (intOf i).toNat)
  case atStart => exact ⟨0, by omega, rfl, _, _, [], D3, T3, rfl, (fun x hx => by cases hx), (fun c hc => by cases hc), (fun c hc => by cases hc), B3⟩
  case round =>
    clear D3 T3 B3
    obtain ⟨b, hb, rfl, ov, wv, xs, D, T, hxl, hxz, lo, lw, B⟩ := hrel
    obtain ⟨w4, hw4⟩ : ∃ w4, w4 = wr := ⟨wr, rfl⟩
    subst hw4
    by_cases hlt : b < 40
    · have hbi : (b : Int) < 40 := by omega
      by_cases ho : outB7 b = true
      · have y3 : w4.cell? ⟨tw, 3, none⟩ = some ov := by simp [World.cell?, T.box]
        have y4 : w4.cell? ⟨tw, 4, none⟩ = some wv := by simp [World.cell?, T.box]
        have r3 := T.o.row
        have ol := outs_le b
        have s4 := B.size
        have tl := heap_lt T.box
        have hD4 := D.lt
        obtain ⟨L, hL⟩ : ∃ L, (outs b).length = L := ⟨_, rfl⟩
        have HL : Hid ((outs b).length = L) := hL
        rw [hL] at r3 ol hxl
        clear hL
        by_cases hb2 : b < 2
        · have hb2i : (b : Int) < 2 := by omega
          go_wp2_with (first
            | (at_builtin; refine wpList_append_lies _ rfl _ _ 40 rfl 0 3 i0 (.int .i64 0) 1 8 Tryz.underlying40 hi hz0 hz1 hz2 rfl (by decide) ov L _ rfl (r3.alloc _) ⟨w4.heap.size, 0, none⟩ 1 1 [.int .i64 (b : Nat)] rfl rfl (cell_one7 _ _ _) (by intro u hu; simp at hu; subst hu; rfl) (by decide) (by unfold maxLen; omega) (by omega) (by omega) _ rfl ?_; intro g5 c5 w5 ho5 hg5 hat5 hlt5; have T5 := T.grow1 tl r3 hg5; have z3 : w5.cell? ⟨tw, 3, none⟩ = some ov := by { simp [World.cell?, T5.box] }; have zf : w5.frozen? ⟨tw, 3, none⟩ = false := by { simp [World.frozen?, T5.box] }))
          have hN6 := T.out HL.out D.lt ho5 hg5 hat5
          obtain ⟨W6, hW6⟩ : ∃ W6, w5.setCell ⟨tw, 3, none⟩ (.slice (some ⟨g5, 0, none⟩) (L + 1) c5) = W6 := ⟨_, rfl⟩
          rw [hW6] at hN6
          try rw [hW6]
          obtain ⟨T6, t6⟩ := hN6
          have y4d : W6.drew.cell? ⟨tw, 4, none⟩ = some wv := by
            have : W6.drew.heap[tw]? = _ := T6.box
            simp [World.cell?, this]
          clear z3 zf T5 y3 y4
          refine wp_region_held_drew (S := fun _ => True) (by kernel_rfl) trivial (fun hHeld => ?_)
          clear hHeld
          refine wpAnyH_take (i := 0) (oi := ⟨some 81, .move (.tmp 8), 25, "free.go:45", #[], none⟩) (v := (.pointer (some ⟨tw, 0, none⟩))) rfl (by kernel_rfl) (by kernel_rfl) (by kernel_rfl) (fun _ _ _ h => h) (Or.inl ⟨by rfl, fun _ _ => by rfl⟩) trivial ?_
          simp only [Act.put, List.setIfInBounds_toArray, List.set_cons_zero, List.set_cons_succ]
          refine wpAnyH_take (i := 1) (oi := ⟨some 82, .move (.tmp 8), 25, "free.go:45", #[], none⟩) (v := (.pointer (some ⟨tw, 0, none⟩))) rfl (by kernel_rfl) (by kernel_rfl) (by kernel_rfl) (fun _ _ _ h => h) (Or.inl ⟨by rfl, fun _ _ => by rfl⟩) trivial ?_
          simp only [Act.put, List.setIfInBounds_toArray, List.set_cons_zero, List.set_cons_succ]
          refine wpAnyH_take (i := 2) (oi := ⟨some 83, .nilCheck (.tmp 82), 0, "free.go:45", #[⟨1, .data⟩], none⟩) (v := (.pointer (some ⟨tw, 0, none⟩))) rfl (by kernel_rfl) (by kernel_rfl) (by kernel_rfl) (fun _ _ _ h => h) (Or.inl ⟨by rfl, fun _ _ => by rfl⟩) trivial ?_
          simp only [Act.put, List.setIfInBounds_toArray, List.set_cons_zero, List.set_cons_succ]
          refine wpAnyH_take (i := 3) (oi := ⟨some 84, .fieldAddr 42 (.tmp 83) 4, 0, "free.go:45", #[⟨2, .data⟩], none⟩) (v := (.pointer (some ⟨tw, 4, none⟩))) rfl (by kernel_rfl) (by kernel_rfl) (by kernel_rfl) (fun _ _ _ h => h) (Or.inl ⟨by rfl, fun _ _ => by rfl⟩) trivial ?_
          simp only [Act.put, List.setIfInBounds_toArray, List.set_cons_zero, List.set_cons_succ]
          refine wpAnyH_ready (rs := [4, 5]) (by kernel_rfl) (by simp) ?_
          refine AllReadyH.cons (o := ⟨some 85, .load 33 (.tmp 84), 33, "free.go:45", #[⟨3, .data⟩], none⟩) rfl (fun KK hK => ?_) (AllReadyH.cons (o := ⟨some 86, .call ⟨.value (.func 28), #[.const (.slice none 0 0)], #[56]⟩, 56, "free.go:45", #[], none⟩) rfl (fun KK hK => ?_) (AllReadyH.nil))
          · go_simp
            refine hK.out _ _ trivial (fun hHeld => ?_)
            clear hK KK hHeld
            try simp only [Act.put, List.setIfInBounds_toArray, List.set_cons_zero, List.set_cons_succ]
            refine wpAnyH_ready (rs := [5]) (by kernel_rfl) (by simp) ?_
            refine AllReadyH.cons (o := ⟨some 86, .call ⟨.value (.func 28), #[.const (.slice none 0 0)], #[56]⟩, 56, "free.go:45", #[], none⟩) rfl (fun KK hK => ?_) (AllReadyH.nil)
            go_simp
            refine (block7 none 0 0 [] W6.drew (by omega) (Lies.nil _)).mono ?_
            rintro e w7 ⟨g7, c7, rfl, o7, b7⟩
            replace b7 := Below.fromDrew b7
            have T7 := T6.kp (Kp.below b7)
            have u4 : w7.cell? ⟨tw, 4, none⟩ = some wv := by simp [World.cell?, T7.box]
            have u4a : ∀ o, (w7.alloc o).cell? ⟨tw, 4, none⟩ = some wv := fun o => by
              have := (Below.heap_alloc w7 o tw (heap_lt T7.box)).trans T7.box
              simp [World.cell?, this]
            go_wp2_with fail
            refine hK.out _ _ trivial (fun hHeld => ?_)
            clear hK KK hHeld
            try simp only [Act.put, List.setIfInBounds_toArray, List.set_cons_zero, List.set_cons_succ]
            refine wpAnyH_ready (rs := [6]) (by kernel_rfl) (by simp) ?_
            refine AllReadyH.cons (o := ⟨some 87, .buildSlice 33 1 #[(0, .tmp 86)], 33, "free.go:45", #[⟨5, .data⟩], none⟩) rfl (fun KK hK => ?_) (AllReadyH.nil)
            go_simp
            refine hK.out _ _ trivial (fun hHeld => ?_)
            clear hK KK hHeld
            try simp only [Act.put, List.setIfInBounds_toArray, List.set_cons_zero, List.set_cons_succ]
            refine wpAnyH_ready (rs := [7]) (by kernel_rfl) (by simp) ?_
            refine AllReadyH.cons (o := ⟨some 88, .call ⟨.builtin .append, #[.tmp 85, .tmp 87], #[33, 33]⟩, 33, "free.go:45", #[⟨4, .data⟩, ⟨6, .data⟩, ⟨5, .chain⟩], none⟩) rfl (fun KK hK => ?_) (AllReadyH.nil)
            have rw7 : w7.ownsRow 0 56 1 wv L (xs.map It.val) := by
              have := T7.x.row
              rwa [hxl] at this
            refine step_append_lies _ rfl _ _ 33 rfl 0 56 i1 (.slice none 0 0) 1 24 Tryz.underlying33 ki kz0 kz1 kz2 rfl (by decide) wv L _ rfl (rw7.alloc _) ⟨w7.heap.size, 0, none⟩ 1 1 [.slice (some ⟨g7, 0, none⟩) 512 c7] rfl rfl (cell_one7 _ _ _) (by intro u hu; simp at hu; subst hu; rfl) (by decide) (by unfold maxLen; omega) (by omega) (by omega) _ rfl ?_
            intro g8 c8 w8 ho8 hg8 hat8 hlt8
            have X8 := T7.grow2 hg8
            have z4 : w8.cell? ⟨tw, 4, none⟩ = some wv := by simp [World.cell?, X8]
            have zf8 : w8.frozen? ⟨tw, 4, none⟩ = false := by simp [World.frozen?, X8]
            refine hK.out _ _ trivial (fun hHeld => ?_)
            clear hK KK hHeld
            try simp only [Act.put, List.setIfInBounds_toArray, List.set_cons_zero, List.set_cons_succ]
            refine wpAnyH_take (i := 8) (oi := ⟨some 89, .nilCheck (.tmp 81), 0, "free.go:45", #[⟨0, .data⟩, ⟨0, .phase⟩, ⟨1, .phase⟩, ⟨2, .phase⟩, ⟨3, .phase⟩, ⟨4, .phase⟩, ⟨5, .phase⟩, ⟨6, .phase⟩, ⟨7, .phase⟩], none⟩) (v := (.pointer (some ⟨tw, 0, none⟩))) rfl (by kernel_rfl) (by kernel_rfl) (by kernel_rfl) (fun _ _ _ h => h) (Or.inl ⟨by rfl, fun _ _ => by rfl⟩) trivial ?_
            simp only [Act.put, List.setIfInBounds_toArray, List.set_cons_zero, List.set_cons_succ]
            refine wpAnyH_take (i := 9) (oi := ⟨some 90, .fieldAddr 42 (.tmp 89) 4, 0, "free.go:45", #[⟨8, .data⟩, ⟨0, .phase⟩, ⟨1, .phase⟩, ⟨2, .phase⟩, ⟨3, .phase⟩, ⟨4, .phase⟩, ⟨5, .phase⟩, ⟨6, .phase⟩, ⟨7, .phase⟩], none⟩) (v := (.pointer (some ⟨tw, 4, none⟩))) rfl (by kernel_rfl) (by kernel_rfl) (by kernel_rfl) (fun _ _ _ h => h) (Or.inl ⟨by rfl, fun _ _ => by rfl⟩) trivial ?_
            simp only [Act.put, List.setIfInBounds_toArray, List.set_cons_zero, List.set_cons_succ]
            refine wpAnyH_ready (rs := [10]) (by kernel_rfl) (by simp) ?_
            refine AllReadyH.cons (o := ⟨none, .store 33 (.tmp 90) (.tmp 88), 0, "free.go:45", #[⟨9, .data⟩, ⟨7, .data⟩, ⟨7, .chain⟩, ⟨0, .phase⟩, ⟨1, .phase⟩, ⟨2, .phase⟩, ⟨3, .phase⟩, ⟨4, .phase⟩, ⟨5, .phase⟩, ⟨6, .phase⟩, ⟨7, .phase⟩], none⟩) rfl (fun KK hK => ?_) (AllReadyH.nil)
            go_simp
            refine hK.out _ _ trivial (fun hHeld => ?_)
            clear hK KK hHeld
            try simp only [Act.put, List.setIfInBounds_toArray, List.set_cons_zero, List.set_cons_succ]
            refine wpAnyH_done (by kernel_rfl) ?_ _
            have HE := town_end D T B ltw lo lw ho HL.out hxl hxz hat5 T6 t6 o7 b7 ho8 hg8 hat8
            obtain ⟨W9, hW9⟩ : ∃ W9, w8.setCell ⟨tw, 4, none⟩ (.slice (some ⟨g8, 0, none⟩) (L + 1) c8) = W9 := ⟨_, rfl⟩
            rw [hW9] at HE
            try rw [hW9]
            clear hW9 z4 zf8 X8 ho8 hg8 hat8 hlt8 rw7 u4 u4a T7 o7 b7 T6 t6 hW6 y4d ho5 hg5 hat5 hlt5 T D
            go_wp2_with fail
            go_roundw
            case rel => exact ⟨b + 1, by omega, by simp, HE⟩
            case measure => simp [intOf]; omega
          · go_simp
            refine (block7 none 0 0 [] W6.drew (by omega) (Lies.nil _)).mono ?_
            rintro e w7 ⟨g7, c7, rfl, o7, b7⟩
            replace b7 := Below.fromDrew b7
            have T7 := T6.kp (Kp.below b7)
            have u4 : w7.cell? ⟨tw, 4, none⟩ = some wv := by simp [World.cell?, T7.box]
            have u4a : ∀ o, (w7.alloc o).cell? ⟨tw, 4, none⟩ = some wv := fun o => by
              have := (Below.heap_alloc w7 o tw (heap_lt T7.box)).trans T7.box
              simp [World.cell?, this]
            go_wp2_with fail
            refine hK.out _ _ trivial (fun hHeld => ?_)
            clear hK KK hHeld
            try simp only [Act.put, List.setIfInBounds_toArray, List.set_cons_zero, List.set_cons_succ]
            refine wpAnyH_ready (rs := [4, 6]) (by kernel_rfl) (by simp) ?_
            refine AllReadyH.cons (o := ⟨some 85, .load 33 (.tmp 84), 33, "free.go:45", #[⟨3, .data⟩], none⟩) rfl (fun KK hK => ?_) (AllReadyH.cons (o := ⟨some 87, .buildSlice 33 1 #[(0, .tmp 86)], 33, "free.go:45", #[⟨5, .data⟩], none⟩) rfl (fun KK hK => ?_) (AllReadyH.nil))
            · go_simp
              refine hK.out _ _ trivial (fun hHeld => ?_)
              clear hK KK hHeld
              try simp only [Act.put, List.setIfInBounds_toArray, List.set_cons_zero, List.set_cons_succ]
              refine wpAnyH_ready (rs := [6]) (by kernel_rfl) (by simp) ?_
              refine AllReadyH.cons (o := ⟨some 87, .buildSlice 33 1 #[(0, .tmp 86)], 33, "free.go:45", #[⟨5, .data⟩], none⟩) rfl (fun KK hK => ?_) (AllReadyH.nil)
              go_simp
              refine hK.out _ _ trivial (fun hHeld => ?_)
              clear hK KK hHeld
              try simp only [Act.put, List.setIfInBounds_toArray, List.set_cons_zero, List.set_cons_succ]
              refine wpAnyH_ready (rs := [7]) (by kernel_rfl) (by simp) ?_
              refine AllReadyH.cons (o := ⟨some 88, .call ⟨.builtin .append, #[.tmp 85, .tmp 87], #[33, 33]⟩, 33, "free.go:45", #[⟨4, .data⟩, ⟨6, .data⟩, ⟨5, .chain⟩], none⟩) rfl (fun KK hK => ?_) (AllReadyH.nil)
              have rw7 : w7.ownsRow 0 56 1 wv L (xs.map It.val) := by
                have := T7.x.row
                rwa [hxl] at this
              refine step_append_lies _ rfl _ _ 33 rfl 0 56 i1 (.slice none 0 0) 1 24 Tryz.underlying33 ki kz0 kz1 kz2 rfl (by decide) wv L _ rfl (rw7.alloc _) ⟨w7.heap.size, 0, none⟩ 1 1 [.slice (some ⟨g7, 0, none⟩) 512 c7] rfl rfl (cell_one7 _ _ _) (by intro u hu; simp at hu; subst hu; rfl) (by decide) (by unfold maxLen; omega) (by omega) (by omega) _ rfl ?_
              intro g8 c8 w8 ho8 hg8 hat8 hlt8
              have X8 := T7.grow2 hg8
              have z4 : w8.cell? ⟨tw, 4, none⟩ = some wv := by simp [World.cell?, X8]
              have zf8 : w8.frozen? ⟨tw, 4, none⟩ = false := by simp [World.frozen?, X8]
              refine hK.out _ _ trivial (fun hHeld => ?_)
              clear hK KK hHeld
              try simp only [Act.put, List.setIfInBounds_toArray, List.set_cons_zero, List.set_cons_succ]
              refine wpAnyH_take (i := 8) (oi := ⟨some 89, .nilCheck (.tmp 81), 0, "free.go:45", #[⟨0, .data⟩, ⟨0, .phase⟩, ⟨1, .phase⟩, ⟨2, .phase⟩, ⟨3, .phase⟩, ⟨4, .phase⟩, ⟨5, .phase⟩, ⟨6, .phase⟩, ⟨7, .phase⟩], none⟩) (v := (.pointer (some ⟨tw, 0, none⟩))) rfl (by kernel_rfl) (by kernel_rfl) (by kernel_rfl) (fun _ _ _ h => h) (Or.inl ⟨by rfl, fun _ _ => by rfl⟩) trivial ?_
              simp only [Act.put, List.setIfInBounds_toArray, List.set_cons_zero, List.set_cons_succ]
              refine wpAnyH_take (i := 9) (oi := ⟨some 90, .fieldAddr 42 (.tmp 89) 4, 0, "free.go:45", #[⟨8, .data⟩, ⟨0, .phase⟩, ⟨1, .phase⟩, ⟨2, .phase⟩, ⟨3, .phase⟩, ⟨4, .phase⟩, ⟨5, .phase⟩, ⟨6, .phase⟩, ⟨7, .phase⟩], none⟩) (v := (.pointer (some ⟨tw, 4, none⟩))) rfl (by kernel_rfl) (by kernel_rfl) (by kernel_rfl) (fun _ _ _ h => h) (Or.inl ⟨by rfl, fun _ _ => by rfl⟩) trivial ?_
              simp only [Act.put, List.setIfInBounds_toArray, List.set_cons_zero, List.set_cons_succ]
              refine wpAnyH_ready (rs := [10]) (by kernel_rfl) (by simp) ?_
              refine AllReadyH.cons (o := ⟨none, .store 33 (.tmp 90) (.tmp 88), 0, "free.go:45", #[⟨9, .data⟩, ⟨7, .data⟩, ⟨7, .chain⟩, ⟨0, .phase⟩, ⟨1, .phase⟩, ⟨2, .phase⟩, ⟨3, .phase⟩, ⟨4, .phase⟩, ⟨5, .phase⟩, ⟨6, .phase⟩, ⟨7, .phase⟩], none⟩) rfl (fun KK hK => ?_) (AllReadyH.nil)
              go_simp
              refine hK.out _ _ trivial (fun hHeld => ?_)
              clear hK KK hHeld
              try simp only [Act.put, List.setIfInBounds_toArray, List.set_cons_zero, List.set_cons_succ]
              refine wpAnyH_done (by kernel_rfl) ?_ _
              have HE := town_end D T B ltw lo lw ho HL.out hxl hxz hat5 T6 t6 o7 b7 ho8 hg8 hat8
              obtain ⟨W9, hW9⟩ : ∃ W9, w8.setCell ⟨tw, 4, none⟩ (.slice (some ⟨g8, 0, none⟩) (L + 1) c8) = W9 := ⟨_, rfl⟩
              rw [hW9] at HE
              try rw [hW9]
              clear hW9 z4 zf8 X8 ho8 hg8 hat8 hlt8 rw7 u4 u4a T7 o7 b7 T6 t6 hW6 y4d ho5 hg5 hat5 hlt5 T D
              go_wp2_with fail
              go_roundw
              case rel => exact ⟨b + 1, by omega, by simp, HE⟩
              case measure => simp [intOf]; omega
            · go_simp
              refine hK.out _ _ trivial (fun hHeld => ?_)
              clear hK KK hHeld
              try simp only [Act.put, List.setIfInBounds_toArray, List.set_cons_zero, List.set_cons_succ]
              refine wpAnyH_ready (rs := [4]) (by kernel_rfl) (by simp) ?_
              refine AllReadyH.cons (o := ⟨some 85, .load 33 (.tmp 84), 33, "free.go:45", #[⟨3, .data⟩], none⟩) rfl (fun KK hK => ?_) (AllReadyH.nil)
              go_simp
              refine hK.out _ _ trivial (fun hHeld => ?_)
              clear hK KK hHeld
              try simp only [Act.put, List.setIfInBounds_toArray, List.set_cons_zero, List.set_cons_succ]
              refine wpAnyH_ready (rs := [7]) (by kernel_rfl) (by simp) ?_
              refine AllReadyH.cons (o := ⟨some 88, .call ⟨.builtin .append, #[.tmp 85, .tmp 87], #[33, 33]⟩, 33, "free.go:45", #[⟨4, .data⟩, ⟨6, .data⟩, ⟨5, .chain⟩], none⟩) rfl (fun KK hK => ?_) (AllReadyH.nil)
              have rw7 : w7.ownsRow 0 56 1 wv L (xs.map It.val) := by
                have := T7.x.row
                rwa [hxl] at this
              refine step_append_lies _ rfl _ _ 33 rfl 0 56 i1 (.slice none 0 0) 1 24 Tryz.underlying33 ki kz0 kz1 kz2 rfl (by decide) wv L _ rfl (rw7.alloc _) ⟨w7.heap.size, 0, none⟩ 1 1 [.slice (some ⟨g7, 0, none⟩) 512 c7] rfl rfl (cell_one7 _ _ _) (by intro u hu; simp at hu; subst hu; rfl) (by decide) (by unfold maxLen; omega) (by omega) (by omega) _ rfl ?_
              intro g8 c8 w8 ho8 hg8 hat8 hlt8
              have X8 := T7.grow2 hg8
              have z4 : w8.cell? ⟨tw, 4, none⟩ = some wv := by simp [World.cell?, X8]
              have zf8 : w8.frozen? ⟨tw, 4, none⟩ = false := by simp [World.frozen?, X8]
              refine hK.out _ _ trivial (fun hHeld => ?_)
              clear hK KK hHeld
              try simp only [Act.put, List.setIfInBounds_toArray, List.set_cons_zero, List.set_cons_succ]
              refine wpAnyH_take (i := 8) (oi := ⟨some 89, .nilCheck (.tmp 81), 0, "free.go:45", #[⟨0, .data⟩, ⟨0, .phase⟩, ⟨1, .phase⟩, ⟨2, .phase⟩, ⟨3, .phase⟩, ⟨4, .phase⟩, ⟨5, .phase⟩, ⟨6, .phase⟩, ⟨7, .phase⟩], none⟩) (v := (.pointer (some ⟨tw, 0, none⟩))) rfl (by kernel_rfl) (by kernel_rfl) (by kernel_rfl) (fun _ _ _ h => h) (Or.inl ⟨by rfl, fun _ _ => by rfl⟩) trivial ?_
              simp only [Act.put, List.setIfInBounds_toArray, List.set_cons_zero, List.set_cons_succ]
              refine wpAnyH_take (i := 9) (oi := ⟨some 90, .fieldAddr 42 (.tmp 89) 4, 0, "free.go:45", #[⟨8, .data⟩, ⟨0, .phase⟩, ⟨1, .phase⟩, ⟨2, .phase⟩, ⟨3, .phase⟩, ⟨4, .phase⟩, ⟨5, .phase⟩, ⟨6, .phase⟩, ⟨7, .phase⟩], none⟩) (v := (.pointer (some ⟨tw, 4, none⟩))) rfl (by kernel_rfl) (by kernel_rfl) (by kernel_rfl) (fun _ _ _ h => h) (Or.inl ⟨by rfl, fun _ _ => by rfl⟩) trivial ?_
              simp only [Act.put, List.setIfInBounds_toArray, List.set_cons_zero, List.set_cons_succ]
              refine wpAnyH_ready (rs := [10]) (by kernel_rfl) (by simp) ?_
              refine AllReadyH.cons (o := ⟨none, .store 33 (.tmp 90) (.tmp 88), 0, "free.go:45", #[⟨9, .data⟩, ⟨7, .data⟩, ⟨7, .chain⟩, ⟨0, .phase⟩, ⟨1, .phase⟩, ⟨2, .phase⟩, ⟨3, .phase⟩, ⟨4, .phase⟩, ⟨5, .phase⟩, ⟨6, .phase⟩, ⟨7, .phase⟩], none⟩) rfl (fun KK hK => ?_) (AllReadyH.nil)
              go_simp
              refine hK.out _ _ trivial (fun hHeld => ?_)
              clear hK KK hHeld
              try simp only [Act.put, List.setIfInBounds_toArray, List.set_cons_zero, List.set_cons_succ]
              refine wpAnyH_done (by kernel_rfl) ?_ _
              have HE := town_end D T B ltw lo lw ho HL.out hxl hxz hat5 T6 t6 o7 b7 ho8 hg8 hat8
              obtain ⟨W9, hW9⟩ : ∃ W9, w8.setCell ⟨tw, 4, none⟩ (.slice (some ⟨g8, 0, none⟩) (L + 1) c8) = W9 := ⟨_, rfl⟩
              rw [hW9] at HE
              try rw [hW9]
              clear hW9 z4 zf8 X8 ho8 hg8 hat8 hlt8 rw7 u4 u4a T7 o7 b7 T6 t6 hW6 y4d ho5 hg5 hat5 hlt5 T D
              go_wp2_with fail
              go_roundw
              case rel => exact ⟨b + 1, by omega, by simp, HE⟩
              case measure => simp [intOf]; omega
        · have h32 : 32 ≤ b := by
            simp [outB7] at ho; omega
          have hb2i : ¬ (b : Int) < 2 := by omega
          have h32i : (32 : Int) ≤ b := by omega
          go_wp2_with (first
            | (at_builtin; refine wpList_append_lies _ rfl _ _ 40 rfl 0 3 i0 (.int .i64 0) 1 8 Tryz.underlying40 hi hz0 hz1 hz2 rfl (by decide) ov L _ rfl (r3.alloc _) ⟨w4.heap.size, 0, none⟩ 1 1 [.int .i64 (b : Nat)] rfl rfl (cell_one7 _ _ _) (by intro u hu; simp at hu; subst hu; rfl) (by decide) (by unfold maxLen; omega) (by omega) (by omega) _ rfl ?_; intro g5 c5 w5 ho5 hg5 hat5 hlt5; have T5 := T.grow1 tl r3 hg5; have z3 : w5.cell? ⟨tw, 3, none⟩ = some ov := by { simp [World.cell?, T5.box] }; have zf : w5.frozen? ⟨tw, 3, none⟩ = false := by { simp [World.frozen?, T5.box] }))
          have hN6 := T.out HL.out D.lt ho5 hg5 hat5
          obtain ⟨W6, hW6⟩ : ∃ W6, w5.setCell ⟨tw, 3, none⟩ (.slice (some ⟨g5, 0, none⟩) (L + 1) c5) = W6 := ⟨_, rfl⟩
          rw [hW6] at hN6
          try rw [hW6]
          obtain ⟨T6, t6⟩ := hN6
          have y4d : W6.drew.cell? ⟨tw, 4, none⟩ = some wv := by
            have : W6.drew.heap[tw]? = _ := T6.box
            simp [World.cell?, this]
          clear z3 zf T5 y3 y4
          refine wp_region_held_drew (S := fun _ => True) (by kernel_rfl) trivial (fun hHeld => ?_)
          clear hHeld
          refine wpAnyH_take (i := 0) (oi := ⟨some 81, .move (.tmp 8), 25, "free.go:45", #[], none⟩) (v := (.pointer (some ⟨tw, 0, none⟩))) rfl (by kernel_rfl) (by kernel_rfl) (by kernel_rfl) (fun _ _ _ h => h) (Or.inl ⟨by rfl, fun _ _ => by rfl⟩) trivial ?_
          simp only [Act.put, List.setIfInBounds_toArray, List.set_cons_zero, List.set_cons_succ]
          refine wpAnyH_take (i := 1) (oi := ⟨some 82, .move (.tmp 8), 25, "free.go:45", #[], none⟩) (v := (.pointer (some ⟨tw, 0, none⟩))) rfl (by kernel_rfl) (by kernel_rfl) (by kernel_rfl) (fun _ _ _ h => h) (Or.inl ⟨by rfl, fun _ _ => by rfl⟩) trivial ?_
          simp only [Act.put, List.setIfInBounds_toArray, List.set_cons_zero, List.set_cons_succ]
          refine wpAnyH_take (i := 2) (oi := ⟨some 83, .nilCheck (.tmp 82), 0, "free.go:45", #[⟨1, .data⟩], none⟩) (v := (.pointer (some ⟨tw, 0, none⟩))) rfl (by kernel_rfl) (by kernel_rfl) (by kernel_rfl) (fun _ _ _ h => h) (Or.inl ⟨by rfl, fun _ _ => by rfl⟩) trivial ?_
          simp only [Act.put, List.setIfInBounds_toArray, List.set_cons_zero, List.set_cons_succ]
          refine wpAnyH_take (i := 3) (oi := ⟨some 84, .fieldAddr 42 (.tmp 83) 4, 0, "free.go:45", #[⟨2, .data⟩], none⟩) (v := (.pointer (some ⟨tw, 4, none⟩))) rfl (by kernel_rfl) (by kernel_rfl) (by kernel_rfl) (fun _ _ _ h => h) (Or.inl ⟨by rfl, fun _ _ => by rfl⟩) trivial ?_
          simp only [Act.put, List.setIfInBounds_toArray, List.set_cons_zero, List.set_cons_succ]
          refine wpAnyH_ready (rs := [4, 5]) (by kernel_rfl) (by simp) ?_
          refine AllReadyH.cons (o := ⟨some 85, .load 33 (.tmp 84), 33, "free.go:45", #[⟨3, .data⟩], none⟩) rfl (fun KK hK => ?_) (AllReadyH.cons (o := ⟨some 86, .call ⟨.value (.func 28), #[.const (.slice none 0 0)], #[56]⟩, 56, "free.go:45", #[], none⟩) rfl (fun KK hK => ?_) (AllReadyH.nil))
          · go_simp
            refine hK.out _ _ trivial (fun hHeld => ?_)
            clear hK KK hHeld
            try simp only [Act.put, List.setIfInBounds_toArray, List.set_cons_zero, List.set_cons_succ]
            refine wpAnyH_ready (rs := [5]) (by kernel_rfl) (by simp) ?_
            refine AllReadyH.cons (o := ⟨some 86, .call ⟨.value (.func 28), #[.const (.slice none 0 0)], #[56]⟩, 56, "free.go:45", #[], none⟩) rfl (fun KK hK => ?_) (AllReadyH.nil)
            go_simp
            refine (block7 none 0 0 [] W6.drew (by omega) (Lies.nil _)).mono ?_
            rintro e w7 ⟨g7, c7, rfl, o7, b7⟩
            replace b7 := Below.fromDrew b7
            have T7 := T6.kp (Kp.below b7)
            have u4 : w7.cell? ⟨tw, 4, none⟩ = some wv := by simp [World.cell?, T7.box]
            have u4a : ∀ o, (w7.alloc o).cell? ⟨tw, 4, none⟩ = some wv := fun o => by
              have := (Below.heap_alloc w7 o tw (heap_lt T7.box)).trans T7.box
              simp [World.cell?, this]
            go_wp2_with fail
            refine hK.out _ _ trivial (fun hHeld => ?_)
            clear hK KK hHeld
            try simp only [Act.put, List.setIfInBounds_toArray, List.set_cons_zero, List.set_cons_succ]
            refine wpAnyH_ready (rs := [6]) (by kernel_rfl) (by simp) ?_
            refine AllReadyH.cons (o := ⟨some 87, .buildSlice 33 1 #[(0, .tmp 86)], 33, "free.go:45", #[⟨5, .data⟩], none⟩) rfl (fun KK hK => ?_) (AllReadyH.nil)
            go_simp
            refine hK.out _ _ trivial (fun hHeld => ?_)
            clear hK KK hHeld
            try simp only [Act.put, List.setIfInBounds_toArray, List.set_cons_zero, List.set_cons_succ]
            refine wpAnyH_ready (rs := [7]) (by kernel_rfl) (by simp) ?_
            refine AllReadyH.cons (o := ⟨some 88, .call ⟨.builtin .append, #[.tmp 85, .tmp 87], #[33, 33]⟩, 33, "free.go:45", #[⟨4, .data⟩, ⟨6, .data⟩, ⟨5, .chain⟩], none⟩) rfl (fun KK hK => ?_) (AllReadyH.nil)
            have rw7 : w7.ownsRow 0 56 1 wv L (xs.map It.val) := by
              have := T7.x.row
              rwa [hxl] at this
            refine step_append_lies _ rfl _ _ 33 rfl 0 56 i1 (.slice none 0 0) 1 24 Tryz.underlying33 ki kz0 kz1 kz2 rfl (by decide) wv L _ rfl (rw7.alloc _) ⟨w7.heap.size, 0, none⟩ 1 1 [.slice (some ⟨g7, 0, none⟩) 512 c7] rfl rfl (cell_one7 _ _ _) (by intro u hu; simp at hu; subst hu; rfl) (by decide) (by unfold maxLen; omega) (by omega) (by omega) _ rfl ?_
            intro g8 c8 w8 ho8 hg8 hat8 hlt8
            have X8 := T7.grow2 hg8
            have z4 : w8.cell? ⟨tw, 4, none⟩ = some wv := by simp [World.cell?, X8]
            have zf8 : w8.frozen? ⟨tw, 4, none⟩ = false := by simp [World.frozen?, X8]
            refine hK.out _ _ trivial (fun hHeld => ?_)
            clear hK KK hHeld
            try simp only [Act.put, List.setIfInBounds_toArray, List.set_cons_zero, List.set_cons_succ]
            refine wpAnyH_take (i := 8) (oi := ⟨some 89, .nilCheck (.tmp 81), 0, "free.go:45", #[⟨0, .data⟩, ⟨0, .phase⟩, ⟨1, .phase⟩, ⟨2, .phase⟩, ⟨3, .phase⟩, ⟨4, .phase⟩, ⟨5, .phase⟩, ⟨6, .phase⟩, ⟨7, .phase⟩], none⟩) (v := (.pointer (some ⟨tw, 0, none⟩))) rfl (by kernel_rfl) (by kernel_rfl) (by kernel_rfl) (fun _ _ _ h => h) (Or.inl ⟨by rfl, fun _ _ => by rfl⟩) trivial ?_
            simp only [Act.put, List.setIfInBounds_toArray, List.set_cons_zero, List.set_cons_succ]
            refine wpAnyH_take (i := 9) (oi := ⟨some 90, .fieldAddr 42 (.tmp 89) 4, 0, "free.go:45", #[⟨8, .data⟩, ⟨0, .phase⟩, ⟨1, .phase⟩, ⟨2, .phase⟩, ⟨3, .phase⟩, ⟨4, .phase⟩, ⟨5, .phase⟩, ⟨6, .phase⟩, ⟨7, .phase⟩], none⟩) (v := (.pointer (some ⟨tw, 4, none⟩))) rfl (by kernel_rfl) (by kernel_rfl) (by kernel_rfl) (fun _ _ _ h => h) (Or.inl ⟨by rfl, fun _ _ => by rfl⟩) trivial ?_
            simp only [Act.put, List.setIfInBounds_toArray, List.set_cons_zero, List.set_cons_succ]
            refine wpAnyH_ready (rs := [10]) (by kernel_rfl) (by simp) ?_
            refine AllReadyH.cons (o := ⟨none, .store 33 (.tmp 90) (.tmp 88), 0, "free.go:45", #[⟨9, .data⟩, ⟨7, .data⟩, ⟨7, .chain⟩, ⟨0, .phase⟩, ⟨1, .phase⟩, ⟨2, .phase⟩, ⟨3, .phase⟩, ⟨4, .phase⟩, ⟨5, .phase⟩, ⟨6, .phase⟩, ⟨7, .phase⟩], none⟩) rfl (fun KK hK => ?_) (AllReadyH.nil)
            go_simp
            refine hK.out _ _ trivial (fun hHeld => ?_)
            clear hK KK hHeld
            try simp only [Act.put, List.setIfInBounds_toArray, List.set_cons_zero, List.set_cons_succ]
            refine wpAnyH_done (by kernel_rfl) ?_ _
            have HE := town_end D T B ltw lo lw ho HL.out hxl hxz hat5 T6 t6 o7 b7 ho8 hg8 hat8
            obtain ⟨W9, hW9⟩ : ∃ W9, w8.setCell ⟨tw, 4, none⟩ (.slice (some ⟨g8, 0, none⟩) (L + 1) c8) = W9 := ⟨_, rfl⟩
            rw [hW9] at HE
            try rw [hW9]
            clear hW9 z4 zf8 X8 ho8 hg8 hat8 hlt8 rw7 u4 u4a T7 o7 b7 T6 t6 hW6 y4d ho5 hg5 hat5 hlt5 T D
            go_wp2_with fail
            go_roundw
            case rel => exact ⟨b + 1, by omega, by simp, HE⟩
            case measure => simp [intOf]; omega
          · go_simp
            refine (block7 none 0 0 [] W6.drew (by omega) (Lies.nil _)).mono ?_
            rintro e w7 ⟨g7, c7, rfl, o7, b7⟩
            replace b7 := Below.fromDrew b7
            have T7 := T6.kp (Kp.below b7)
            have u4 : w7.cell? ⟨tw, 4, none⟩ = some wv := by simp [World.cell?, T7.box]
            have u4a : ∀ o, (w7.alloc o).cell? ⟨tw, 4, none⟩ = some wv := fun o => by
              have := (Below.heap_alloc w7 o tw (heap_lt T7.box)).trans T7.box
              simp [World.cell?, this]
            go_wp2_with fail
            refine hK.out _ _ trivial (fun hHeld => ?_)
            clear hK KK hHeld
            try simp only [Act.put, List.setIfInBounds_toArray, List.set_cons_zero, List.set_cons_succ]
            refine wpAnyH_ready (rs := [4, 6]) (by kernel_rfl) (by simp) ?_
            refine AllReadyH.cons (o := ⟨some 85, .load 33 (.tmp 84), 33, "free.go:45", #[⟨3, .data⟩], none⟩) rfl (fun KK hK => ?_) (AllReadyH.cons (o := ⟨some 87, .buildSlice 33 1 #[(0, .tmp 86)], 33, "free.go:45", #[⟨5, .data⟩], none⟩) rfl (fun KK hK => ?_) (AllReadyH.nil))
            · go_simp
              refine hK.out _ _ trivial (fun hHeld => ?_)
              clear hK KK hHeld
              try simp only [Act.put, List.setIfInBounds_toArray, List.set_cons_zero, List.set_cons_succ]
              refine wpAnyH_ready (rs := [6]) (by kernel_rfl) (by simp) ?_
              refine AllReadyH.cons (o := ⟨some 87, .buildSlice 33 1 #[(0, .tmp 86)], 33, "free.go:45", #[⟨5, .data⟩], none⟩) rfl (fun KK hK => ?_) (AllReadyH.nil)
              go_simp
              refine hK.out _ _ trivial (fun hHeld => ?_)
              clear hK KK hHeld
              try simp only [Act.put, List.setIfInBounds_toArray, List.set_cons_zero, List.set_cons_succ]
              refine wpAnyH_ready (rs := [7]) (by kernel_rfl) (by simp) ?_
              refine AllReadyH.cons (o := ⟨some 88, .call ⟨.builtin .append, #[.tmp 85, .tmp 87], #[33, 33]⟩, 33, "free.go:45", #[⟨4, .data⟩, ⟨6, .data⟩, ⟨5, .chain⟩], none⟩) rfl (fun KK hK => ?_) (AllReadyH.nil)
              have rw7 : w7.ownsRow 0 56 1 wv L (xs.map It.val) := by
                have := T7.x.row
                rwa [hxl] at this
              refine step_append_lies _ rfl _ _ 33 rfl 0 56 i1 (.slice none 0 0) 1 24 Tryz.underlying33 ki kz0 kz1 kz2 rfl (by decide) wv L _ rfl (rw7.alloc _) ⟨w7.heap.size, 0, none⟩ 1 1 [.slice (some ⟨g7, 0, none⟩) 512 c7] rfl rfl (cell_one7 _ _ _) (by intro u hu; simp at hu; subst hu; rfl) (by decide) (by unfold maxLen; omega) (by omega) (by omega) _ rfl ?_
              intro g8 c8 w8 ho8 hg8 hat8 hlt8
              have X8 := T7.grow2 hg8
              have z4 : w8.cell? ⟨tw, 4, none⟩ = some wv := by simp [World.cell?, X8]
              have zf8 : w8.frozen? ⟨tw, 4, none⟩ = false := by simp [World.frozen?, X8]
              refine hK.out _ _ trivial (fun hHeld => ?_)
              clear hK KK hHeld
              try simp only [Act.put, List.setIfInBounds_toArray, List.set_cons_zero, List.set_cons_succ]
              refine wpAnyH_take (i := 8) (oi := ⟨some 89, .nilCheck (.tmp 81), 0, "free.go:45", #[⟨0, .data⟩, ⟨0, .phase⟩, ⟨1, .phase⟩, ⟨2, .phase⟩, ⟨3, .phase⟩, ⟨4, .phase⟩, ⟨5, .phase⟩, ⟨6, .phase⟩, ⟨7, .phase⟩], none⟩) (v := (.pointer (some ⟨tw, 0, none⟩))) rfl (by kernel_rfl) (by kernel_rfl) (by kernel_rfl) (fun _ _ _ h => h) (Or.inl ⟨by rfl, fun _ _ => by rfl⟩) trivial ?_
              simp only [Act.put, List.setIfInBounds_toArray, List.set_cons_zero, List.set_cons_succ]
              refine wpAnyH_take (i := 9) (oi := ⟨some 90, .fieldAddr 42 (.tmp 89) 4, 0, "free.go:45", #[⟨8, .data⟩, ⟨0, .phase⟩, ⟨1, .phase⟩, ⟨2, .phase⟩, ⟨3, .phase⟩, ⟨4, .phase⟩, ⟨5, .phase⟩, ⟨6, .phase⟩, ⟨7, .phase⟩], none⟩) (v := (.pointer (some ⟨tw, 4, none⟩))) rfl (by kernel_rfl) (by kernel_rfl) (by kernel_rfl) (fun _ _ _ h => h) (Or.inl ⟨by rfl, fun _ _ => by rfl⟩) trivial ?_
              simp only [Act.put, List.setIfInBounds_toArray, List.set_cons_zero, List.set_cons_succ]
              refine wpAnyH_ready (rs := [10]) (by kernel_rfl) (by simp) ?_
              refine AllReadyH.cons (o := ⟨none, .store 33 (.tmp 90) (.tmp 88), 0, "free.go:45", #[⟨9, .data⟩, ⟨7, .data⟩, ⟨7, .chain⟩, ⟨0, .phase⟩, ⟨1, .phase⟩, ⟨2, .phase⟩, ⟨3, .phase⟩, ⟨4, .phase⟩, ⟨5, .phase⟩, ⟨6, .phase⟩, ⟨7, .phase⟩], none⟩) rfl (fun KK hK => ?_) (AllReadyH.nil)
              go_simp
              refine hK.out _ _ trivial (fun hHeld => ?_)
              clear hK KK hHeld
              try simp only [Act.put, List.setIfInBounds_toArray, List.set_cons_zero, List.set_cons_succ]
              refine wpAnyH_done (by kernel_rfl) ?_ _
              have HE := town_end D T B ltw lo lw ho HL.out hxl hxz hat5 T6 t6 o7 b7 ho8 hg8 hat8
              obtain ⟨W9, hW9⟩ : ∃ W9, w8.setCell ⟨tw, 4, none⟩ (.slice (some ⟨g8, 0, none⟩) (L + 1) c8) = W9 := ⟨_, rfl⟩
              rw [hW9] at HE
              try rw [hW9]
              clear hW9 z4 zf8 X8 ho8 hg8 hat8 hlt8 rw7 u4 u4a T7 o7 b7 T6 t6 hW6 y4d ho5 hg5 hat5 hlt5 T D
              go_wp2_with fail
              go_roundw
              case rel => exact ⟨b + 1, by omega, by simp, HE⟩
              case measure => simp [intOf]; omega
            · go_simp
              refine hK.out _ _ trivial (fun hHeld => ?_)
              clear hK KK hHeld
              try simp only [Act.put, List.setIfInBounds_toArray, List.set_cons_zero, List.set_cons_succ]
              refine wpAnyH_ready (rs := [4]) (by kernel_rfl) (by simp) ?_
              refine AllReadyH.cons (o := ⟨some 85, .load 33 (.tmp 84), 33, "free.go:45", #[⟨3, .data⟩], none⟩) rfl (fun KK hK => ?_) (AllReadyH.nil)
              go_simp
              refine hK.out _ _ trivial (fun hHeld => ?_)
              clear hK KK hHeld
              try simp only [Act.put, List.setIfInBounds_toArray, List.set_cons_zero, List.set_cons_succ]
              refine wpAnyH_ready (rs := [7]) (by kernel_rfl) (by simp) ?_
              refine AllReadyH.cons (o := ⟨some 88, .call ⟨.builtin .append, #[.tmp 85, .tmp 87], #[33, 33]⟩, 33, "free.go:45", #[⟨4, .data⟩, ⟨6, .data⟩, ⟨5, .chain⟩], none⟩) rfl (fun KK hK => ?_) (AllReadyH.nil)
              have rw7 : w7.ownsRow 0 56 1 wv L (xs.map It.val) := by
                have := T7.x.row
                rwa [hxl] at this
              refine step_append_lies _ rfl _ _ 33 rfl 0 56 i1 (.slice none 0 0) 1 24 Tryz.underlying33 ki kz0 kz1 kz2 rfl (by decide) wv L _ rfl (rw7.alloc _) ⟨w7.heap.size, 0, none⟩ 1 1 [.slice (some ⟨g7, 0, none⟩) 512 c7] rfl rfl (cell_one7 _ _ _) (by intro u hu; simp at hu; subst hu; rfl) (by decide) (by unfold maxLen; omega) (by omega) (by omega) _ rfl ?_
              intro g8 c8 w8 ho8 hg8 hat8 hlt8
              have X8 := T7.grow2 hg8
              have z4 : w8.cell? ⟨tw, 4, none⟩ = some wv := by simp [World.cell?, X8]
              have zf8 : w8.frozen? ⟨tw, 4, none⟩ = false := by simp [World.frozen?, X8]
              refine hK.out _ _ trivial (fun hHeld => ?_)
              clear hK KK hHeld
              try simp only [Act.put, List.setIfInBounds_toArray, List.set_cons_zero, List.set_cons_succ]
              refine wpAnyH_take (i := 8) (oi := ⟨some 89, .nilCheck (.tmp 81), 0, "free.go:45", #[⟨0, .data⟩, ⟨0, .phase⟩, ⟨1, .phase⟩, ⟨2, .phase⟩, ⟨3, .phase⟩, ⟨4, .phase⟩, ⟨5, .phase⟩, ⟨6, .phase⟩, ⟨7, .phase⟩], none⟩) (v := (.pointer (some ⟨tw, 0, none⟩))) rfl (by kernel_rfl) (by kernel_rfl) (by kernel_rfl) (fun _ _ _ h => h) (Or.inl ⟨by rfl, fun _ _ => by rfl⟩) trivial ?_
              simp only [Act.put, List.setIfInBounds_toArray, List.set_cons_zero, List.set_cons_succ]
              refine wpAnyH_take (i := 9) (oi := ⟨some 90, .fieldAddr 42 (.tmp 89) 4, 0, "free.go:45", #[⟨8, .data⟩, ⟨0, .phase⟩, ⟨1, .phase⟩, ⟨2, .phase⟩, ⟨3, .phase⟩, ⟨4, .phase⟩, ⟨5, .phase⟩, ⟨6, .phase⟩, ⟨7, .phase⟩], none⟩) (v := (.pointer (some ⟨tw, 4, none⟩))) rfl (by kernel_rfl) (by kernel_rfl) (by kernel_rfl) (fun _ _ _ h => h) (Or.inl ⟨by rfl, fun _ _ => by rfl⟩) trivial ?_
              simp only [Act.put, List.setIfInBounds_toArray, List.set_cons_zero, List.set_cons_succ]
              refine wpAnyH_ready (rs := [10]) (by kernel_rfl) (by simp) ?_
              refine AllReadyH.cons (o := ⟨none, .store 33 (.tmp 90) (.tmp 88), 0, "free.go:45", #[⟨9, .data⟩, ⟨7, .data⟩, ⟨7, .chain⟩, ⟨0, .phase⟩, ⟨1, .phase⟩, ⟨2, .phase⟩, ⟨3, .phase⟩, ⟨4, .phase⟩, ⟨5, .phase⟩, ⟨6, .phase⟩, ⟨7, .phase⟩], none⟩) rfl (fun KK hK => ?_) (AllReadyH.nil)
              go_simp
              refine hK.out _ _ trivial (fun hHeld => ?_)
              clear hK KK hHeld
              try simp only [Act.put, List.setIfInBounds_toArray, List.set_cons_zero, List.set_cons_succ]
              refine wpAnyH_done (by kernel_rfl) ?_ _
              have HE := town_end D T B ltw lo lw ho HL.out hxl hxz hat5 T6 t6 o7 b7 ho8 hg8 hat8
              obtain ⟨W9, hW9⟩ : ∃ W9, w8.setCell ⟨tw, 4, none⟩ (.slice (some ⟨g8, 0, none⟩) (L + 1) c8) = W9 := ⟨_, rfl⟩
              rw [hW9] at HE
              try rw [hW9]
              clear hW9 z4 zf8 X8 ho8 hg8 hat8 hlt8 rw7 u4 u4a T7 o7 b7 T6 t6 hW6 y4d ho5 hg5 hat5 hlt5 T D
              go_wp2_with fail
              go_roundw
              case rel => exact ⟨b + 1, by omega, by simp, HE⟩
              case measure => simp [intOf]; omega
      · have ho2 : ¬ b < 2 ∧ b < 32 := by
          simp [outB7] at ho; omega
        have hb2i : ¬ (b : Int) < 2 := by omega
        have h32i : ¬ (32 : Int) ≤ b := by omega
        have HE : TR w G tw db (b + 1) w4 := by
          have e : outs (b + 1) = outs b := by rw [outs_succ]; simp [ho]
          exact ⟨ov, wv, xs, D, by rw [e]; exact T, by rw [e]; exact hxl, hxz, lo, lw, B⟩
        clear D T hxl
        go_wp2_with fail
        go_roundw
        case rel => exact ⟨b + 1, by omega, by simp, HE⟩
        case measure => simp [intOf]; omega
    · have hb40 : b = 40 := by omega
      subst hb40
      have HT : Hid (Dev w4 db 0 F40 40 30 G ∧ Tn w4 G tw db ov wv (outs 40) xs ∧ xs.length = 10) := ⟨D, T, by rw [hxl, outs_40]; rfl⟩
      clear D T hxl
      go_wp2_with fail
      refine (num7 0 w4).mono ?_
      rintro e w5 ⟨rfl, rfl⟩
      go_wp2_with fail
      obtain ⟨Dz, Tz, lz⟩ := HT.out
      refine bodyPost_ret (results_tmp2 rfl _ _ _) rfl ?_
      exact ⟨tw, db, 30, G, ov, wv, xs, rfl, Dz, by omega, fun i hi => (f3 i hi).1, Tz, lz, hxz, ltw, lo, lw, B⟩
end Go.Proofs.YtnmdnglbpkpfdaaGreatDoor

/- place and with by their contracts. -/
namespace Go.Proofs.YtnmdnglbpkpfdaaGreatDoor
open Go.RowKit Go.Maps
set_option maxRecDepth 100000
set_option maxHeartbeats 400000 in
theorem place7 {w : World} {G : Nat → Prop} {tw db : Nat} {ov wv : Value} {os : List Nat} {xs : List It} (h : Tn w G tw db ov wv os xs) (ho : os.length = 10) (b : Int) :
    Calls Tryz.prog 26 #[.pointer (some ⟨tw, 0, none⟩), .int .i64 b] w fun e w' => ∃ k : Nat, k < 10 ∧ e = .returned (.int .i64 k) ∧ w' = w := by
  have r := h.o.row
  rw [ho] at r
  obtain ⟨g, cap, rfl, _⟩ := (row_nat r).resolve_left (fun q => by cases q.2)
  have y3 : w.cell? ⟨tw, 3, none⟩ = some (.slice (some ⟨g, 0, none⟩) 10 cap) := by simp [World.cell?, h.box]
  have t1 : b.tmod 10 < 10 := Int.tmod_lt_of_pos b (by omega)
  have t2 : -10 < b.tmod 10 := Int.lt_tmod_of_pos b (by omega)
  clear r h ho
  go_enter Tryz.func26, Tryz.ntmps26
  go_wp2_with fail
  go_ret
  exact ⟨((b.tmod 10 + 10) % 10).toNat, by omega, by rw [Int.toNat_of_nonneg (by omega)]; rfl, rfl⟩
/-- A number laid into a rising list, as with does it. -/
def wStep (b : Nat) (s : Bool × List Nat) (x : Nat) : Bool × List Nat := if s.1 = true then (true, s.2 ++ [x]) else if x = b then (true, s.2 ++ [x]) else if b < x then (true, s.2 ++ [b, x]) else (false, s.2 ++ [x])
def withF (l : List Nat) (b : Nat) : List Nat := if (l.foldl (wStep b) (false, [])).1 = true then (l.foldl (wStep b) (false, [])).2 else (l.foldl (wStep b) (false, [])).2 ++ [b]
theorem wStep_done (b : Nat) : ∀ (l acc : List Nat), l.foldl (wStep b) (true, acc) = (true, acc ++ l)
  | [], acc => by simp
  | x :: l, acc => by
    rw [List.foldl_cons, show wStep b (true, acc) x = (true, acc ++ [x]) from by simp [wStep], wStep_done b l]
    simp
theorem with_put (b g : Nat) : ∀ (m : List (Nat × Nat)) (acc : List Nat), (if ((m.map (·.1)).foldl (wStep b) (false, acc)).1 = true then ((m.map (·.1)).foldl (wStep b) (false, acc)).2 else ((m.map (·.1)).foldl (wStep b) (false, acc)).2 ++ [b]) = acc ++ (mput m b g).map (·.1)
  | [], acc => by simp [mput]
  | p :: r, acc => by
    rw [List.map_cons, List.foldl_cons]
    unfold mput
    by_cases h1 : b < p.1
    · rw [show wStep b (false, acc) p.1 = (true, acc ++ [b, p.1]) from by simp [wStep, h1, show ¬ p.1 = b by omega], wStep_done, if_pos h1]
      simp
    · by_cases h2 : b = p.1
      · rw [show wStep b (false, acc) p.1 = (true, acc ++ [p.1]) from by simp [wStep, h2], wStep_done, if_neg h1, if_pos h2]
        simp [h2]
      · rw [show wStep b (false, acc) p.1 = (false, acc ++ [p.1]) from by simp [wStep, h1, show ¬ p.1 = b by omega], with_put b g r, if_neg h1, if_neg h2]
        simp
theorem withF_put (m : List (Nat × Nat)) (b g : Nat) : withF (m.map (·.1)) b = (mput m b g).map (·.1) := by
  have := with_put b g m []
  simpa [withF] using this
theorem Nat.i64_cases (d : Bool) (x b : Nat) : (d = true ∧ x < b) ∨ (d = true ∧ x = b) ∨ (d = true ∧ b < x) ∨ (d = false ∧ x < b) ∨ (d = false ∧ x = b) ∨ (d = false ∧ b < x) := by
  cases d <;> simp <;> omega
set_option maxHeartbeats 1000000 in
theorem with7_pos (g o cap n b : Nat) (l : List Nat) (w : World) (hn : n ≤ 1000) (hbb : b ≤ 1000) (hl : l.length = n) (hc : ∀ t, t < n → w.cell? ⟨g, o + t, none⟩ = some (.int .i64 ((l.getD t 0) : Nat))) :
    Calls Tryz.prog 29 #[.slice (some ⟨g, o, none⟩) n cap, .int .i64 (b : Nat)] w fun e w' => ∃ v, e = .returned v ∧ w'.ownsRow w.heap.size 3 1 v (withF l b).length ((withF l b).map fun x => .int .i64 (x : Nat)) ∧ Below w.heap.size w w' := by
  obtain ⟨i0, hi, hz0, hz1, hz2⟩ := info_parts Tryz.info3
  have hni : (n : Int) ≤ 1000 := by omega
  go_enter Tryz.func29, Tryz.ntmps29
  go_wp2
  go_loopw [5, 6, 7] (fun v d i wr => ∃ (k N : Nat) (dn : Bool) (ms : List Nat), k ≤ n ∧ d = .bool dn ∧ i = .int .i64 k ∧ N ≤ 2 * k ∧ (l.take k).foldl (wStep b) (false, []) = (dn, ms) ∧ wr.ownsRow w.heap.size 3 1 v N (ms.map fun x => .int .i64 (x : Nat)) ∧ Below w.heap.size w wr) (fun _ _ i _ => n - (intOf i).toNat)
  case atStart => exact ⟨0, 0, false, [], Nat.zero_le _, rfl, rfl, by omega, rfl, World.ownsRow_nil _ _ _ _, Below.refl _ _⟩
  case round =>
    obtain ⟨k, N, dn, ms, hk, rfl, rfl, hN, hf, hown, hb⟩ := hrel
    have hbs := hb.size
    by_cases hlt : k < n
    · have hc0 := hc k hlt
      have hck := cell_later hb hc0
      have HS : Hid ((l.take (k + 1)).foldl (wStep b) (false, []) = wStep b (dn, ms) (l.getD k 0)) := by
        show (l.take (k + 1)).foldl (wStep b) (false, []) = wStep b (dn, ms) (l.getD k 0)
        rw [show l.take (k + 1) = l.take k ++ [l.getD k 0] from by
          rw [List.take_succ_eq_append_getElem (by omega)]
          simp [List.getD, show k < l.length by omega], List.foldl_append, hf]
        rfl
      clear hc hf
      generalize l.getD k 0 = C at *
      rcases Nat.i64_cases dn C b with hcase | hcase | hcase | hcase | hcase | hcase
      · obtain ⟨rfl, hcb⟩ := hcase
        have c1 : ((C : Nat) : Int) ≠ (b : Nat) := by omega
        have c2 : ¬ ((b : Nat) : Int) < (C : Nat) := by omega
        have c1n : Hid (¬ C = b) := (by omega : ¬ C = b)
        have c2n : Hid (¬ b < C) := (by omega : ¬ b < C)
        go_wp2_with (at_builtin; refine wpList_append_own _ rfl _ _ 40 rfl w.heap.size 3 i0 (.int .i64 0) 1 8 Tryz.underlying40 hi hz0 hz1 hz2 rfl (by decide) _ N _ rfl (hown.alloc _) ⟨wr.heap.size, 0, none⟩ 1 1 [.int .i64 (C : Nat)] rfl rfl (cell_one7 _ _ _) (by intro u hu; simp at hu; subst hu; rfl) (by unfold maxLen; omega) (by omega) (by simp; omega) ?_; intro v' w1 hown1 hgrow1 _)
        go_roundw
        case rel =>
          refine ⟨k + 1, N + 1, true, ms ++ [C], by omega, rfl, by go_num, by omega, ?_, ?_, ?_⟩
          · rw [HS.out]; simp [wStep]
          · simpa using hown1
          · exact (hb.alloc hb.size _).grown hgrow1 (by simp; omega) (fun k hk => (hown.lt k hk).1)
        case measure => simp [intOf]; omega
      · obtain ⟨rfl, rfl⟩ := hcase
        have c2 : ¬ ((C : Nat) : Int) < (C : Nat) := by omega
        go_wp2_with (at_builtin; refine wpList_append_own _ rfl _ _ 40 rfl w.heap.size 3 i0 (.int .i64 0) 1 8 Tryz.underlying40 hi hz0 hz1 hz2 rfl (by decide) _ N _ rfl (hown.alloc _) ⟨wr.heap.size, 0, none⟩ 1 1 [.int .i64 (C : Nat)] rfl rfl (cell_one7 _ _ _) (by intro u hu; simp at hu; subst hu; rfl) (by unfold maxLen; omega) (by omega) (by simp; omega) ?_; intro v' w1 hown1 hgrow1 _)
        go_roundw
        case rel =>
          refine ⟨k + 1, N + 1, true, ms ++ [C], by omega, rfl, by go_num, by omega, ?_, ?_, ?_⟩
          · rw [HS.out]; simp [wStep]
          · simpa using hown1
          · exact (hb.alloc hb.size _).grown hgrow1 (by simp; omega) (fun k hk => (hown.lt k hk).1)
        case measure => simp [intOf]; omega
      · obtain ⟨rfl, hcb⟩ := hcase
        have c1 : ((C : Nat) : Int) ≠ (b : Nat) := by omega
        have c2 : ((b : Nat) : Int) < (C : Nat) := by omega
        have c1n : Hid (¬ C = b) := (by omega : ¬ C = b)
        have c2n : Hid (b < C) := (by assumption : b < C)
        go_wp2_with (at_builtin; refine wpList_append_own _ rfl _ _ 40 rfl w.heap.size 3 i0 (.int .i64 0) 1 8 Tryz.underlying40 hi hz0 hz1 hz2 rfl (by decide) _ N _ rfl (hown.alloc _) ⟨wr.heap.size, 0, none⟩ 1 1 [.int .i64 (C : Nat)] rfl rfl (cell_one7 _ _ _) (by intro u hu; simp at hu; subst hu; rfl) (by unfold maxLen; omega) (by omega) (by simp; omega) ?_; intro v' w1 hown1 hgrow1 _)
        go_roundw
        case rel =>
          refine ⟨k + 1, N + 1, true, ms ++ [C], by omega, rfl, by go_num, by omega, ?_, ?_, ?_⟩
          · rw [HS.out]; simp [wStep]
          · simpa using hown1
          · exact (hb.alloc hb.size _).grown hgrow1 (by simp; omega) (fun k hk => (hown.lt k hk).1)
        case measure => simp [intOf]; omega
      · obtain ⟨rfl, hcb⟩ := hcase
        have c1 : ((C : Nat) : Int) ≠ (b : Nat) := by omega
        have c2 : ¬ ((b : Nat) : Int) < (C : Nat) := by omega
        have c1n : Hid (¬ C = b) := (by omega : ¬ C = b)
        have c2n : Hid (¬ b < C) := (by omega : ¬ b < C)
        go_wp2_with (at_builtin; refine wpList_append_own _ rfl _ _ 40 rfl w.heap.size 3 i0 (.int .i64 0) 1 8 Tryz.underlying40 hi hz0 hz1 hz2 rfl (by decide) _ N _ rfl (hown.alloc _) ⟨wr.heap.size, 0, none⟩ 1 1 [.int .i64 (C : Nat)] rfl rfl (cell_one7 _ _ _) (by intro u hu; simp at hu; subst hu; rfl) (by unfold maxLen; omega) (by omega) (by simp; omega) ?_; intro v' w1 hown1 hgrow1 _)
        go_roundw
        case rel =>
          refine ⟨k + 1, N + 1, false, ms ++ [C], by omega, rfl, by go_num, by omega, ?_, ?_, ?_⟩
          · rw [HS.out]; simp [wStep, c1n.out, c2n.out]
          · simpa using hown1
          · exact (hb.alloc hb.size _).grown hgrow1 (by simp; omega) (fun k hk => (hown.lt k hk).1)
        case measure => simp [intOf]; omega
      · obtain ⟨rfl, rfl⟩ := hcase
        have c2 : ¬ ((C : Nat) : Int) < (C : Nat) := by omega
        go_wp2_with (at_builtin; refine wpList_append_own _ rfl _ _ 40 rfl w.heap.size 3 i0 (.int .i64 0) 1 8 Tryz.underlying40 hi hz0 hz1 hz2 rfl (by decide) _ N _ rfl (hown.alloc _) ⟨wr.heap.size, 0, none⟩ 1 1 [.int .i64 (C : Nat)] rfl rfl (cell_one7 _ _ _) (by intro u hu; simp at hu; subst hu; rfl) (by unfold maxLen; omega) (by omega) (by simp; omega) ?_; intro v' w1 hown1 hgrow1 _)
        go_roundw
        case rel =>
          refine ⟨k + 1, N + 1, true, ms ++ [C], by omega, rfl, by go_num, by omega, ?_, ?_, ?_⟩
          · rw [HS.out]; simp [wStep]
          · simpa using hown1
          · exact (hb.alloc hb.size _).grown hgrow1 (by simp; omega) (fun k hk => (hown.lt k hk).1)
        case measure => simp [intOf]; omega
      · obtain ⟨rfl, hcb⟩ := hcase
        have c1 : ((C : Nat) : Int) ≠ (b : Nat) := by omega
        have c2 : ((b : Nat) : Int) < (C : Nat) := by omega
        have c1n : Hid (¬ C = b) := (by omega : ¬ C = b)
        have c2n : Hid (b < C) := (by assumption : b < C)
        go_wp2_with (at_builtin; first | (refine wpList_append_own _ rfl _ _ 40 rfl w.heap.size 3 i0 (.int .i64 0) 1 8 Tryz.underlying40 hi hz0 hz1 hz2 rfl (by decide) _ N _ rfl (hown.alloc _) ⟨wr.heap.size, 0, none⟩ 1 1 [.int .i64 (b : Nat)] rfl rfl (cell_one7 _ _ _) (by intro u hu; simp at hu; subst hu; rfl) (by unfold maxLen; omega) (by omega) (by simp; omega) ?_; intro v' w1 hown1 hgrow1 _; have s1 := hgrow1.1; have hb1 := (hb.alloc hb.size _).grown hgrow1 (by simp; omega) (fun k hk => (hown.lt k hk).1); have hs1 := hb1.size; replace hck := cell_later hb1 hc0) | (refine wpList_append_own _ rfl _ _ 40 rfl w.heap.size 3 i0 (.int .i64 0) 1 8 Tryz.underlying40 hi hz0 hz1 hz2 rfl (by decide) _ (N + 1) _ rfl (hown1.alloc _) ⟨w1.heap.size, 0, none⟩ 1 1 [.int .i64 (C : Nat)] rfl rfl (cell_one7 _ _ _) (by intro u hu; simp at hu; subst hu; rfl) (by unfold maxLen; omega) (by omega) (by simp; omega) ?_; intro v2 w2 hown2 hgrow2 _))
        go_roundw
        case rel =>
          refine ⟨k + 1, N + 2, true, ms ++ [b, C], by omega, rfl, by go_num, by omega, ?_, ?_, ?_⟩
          · rw [HS.out]; simp [wStep, c2n.out, c1n.out]
          · simpa using hown2
          · exact (hb1.alloc hs1 _).grown hgrow2 (by simp; omega) (fun k hk => (hown1.lt k hk).1)
        case measure => simp [intOf]; omega
    · obtain rfl : k = n := by omega
      rw [List.take_of_length_le (by omega)] at hf
      have HF : Hid (withF l b = if dn = true then ms else ms ++ [b]) := by
        show withF l b = if dn = true then ms else ms ++ [b]
        unfold withF; rw [hf]
      have hlen : ms.length = N := by simpa using hown.1
      clear hc hf
      cases dn
      · go_wp2_with (at_builtin; refine wpList_append_own _ rfl _ _ 40 rfl w.heap.size 3 i0 (.int .i64 0) 1 8 Tryz.underlying40 hi hz0 hz1 hz2 rfl (by decide) _ N _ rfl (hown.alloc _) ⟨wr.heap.size, 0, none⟩ 1 1 [.int .i64 (b : Nat)] rfl rfl (cell_one7 _ _ _) (by intro u hu; simp at hu; subst hu; rfl) (by unfold maxLen; omega) (by omega) (by simp; omega) ?_; intro v' w1 hown1 hgrow1 _)
        go_ret
        refine ⟨_, rfl, ?_, (hb.alloc hb.size _).grown hgrow1 (by simp; omega) (fun k hk => (hown.lt k hk).1)⟩
        rw [HF.out]
        simpa [hlen] using hown1
      · go_wp2
        go_ret
        refine ⟨_, rfl, ?_, hb⟩
        have hm : withF l b = ms := by rw [HF.out]; rfl
        rw [hm, hlen]
        exact hown
set_option maxHeartbeats 400000 in
theorem with7_zero (ao : Option Addr) (cap b : Nat) (w : World) :
    Calls Tryz.prog 29 #[.slice ao 0 cap, .int .i64 (b : Nat)] w fun e w' => ∃ v, e = .returned v ∧ w'.ownsRow w.heap.size 3 1 v 1 [.int .i64 (b : Nat)] ∧ Below w.heap.size w w' := by
  obtain ⟨i0, hi, hz0, hz1, hz2⟩ := info_parts Tryz.info3
  go_enter Tryz.func29, Tryz.ntmps29
  go_wp2
  go_loopw [5, 6, 7] (fun v d i wr => d = .bool false ∧ i = .int .i64 0 ∧ wr.ownsRow w.heap.size 3 1 v 0 [] ∧ Below w.heap.size w wr) (fun _ _ _ _ => 0)
  case atStart => exact ⟨rfl, rfl, World.ownsRow_nil _ _ _ _, Below.refl _ _⟩
  case round =>
    obtain ⟨rfl, rfl, hown, hb⟩ := hrel
    have hbs := hb.size
    go_wp2_with (at_builtin; refine wpList_append_own _ rfl _ _ 40 rfl w.heap.size 3 i0 (.int .i64 0) 1 8 Tryz.underlying40 hi hz0 hz1 hz2 rfl (by decide) _ 0 _ rfl (hown.alloc _) ⟨wr.heap.size, 0, none⟩ 1 1 [.int .i64 (b : Nat)] rfl rfl (cell_one7 _ _ _) (by intro u hu; simp at hu; subst hu; rfl) (by unfold maxLen; omega) (by omega) (by simp; omega) ?_; intro v' w1 hown1 hgrow1 _)
    go_ret
    exact ⟨_, rfl, hown1, (hb.alloc hb.size _).grown hgrow1 (by simp; omega) (fun k hk => (hown.lt k hk).1)⟩
/-- with: a new row, the number in it. -/
theorem with7 {w : World} {G : Nat → Prop} {v : Value} {l : List Nat} (h : Ns w G v l) (hn : l.length ≤ 1000) (b : Nat) (hb : b ≤ 1000) (hG : ∀ i, G i → i < w.heap.size) :
    Calls Tryz.prog 29 #[v, .int .i64 (b : Nat)] w fun e w' => ∃ v', e = .returned v' ∧ Ns w' G v' (withF l b) ∧ (∀ b, v'.ownBlock = some b → w.heap.size ≤ b) ∧ Below w.heap.size w w' := by
  rcases row_nat h.row with ⟨rfl, h0⟩ | ⟨g, cap, rfl, hc⟩
  · obtain rfl := List.eq_nil_of_length_eq_zero h0
    refine (with7_zero none 0 b w).mono ?_
    rintro e w' ⟨v', rfl, ho, hb⟩
    exact ⟨v', rfl, ⟨own_zero ho, fun b hb r => by { have := hG b r; have := (ho.lt b hb).1; omega }⟩, fun b hb => (ho.lt b hb).1, hb⟩
  · refine (with7_pos g 0 cap l.length b l w hn hb rfl (fun t ht => by rw [hc t ht]; simp [List.getD, ht])).mono ?_
    rintro e w' ⟨v', rfl, ho, hb⟩
    exact ⟨v', rfl, ⟨own_zero ho, fun b hb r => by { have := hG b r; have := (ho.lt b hb).1; omega }⟩, fun b hb => (ho.lt b hb).1, hb⟩
end Go.Proofs.YtnmdnglbpkpfdaaGreatDoor

/- holds by its contract. -/
namespace Go.Proofs.YtnmdnglbpkpfdaaGreatDoor
open Go.RowKit Go.Maps
set_option maxRecDepth 100000
theorem outs_in {o : Nat} (h : o ∈ outs 40) : o < 40 ∧ (o < 2 ∨ 2 + 30 ≤ o) := by
  unfold outs outB7 at h
  simp at h
  omega
theorem outs_len : (outs 40).length = 10 := by rw [outs_40]; rfl
/-- Where a town's rows lie. -/
theorem Tn.form {w : World} {G : Nat → Prop} {tw db : Nat} {ov wv : Value} {xs : List It} (h : Tn w G tw db ov wv (outs 40) xs) (hx : xs.length = 10) : ∃ go co gw cw, ov = .slice (some ⟨go, 0, none⟩) 10 co ∧ wv = .slice (some ⟨gw, 0, none⟩) 10 cw := by
  have r1 := h.o.row
  rw [outs_len] at r1
  have r2 := h.x.row
  rw [hx] at r2
  obtain ⟨go, co, e1, _⟩ := (row_nat r1).resolve_left (fun q => by cases q.2)
  obtain ⟨gw, cw, e2, _⟩ := (row_nat r2).resolve_left (fun q => by cases q.2)
  exact ⟨go, co, gw, cw, e1, e2⟩
structure TnC (w : World) (tw go co gw cw k o : Nat) (x : It) : Prop where
  c3 : w.cell? ⟨tw, 3, none⟩ = some (.slice (some ⟨go, 0, none⟩) 10 co)
  c4 : w.cell? ⟨tw, 4, none⟩ = some (.slice (some ⟨gw, 0, none⟩) 10 cw)
  ck : w.cell? ⟨go, k, none⟩ = some (.int .i64 (o : Nat))
  cx : w.cell? ⟨gw, k, none⟩ = some (.slice (some ⟨x.g, 0, none⟩) 512 x.cap)
theorem Tn.cells {w : World} {G : Nat → Prop} {tw db go co gw cw k o : Nat} {x : It} {xs : List It} (h : Tn w G tw db (.slice (some ⟨go, 0, none⟩) 10 co) (.slice (some ⟨gw, 0, none⟩) 10 cw) (outs 40) xs) (hx : xs.length = 10) (hk : k < 10) (ho : (outs 40)[k]? = some o) (hxk : xs[k]? = some x) : TnC w tw go co gw cw k o x := by
  have r1 := h.o.row
  rw [outs_len] at r1
  have r2 := h.x.row
  rw [hx] at r2
  refine ⟨by simp [World.cell?, h.box], by simp [World.cell?, h.box], ?_, ?_⟩
  · rw [r1.cellAt k (by omega), List.getElem?_map, ho]; rfl
  · rw [r2.cellAt k (by omega), List.getElem?_map, hxk]; rfl
end Go.Proofs.YtnmdnglbpkpfdaaGreatDoor
